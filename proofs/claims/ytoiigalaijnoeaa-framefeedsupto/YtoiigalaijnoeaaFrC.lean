/-
  Layer 3 (frame): contracts of writeHeader, Put.
-/
import Derived.Test.YtoiigalaijnoeaaFrB
namespace Go.Proofs.Ytoiigalaijnoeaa
open Go.RowKit

theorem marks_next (k r : Nat) : (List.replicate k (255 : Int) ++ List.replicate (r + 1) 0).set k 255 = List.replicate (k + 1) 255 ++ List.replicate r 0 := by
  rw [List.set_append_right _ _ (by simp), List.length_replicate, Nat.sub_self, List.replicate_succ, List.set_cons_zero, List.replicate_succ', List.append_assoc]
  rfl
def headed (a b k : Int) (r : Nat) : List Int := List.replicate 16 255 ++ ([a, b, k] ++ List.replicate r 0)
theorem headed_of (a b k : Int) (r : Nat) : (((List.replicate 16 (255 : Int) ++ List.replicate (3 + r) 0).set 16 a).set 17 b).set 18 k = headed a b k r := by
  rw [show 3 + r = r + 1 + 1 + 1 from by omega, List.replicate_succ, List.replicate_succ, List.replicate_succ]
  rfl

def WroteH (w : World) (g : Nat) (k : Int) (r : Nat) (e : Ending) (w' : World) : Prop :=
  e = .returned (.tuple #[]) ∧ Byt w' g 5 (headed ((19 + (r : Int)) / 256) ((19 + (r : Int)) % 256) k r) ∧ w.grownBy w' (some g)

set_option maxHeartbeats 1000000 in
theorem writeHeader_is (w : World) (g r : Nat) (k : Int) (hb : Byt w g 5 (List.replicate (19 + r) 0)) (hr : r ≤ 60000) (hk0 : 0 ≤ k) (hk : k < 256) :
    Calls Try.prog 30 #[.slice (some ⟨g, 0, none⟩) (19 + r) (19 + r), .int .i64 k] w (WroteH w g k r) := by
  have H := Lib.hid hb
  clear hb
  go_enter Try.func30, Try.ntmps30
  go_wp2
  go_loopw [4, 5] (fun _ i wr => ∃ j : Nat, j ≤ 16 ∧ i = .int .i64 j ∧ Byt wr g 5 (List.replicate j 255 ++ List.replicate (19 + r - j) 0) ∧ w.grownBy wr (some g)) (fun _ i _ => 16 - (intOf i).toNat)
  case atStart => exact ⟨0, Nat.zero_le _, rfl, by simpa using H.out, only_refl w _⟩
  case round =>
    obtain ⟨j, hj, rfl, hb, hg⟩ := hrel
    by_cases hlt : j < 16
    · have hc := hb.cell (i := j) (by simp; omega)
      have hf := hb.frozen j
      have hs := hb.set_ j 255
      rw [show 19 + r - j = 19 + r - (j + 1) + 1 from by omega, marks_next] at hs
      have H1 := Lib.hid hs
      have H2 := Lib.hid hg
      clear hs hb hg
      generalize (List.replicate j (255 : Int) ++ List.replicate (19 + r - j) 0).getD j 0 = x at *
      go_wp2
      exact ⟨⟨j + 1, by omega, by go_num, H1.out, only_setCell H2.out (.inl rfl) _⟩, by simp [intOf]; omega⟩
    · obtain rfl : j = 16 := by omega
      rw [show 19 + r - 16 = 3 + r from by omega] at hb
      have hc16 := hb.cell (i := 16) (by simp; omega)
      have hf16 := hb.frozen 16
      have hs16 := hb.set_ 16 ((19 + (r : Int)) / 256)
      have hc17 := hs16.cell (i := 17) (by simp; omega)
      have hf17 := hs16.frozen 17
      have hs17 := hs16.set_ 17 ((19 + (r : Int)) % 256)
      have hc18 := hs17.cell (i := 18) (by simp; omega)
      have hf18 := hs17.frozen 18
      have hs18 := hs17.set_ 18 k
      rw [headed_of] at hs18
      have H1 := Lib.hid hs18
      have H2 := Lib.hid hg
      clear hs16 hs17 hs18 hb hg
      generalize (List.replicate 16 (255 : Int) ++ List.replicate (3 + r) 0).getD 16 0 = x16 at *
      generalize ((List.replicate 16 (255 : Int) ++ List.replicate (3 + r) 0).set 16 ((19 + (r : Int)) / 256)).getD 17 0 = x17 at *
      generalize (((List.replicate 16 (255 : Int) ++ List.replicate (3 + r) 0).set 16 ((19 + (r : Int)) / 256)).set 17 ((19 + (r : Int)) % 256)).getD 18 0 = x18 at *
      go_wp2
      go_end0
      exact ⟨rfl, H1.out, only_setCell (only_setCell (only_setCell H2.out (.inl rfl) _) (.inl rfl) _) (.inl rfl) _⟩

/-- What Put answers: an error, or none; the bytes. -/
def putErr (k : Int) (n : Nat) : Int := if isKindB k = false then 2 else if (n : Int) < leastI k then 3 else if mostI k < (n : Int) then 5 else 0
def putBytes (k : Int) (l : List Int) : List Int := if putErr k l.length = 0 then putL k l else []
def PutR (w : World) (k : Int) (l : List Int) (e : Ending) (w' : World) : Prop :=
  Below w.heap.size w w' ∧ ∃ A, e = .returned (.tuple #[.slice A (putBytes k l).length (putBytes k l).length, .int .i64 (putErr k l.length)]) ∧ Fresh w.heap.size w' A (putBytes k l).length (putBytes k l)
theorem putErr_zero {k : Int} {n : Nat} : putErr k n = 0 ↔ FitsB k n := by
  unfold putErr FitsB
  constructor
  · intro h
    split at h
    · cases h
    · rename_i h1
      split at h
      · cases h
      · split at h
        · cases h
        · exact ⟨by simpa using h1, by omega, by omega⟩
  · rintro ⟨h1, h2, h3⟩
    rw [if_neg (by simp [h1]), if_neg (by omega), if_neg (by omega)]
theorem putErr_2 {k : Int} {n : Nat} (h : isKindB k = false) : putErr k n = 2 := by unfold putErr; rw [if_pos h]
theorem putErr_3 {k : Int} {n : Nat} (h : isKindB k = true) (h2 : (n : Int) < leastI k) : putErr k n = 3 := by unfold putErr; rw [if_neg (by simp [h]), if_pos h2]
theorem putErr_5 {k : Int} {n : Nat} (h : isKindB k = true) (h2 : ¬ (n : Int) < leastI k) (h3 : mostI k < (n : Int)) : putErr k n = 5 := by unfold putErr; rw [if_neg (by simp [h]), if_neg h2, if_pos h3]
theorem putR_no {w w' : World} {k : Int} {l : List Int} {x : Int} (h : putErr k l.length = x) (hx : x ≠ 0) (hb : Below w.heap.size w w') : PutR w k l (.returned (.tuple #[.slice none 0 0, .int .i64 x])) w' := by
  have e : putBytes k l = [] := by unfold putBytes; rw [if_neg (by rw [h]; exact hx)]
  refine ⟨hb, none, ?_, ?_⟩
  · rw [e, h]; rfl
  · rw [e]; exact Fresh.none_
theorem putR_yes {w w' : World} {k : Int} {l : List Int} {g n : Nat} (h : FitsB k l.length) (hn : n = 19 + l.length) (hg : w.heap.size ≤ g) (ho : Oct l) (hy : Byt w' g 5 (putL k l)) (hb : Below w.heap.size w w') :
    PutR w k l (.returned (.tuple #[.slice (some ⟨g, 0, none⟩) n n, .int .i64 0])) w' := by
  have e : putBytes k l = putL k l := by unfold putBytes; rw [if_pos (putErr_zero.2 h)]
  subst hn
  refine ⟨hb, some ⟨g, 0, none⟩, ?_, ?_⟩
  · rw [e, putErr_zero.2 h, putL_len]
  · rw [e, putL_len]; exact ⟨putL_oct k l h ho, putL_len k l, .inr ⟨g, rfl, hg, hy⟩⟩

theorem putL_eq (k : Int) (l : List Int) (n : Nat) (h : l.length = n) : List.replicate 16 255 ++ ([(19 + (n : Int)) / 256, (19 + (n : Int)) % 256, k] ++ l) = putL k l := by
  subst h
  unfold putL
  rw [show ((19 + l.length : Nat) : Int) = 19 + (l.length : Int) from by omega]
theorem copy_behind (w : World) (g n c : Nat) (A : Option Addr) (k : Int) (l : List Int) (a b : Int) (hr : Rd w w.heap.size A n l) (hn : 0 < n) (hg : Byt w g 5 (headed a b k n)) (ty : TypeId) :
    ∃ w', (Builtin.copy_ #[22, 22] ty #[.slice (some ⟨g, 19, none⟩) n n, .slice A n c]).run Try.prog w = .ok (.int .i64 n) w' ∧ Byt w' g 5 (List.replicate 16 255 ++ ([a, b, k] ++ l)) ∧ w.grownBy w' (some g) := by
  obtain ⟨b0, off, rfl, hb, hc⟩ := hr.at_ hn
  have hl := hr.len
  have hrun := run_copy_row (P := Try.prog) w 22 22 ty 5 g 19 n n ⟨b0, off, none⟩ n c _ 5 (l.map (Value.int .u8)) Try.underlying22 size_byte hg
    (by rw [List.length_map, hl]; exact (Nat.min_self _).symm) (src_u8 hl hc) (by simp [headed]; omega) (one_u8 l)
  rw [List.length_map, hl] at hrun
  refine ⟨_, hrun, ?_, ⟨rfl, rfl, rfl, by simp [World.setRow], fun i _ hne => setRow_other w g i _ (fun e => hne (by rw [e]))⟩⟩
  unfold Byt at hg ⊢
  rw [setRow_heap _ _ _ _ _ _ hg]
  congr 2
  simp [headed]
  omega

set_option maxHeartbeats 2000000 in
theorem put_is (w : World) (k : Int) (A : Option Addr) (n c : Nat) (l : List Int) (h : Rd w w.heap.size A n l) (hm : n ≤ 140737488355328) :
    Calls Try.prog 10 #[.agg #[.int .i64 k, .slice A n c]] w (PutR w k l) := by
  have H := Lib.hid h
  have hlen := Lib.hid h.len
  clear h
  have HL0 : Hid (Below w.heap.size w (w.alloc (.cells #[.int .i64 k, .slice A n c] 24))) := Lib.hid ((Below.refl _ _).alloc (Nat.le_refl _) _)
  have HB0 : Hid (Blk (w.alloc (.cells #[.int .i64 k, .slice A n c] 24)) w.heap.size 24 #[.int .i64 k, .slice A n c]) := Lib.hid (Blk.new w _ _)
  have bl := leastI_bd k
  have bm := mostI_bd k
  cases hkb : isKindB k
  · have HE := Lib.hid (putErr_2 (n := l.length) hkb)
    have HK := Lib.hid hkb
    clear hkb
    go_enter Try.func10, Try.ntmps10
    go_wp2_with fail
    refine (isKind_is _ k false HK.out).mono ?_
    rintro e w' ⟨rfl, rfl⟩
    go_wp2
    go_ret2
    exact putR_no HE.out (by omega) HL0.out
  have HK := Lib.hid hkb
  by_cases hl1 : (n : Int) < leastI k
  · have HE := Lib.hid (putErr_3 (n := l.length) hkb (by rw [hlen.out]; exact hl1))
    have HC := Lib.hid (fun w => least_is w k)
    clear hkb
    generalize leastI k = a at *
    generalize mostI k = b at *
    go_enter Try.func10, Try.ntmps10
    go_wp2_with fail
    refine (isKind_is _ k true HK.out).mono ?_
    rintro e w' ⟨rfl, rfl⟩
    go_wp2_with fail
    refine (HC.out _).mono ?_
    rintro e w' ⟨rfl, rfl⟩
    go_wp2
    go_ret2
    exact putR_no HE.out (by omega) HL0.out
  by_cases hl2 : mostI k < (n : Int)
  · have HE := Lib.hid (putErr_5 (n := l.length) hkb (by rw [hlen.out]; exact hl1) (by rw [hlen.out]; exact hl2))
    have HC := Lib.hid (fun w => least_is w k)
    clear hkb
    generalize leastI k = a at *
    generalize mostI k = b at *
    go_enter Try.func10, Try.ntmps10
    go_wp2_with fail
    refine (isKind_is _ k true HK.out).mono ?_
    rintro e w' ⟨rfl, rfl⟩
    go_wp2_with fail
    refine (HC.out _).mono ?_
    rintro e w' ⟨rfl, rfl⟩
    go_wp2
    go_ret2
    exact putR_no HE.out (by omega) HL0.out
  · have HFit : Hid (FitsB k l.length) := Lib.hid ⟨hkb, by rw [hlen.out]; omega, by rw [hlen.out]; omega⟩
    have HC := Lib.hid (fun w => least_is w k)
    have hk5 : 1 ≤ k ∧ k ≤ 5 := by unfold isKindB at hkb; simpa using hkb
    have hmk := run_make_row' (P := Try.prog) 22 5 (.int .u8 0) 1 Try.underlying22 info_byte rfl .i64 .i64 (19 + n) (by omega) (by omega) (w.alloc (.cells #[.int .i64 k, .slice A n c] 24))
    rw [show ((19 + n : Nat) : Int) = 19 + (n : Int) from by omega] at hmk
    have HY := Lib.hid (byt_made (w.alloc (.cells #[.int .i64 k, .slice A n c] 24)) (19 + n) 5)
    clear hkb
    generalize leastI k = a at *
    generalize mostI k = b at *
    go_enter Try.func10, Try.ntmps10
    go_wp2_with fail
    refine (isKind_is _ k true HK.out).mono ?_
    rintro e w' ⟨rfl, rfl⟩
    go_wp2_with fail
    refine (HC.out _).mono ?_
    rintro e w' ⟨rfl, rfl⟩
    go_wp2_with fail
    have HY' : Hid (Byt ((w.alloc (.cells #[.int .i64 k, .slice A n c] 24)).alloc (.cells (madeCells #[.int .u8 0] (19 + n)) 5)) (w.heap.size + 1) 5 (List.replicate (19 + n) 0)) := Lib.hid (by
      have e := HY.out
      simp only [World.size_alloc] at e
      exact e)
    have HB1 : Hid (Blk ((w.alloc (.cells #[.int .i64 k, .slice A n c] 24)).alloc (.cells (madeCells #[.int .u8 0] (19 + n)) 5)) w.heap.size 24 #[.int .i64 k, .slice A n c]) := Lib.hid (HB0.out.alloc _)
    have HL1 : Hid (Below w.heap.size w ((w.alloc (.cells #[.int .i64 k, .slice A n c] 24)).alloc (.cells (madeCells #[.int .u8 0] (19 + n)) 5))) := Lib.hid (HL0.out.alloc (by simp) _)
    clear HY HB0 HL0 hmk
    generalize (w.alloc (.cells #[.int .i64 k, .slice A n c] 24)).alloc (.cells (madeCells #[.int .u8 0] (19 + n)) 5) = w1 at *
    refine (writeHeader_is w1 (w.heap.size + 1) n k HY'.out (by omega) (by omega) (by omega)).mono ?_
    rintro e w2 ⟨rfl, hby, hgr⟩
    have hB2 := HB1.out.grown hgr (by simp)
    have HL2 : Hid (Below w.heap.size w w2) := Lib.hid (HL1.out.grown hgr HL1.out.size (by rintro g hg; injection hg with hg; omega))
    have HR2 := Lib.hid (H.out.below HL2.out)
    have c0 : w2.cell? ⟨w.heap.size, 1, none⟩ = some (.slice A n c) := hB2.cell 1
    have HY2 := Lib.hid hby
    clear hby hgr hB2 HB1 HY' HL1
    by_cases hn0 : n = 0
    · subst hn0
      obtain rfl : l = [] := List.eq_nil_of_length_eq_zero hlen.out
      have hcp := run_copy_none (P := Try.prog) w2.drew 22 22 3 5 (some ⟨w.heap.size + 1, 0, none⟩) A 0 0 0 c Try.underlying22 size_byte (by simp)
      go_wp2
      go_region
      go_wp2
      go_ret2
      refine putR_yes (g := w.heap.size + 1) (n := 19) HFit.out rfl (by omega) H.out.oct ?_ (below_drewN HL2.out 1)
      rw [← putL_eq k [] 0 rfl]
      exact HY2.out
    · obtain ⟨w3, hcp, hy3, hg3⟩ := copy_behind w2.drew (w.heap.size + 1) n c A k l _ _ ((HR2.out.keep (w' := w2.drew) fun _ _ => rfl).more HL2.out.size) (by omega) HY2.out 3
      rw [putL_eq k l n hlen.out] at hy3
      have HY3 := Lib.hid hy3
      have HG3 := Lib.hid hg3
      clear hy3 hg3
      go_wp2
      go_region
      go_wp2
      go_ret2
      exact putR_yes (g := w.heap.size + 1) (n := 19 + n) HFit.out (by rw [hlen.out]) (by omega) H.out.oct HY3.out ((below_drewN HL2.out 1).grown HG3.out HL2.out.size (by rintro g hg; injection hg with hg; omega))
end Go.Proofs.Ytoiigalaijnoeaa
