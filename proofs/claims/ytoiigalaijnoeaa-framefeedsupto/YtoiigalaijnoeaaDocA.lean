/-
  The document's helpers of layer 1, as every later layer uses them: Same, Spoil, Lent, Kept.
-/
import Derived.Test.YtoiigalaijnoeaaWords
import Derived.Test.YtoiigalaijnoeaaProg
import Derived.Outline
import Derived.BigQuiet
import Derived.WalkLawsBesides
import Derived.Laws.BitsAllLaws
namespace Go.Proofs.Ytoiigalaijnoeaa
open Go.RowKit

theorem info_byte : (Try.prog.info? 5).map (fun i => (i.zero, i.size, i.bytes)) = some (some (.int .u8 0), 1, 1) := by kernel_rfl
theorem size_byte : (Try.prog.info? 5).map (·.size) = some 1 := by kernel_rfl
theorem one_u8 (l : List Int) : ∀ v ∈ l.map (Value.int .u8), v.oneCell' = true := by
  intro v hv
  obtain ⟨x, _, rfl⟩ := List.mem_map.1 hv
  rfl

theorem src_u8 {w : World} {b off n : Nat} {l : List Int} (hl : l.length = n) (hc : ∀ i, i < n → w.cell? ⟨b, off + i, none⟩ = some (.int .u8 (l.getD i 0))) :
    ∀ j v, (l.map (Value.int .u8))[j]? = some v → w.cell? ((⟨b, off, none⟩ : Addr).add j) = some v := by
  intro j v hv
  have e : (⟨b, off, none⟩ : Addr).add j = ⟨b, off + j, none⟩ := by unfold Addr.add; split <;> simp_all
  rw [List.getElem?_map] at hv
  obtain ⟨x, hx, rfl⟩ := Option.map_eq_some_iff.1 hv
  obtain ⟨hj, _⟩ := List.getElem?_eq_some_iff.1 hx
  rw [e, hc j (by omega)]
  simp [List.getD, hx]

/-- The world behind 'make' and 'copy' to its beginning: a new block that begins with the bytes. -/
theorem copy_into (w : World) (n m : Nat) (A : Option Addr) (c : Nat) (l : List Int) (hr : Rd w w.heap.size A n l) (hnm : n ≤ m) (ty : TypeId) :
    ∃ w', (Builtin.copy_ #[22, 22] ty #[.slice (some ⟨w.heap.size, 0, none⟩) m m, .slice A n c]).run Try.prog (w.alloc (.cells (madeCells #[.int .u8 0] m) 5)) = .ok (.int .i64 n) w' ∧
      Byt w' w.heap.size 5 (l ++ List.replicate (m - n) 0) ∧ Below w.heap.size w w' ∧ w'.heap.size = w.heap.size + 1 := by
  have hm := byt_made w m 5
  have hbl : Below w.heap.size w (w.alloc (.cells (madeCells #[.int .u8 0] m) 5)) := (Below.refl _ _).alloc (Nat.le_refl _) _
  rcases Nat.eq_zero_or_pos n with h0 | hn
  · subst h0
    obtain rfl : l = [] := List.eq_nil_of_length_eq_zero hr.len
    have hrun := run_copy_none (P := Try.prog) (w.alloc (.cells (madeCells #[.int .u8 0] m) 5)) 22 22 ty 5 (some ⟨w.heap.size, 0, none⟩) A m m 0 c Try.underlying22 size_byte (by simp)
    exact ⟨_, hrun, by simpa using hm, hbl, by simp⟩
  · obtain ⟨b, off, rfl, hb, hc⟩ := hr.at_ hn
    have hrun := run_copy_row (P := Try.prog) (w.alloc (.cells (madeCells #[.int .u8 0] m) 5)) 22 22 ty 5 w.heap.size 0 m m ⟨b, off, none⟩ n c _ 5 (l.map (Value.int .u8)) Try.underlying22 size_byte hm
      (by rw [List.length_map, hr.len]; exact (Nat.min_eq_left hnm).symm) (src_u8 hr.len (fun i hi => by rw [World.cell?_alloc_lt _ _ _ hb]; exact hc i hi)) (by simp [hr.len]; omega) (one_u8 l)
    rw [List.length_map, hr.len] at hrun
    refine ⟨_, hrun, ?_, below_setRow hbl (Nat.le_refl _) _, by simp [World.setRow]⟩
    unfold Byt at hm ⊢
    rw [setRow_heap _ _ _ _ _ _ hm]
    simp

theorem same_is (w : World) (B : Nat) (A A2 : Option Addr) (n n2 c c2 : Nat) (l l2 : List Int) (h : Rd w B A n l) (h2 : Rd w B A2 n2 l2) (r : Bool) (hr : decide (l = l2) = r) :
    Calls Try.prog 14 #[.slice A n c, .slice A2 n2 c2] w fun e w' => e = .returned (.bool r) ∧ w = w' := by
  have k1 := run_conv_rd (P := Try.prog) w 22 9 5 Try.underlying22 Try.underlying5 Try.underlying9 c h
  have k2 := run_conv_rd (P := Try.prog) w 22 9 5 Try.underlying22 Try.underlying5 Try.underlying9 c2 h2
  have H := Lib.hid (beq_str l l2 h.oct h2.oct r hr)
  clear h h2 hr
  go_enter Try.func14, Try.ntmps14
  go_wp2
  go_ret
  rw [H.out]
  exact ⟨rfl, rfl⟩

/-- A row of bytes, whatever they are. -/
def Row (w : World) (g : Nat) (m : Nat) : Prop := ∃ l, Byt w g 5 l ∧ Oct l ∧ l.length = m

theorem Row.set_ {w : World} {g m : Nat} (h : Row w g m) (i : Nat) {x : Int} (h0 : 0 ≤ x) (h1 : x < 256) : Row (w.setCell ⟨g, i, none⟩ (.int .u8 x)) g m := by
  obtain ⟨l, hb, ho, hl⟩ := h
  refine ⟨l.set i x, hb.set_ i x, fun y hy => ?_, by simpa using hl⟩
  rcases List.mem_or_eq_of_mem_set hy with hy | rfl
  · exact ho y hy
  · exact ⟨h0, h1⟩

theorem wrap_u8_mod (n : Int) : IntKind.u8.wrap n = n % 256 := by simp [IntKind.wrap, IntKind.bits, IntKind.signed]
theorem xor_u8_bd (a b : Int) : 0 ≤ bits .xor .u8 a b ∧ bits .xor .u8 a b < 256 := by
  show 0 ≤ IntKind.u8.wrap _ ∧ IntKind.u8.wrap _ < 256
  rw [wrap_u8_mod]
  omega

set_option maxHeartbeats 1000000 in
theorem spoil_row (w : World) (g n c m : Nat) (h : Row w g m) (hn : n ≤ m) (hm : m ≤ 281474976710656) :
    Calls Try.prog 15 #[.slice (some ⟨g, 0, none⟩) n c] w fun e w' => e = .returned (.tuple #[]) ∧ Row w' g m ∧ w.grownBy w' (some g) := by
  have H := Lib.hid h
  clear h
  go_enter Try.func15, Try.ntmps15
  go_wp2
  go_loopw [2, 5] (fun _ i wr => ∃ k : Nat, k ≤ n ∧ i = .int .i64 k ∧ Row wr g m ∧ w.grownBy wr (some g)) (fun _ i _ => n - (intOf i).toNat)
  case atStart => exact ⟨0, Nat.zero_le _, rfl, H.out, only_refl w _⟩
  case round =>
    obtain ⟨k, hk, rfl, hr, hg⟩ := hrel
    by_cases hlt : k < n
    · have H1 := Lib.hid hr
      have H2 := Lib.hid hg
      obtain ⟨l, hb, ho, hl⟩ := hr
      have hc := hb.cell (i := k) (by omega)
      have hf := hb.frozen k
      have hx := ho.getD k
      generalize l.getD k 0 = x at *
      clear hb ho hl hg
      go_wp2
      exact ⟨⟨k + 1, by omega, by go_num, H1.out.set_ k (xor_u8_bd _ _).1 (xor_u8_bd _ _).2, only_setCell H2.out (.inl rfl) _⟩, by simp [intOf]; omega⟩
    · have H1 := Lib.hid hr
      have H2 := Lib.hid hg
      clear hr hg
      go_wp2
      go_end0
      exact ⟨rfl, H1.out, H2.out⟩

set_option maxHeartbeats 400000 in
theorem spoil_none (w : World) (A : Option Addr) (c : Nat) : Calls Try.prog 15 #[.slice A 0 c] w fun e w' => e = .returned (.tuple #[]) ∧ w = w' := by
  go_enter Try.func15, Try.ntmps15
  go_wp2
  refine wp_loop_rounds 1 ?_
  rw [rounds_succ]
  go_wp2
  go_end0
  exact ⟨rfl, rfl⟩

theorem set_next (l : List Int) (k m : Nat) (hk : k < l.length) : (l.take k ++ List.replicate (m + 1) 0).set k l[k] = l.take (k + 1) ++ List.replicate m 0 := by
  rw [List.set_append_right _ _ (by simp; omega), List.take_succ_eq_append_getElem hk, List.length_take, Nat.min_eq_left (by omega), Nat.sub_self, List.replicate_succ, List.set_cons_zero, List.append_assoc]
  rfl

def Lent (w : World) (n : Nat) (l : List Int) (e : Ending) (w' : World) : Prop :=
  e = .returned (.slice (some ⟨w.heap.size, 0, none⟩) n (n + 2)) ∧ Byt w' w.heap.size 5 (l ++ [165, 90]) ∧ Below w.heap.size w w'

set_option maxHeartbeats 1000000 in
theorem lent_is (w : World) (A : Option Addr) (n c : Nat) (l : List Int) (hr : Rd w w.heap.size A n l) (hm : n ≤ 140737488355328) :
    Calls Try.prog 9 #[.slice A n c] w (Lent w n l) := by
  have hmk := run_make_row' (P := Try.prog) 22 5 (.int .u8 0) 1 Try.underlying22 info_byte rfl .i64 .i64 (n + 2) (by omega) (by omega) w
  rw [show ((n + 2 : Nat) : Int) = (n : Int) + 2 from by omega] at hmk
  have H := Lib.hid hr
  have H0 := Lib.hid (byt_made w (n + 2) 5)
  have hlen := hr.len
  have HL := Lib.hid hlen
  clear hr hlen
  go_enter Try.func9, Try.ntmps9
  go_wp2
  go_loopw [4, 11] (fun _ i wr => ∃ k : Nat, k ≤ n ∧ i = .int .i64 k ∧ Byt wr w.heap.size 5 (l.take k ++ List.replicate (n + 2 - k) 0) ∧ Below w.heap.size w wr) (fun _ i _ => n - (intOf i).toNat)
  case atStart => exact ⟨0, Nat.zero_le _, rfl, by simpa using H0.out, (Below.refl _ _).alloc (Nat.le_refl _) _⟩
  case round =>
    obtain ⟨k, hk, rfl, hb, hB⟩ := hrel
    by_cases hlt : k < n
    · obtain ⟨b, off, rfl, hbb, hcell⟩ := H.out.at_ (by omega)
      have hkl : k < l.length := by have := HL.out; omega
      have hc : wr.cell? ⟨b, off + k, none⟩ = some (.int .u8 l[k]) := by
        rw [hB.cell (p := ⟨b, off + k, none⟩) hbb, hcell k hlt]
        simp [List.getD, List.getElem?_eq_getElem hkl]
      have hco := hb.cell (i := k) (by simp; omega)
      have hfo := hb.frozen k
      have hs := hb.set_ k l[k]
      rw [show n + 2 - k = n + 2 - (k + 1) + 1 from by omega, set_next l k _ hkl] at hs
      have H1 := Lib.hid hs
      have H2 := Lib.hid hB
      clear hs hb hB hcell
      generalize l[k] = x at *
      go_wp2
      exact ⟨⟨k + 1, by omega, by go_num, H1.out, H2.out.setCell (Nat.le_refl _) _⟩, by simp [intOf]; omega⟩
    · obtain rfl : k = n := by omega
      have hlen := HL.out
      rw [List.take_of_length_le (by omega), show k + 2 - k = 2 from by omega] at hb
      have hc1 := hb.cell (i := k) (by simp; omega)
      have hf1 := hb.frozen k
      have hs := hb.set_ k 165
      have hc2 := hs.cell (i := k + 1) (by simp; omega)
      have hf2 := hs.frozen (k + 1)
      have hs2 := hs.set_ (k + 1) 90
      have e2 : ((l ++ List.replicate 2 0).set k 165).set (k + 1) 90 = l ++ [165, 90] := by
        subst hlen
        rw [List.set_append_right _ _ (by omega), List.set_append_right _ _ (by omega), Nat.sub_self, Nat.add_sub_cancel_left]
        rfl
      rw [e2] at hs2
      have H1 := Lib.hid hs2
      have H2 := Lib.hid hB
      clear hs hs2 hb hB e2 hlen
      generalize (((l ++ List.replicate 2 0).set k 165).getD (k + 1) 0) = y at *
      generalize ((l ++ List.replicate 2 0).getD k 0) = z at *
      go_wp2
      go_ret
      exact ⟨rfl, H1.out, (H2.out.setCell (Nat.le_refl _) _).setCell (Nat.le_refl _) _⟩
set_option maxHeartbeats 400000 in
theorem kept_is (w : World) (g B : Nat) (A : Option Addr) (n c : Nat) (l : List Int) (hb : Byt w g 5 (l ++ [165, 90])) (hr : Rd w B A n l) (hm : n ≤ 140737488355328) :
    Calls Try.prog 16 #[.slice (some ⟨g, 0, none⟩) n (n + 2), .slice A n c] w fun e w' => e = .returned (.bool true) ∧ w = w' := by
  have hl := hr.len
  have c1 : w.cell? ⟨g, n, none⟩ = some (.int .u8 165) := by
    rw [hb.cell (i := n) (by simp; omega), ← hl]; simp [List.getD]
  have c2 : w.cell? ⟨g, n + 1, none⟩ = some (.int .u8 90) := by
    rw [hb.cell (i := n + 1) (by simp; omega), ← hl]; simp [List.getD]
  have hro : Rd w (max B (g + 1)) (some ⟨g, 0, none⟩) n l := by
    refine ⟨hl, hr.oct, fun hn => ⟨g, 0, rfl, by omega, fun i hi => ?_⟩⟩
    rw [Nat.zero_add, hb.cell (i := i) (by simp; omega)]
    simp [List.getD, List.getElem?_append_left (show i < l.length by omega)]
  have H := Lib.hid (same_is w (max B (g + 1)) (some ⟨g, 0, none⟩) A n n (n + 2) c l l hro (hr.more (by omega)) true (by simp))
  have e1 : ((n : Int) != (n : Int)) = false := by simp
  clear hb hr hl hro
  go_enter Try.func16, Try.ntmps16
  go_wp2_with fail
  refine H.out.mono ?_
  rintro e w' ⟨rfl, rfl⟩
  go_wp2
  go_ret
  exact ⟨rfl, rfl⟩

end Go.Proofs.Ytoiigalaijnoeaa
