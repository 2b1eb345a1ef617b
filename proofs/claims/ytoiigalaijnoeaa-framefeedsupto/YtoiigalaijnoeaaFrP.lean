/-
  The document's answer, layer 3: Least, known, Put.
-/
import Derived.Test.YtoiigalaijnoeaaFrJ
import Derived.BigRegion
namespace Go.Proofs.Ytoiigalaijnoeaa
open Go.RowKit
set_option linter.unusedSimpArgs false
set_option linter.unusedVariables false

theorem rleast_is (w : World) (k : Int) :
    Calls Try.prog 13 #[.int .i64 k] w fun e w' => e = .returned (.tuple #[.int .i64 (leastI k), .int .i64 (mostI k)]) ∧ w = w' := by
  by_cases h1 : k = 1
  · subst h1
    go_enter Try.func13, Try.ntmps13
    go_wp2
    go_ret2
    exact ⟨rfl, rfl⟩
  by_cases h2 : k = 2
  · subst h2
    go_enter Try.func13, Try.ntmps13
    go_wp2
    go_ret2
    exact ⟨rfl, rfl⟩
  by_cases h3 : k = 3
  · subst h3
    go_enter Try.func13, Try.ntmps13
    go_wp2
    go_ret2
    exact ⟨rfl, rfl⟩
  by_cases h5 : k = 5
  · subst h5
    go_enter Try.func13, Try.ntmps13
    go_wp2
    go_ret2
    exact ⟨rfl, rfl⟩
  have e1 : leastI k = 0 := by unfold leastI; rw [if_neg h1, if_neg h2, if_neg h3, if_neg h5]
  have e2 : mostI k = 0 := by unfold mostI; rw [if_neg h1, if_neg h2, if_neg h3, if_neg h5]
  rw [e1, e2]
  have b1 : (k == 1) = false := by simpa using h1
  have b2 : (k == 2) = false := by simpa using h2
  have b3 : (k == 3) = false := by simpa using h3
  have b5 : (k == 5) = false := by simpa using h5
  clear e1 e2 h1 h2 h3 h5
  go_enter Try.func13, Try.ntmps13
  go_wp2
  go_ret2
  exact ⟨rfl, rfl⟩

theorem known_is (w : World) (k : Int) (r : Bool) (h : isKindB k = r) :
    Calls Try.prog 31 #[.int .i64 k] w fun e w' => e = .returned (.bool r) ∧ w = w' := by
  unfold isKindB at h
  by_cases h1 : 1 ≤ k
  · by_cases h2 : k ≤ 5
    · obtain rfl : r = true := by rw [← h]; simp [h1, h2]
      clear h
      go_enter Try.func31, Try.ntmps31
      go_wp2
      go_ret
      exact ⟨rfl, rfl⟩
    · obtain rfl : r = false := by rw [← h]; simp [h2]
      clear h
      go_enter Try.func31, Try.ntmps31
      go_wp2
      go_ret
      exact ⟨rfl, rfl⟩
  · obtain rfl : r = false := by rw [← h]; simp [h1]
    clear h
    go_enter Try.func31, Try.ntmps31
    go_wp2
    go_ret
    exact ⟨rfl, rfl⟩

/-- What the document's Put answers. -/
def RPutR (w : World) (k : Int) (l : List Int) (e : Ending) (w' : World) : Prop :=
  Below w.heap.size w w' ∧ ∃ A c, e = .returned (.tuple #[.slice A (putBytes k l).length c, .int .i64 (putErr k l.length)]) ∧ Rd w' w'.heap.size A (putBytes k l).length (putBytes k l)
theorem rputR_no {w w' : World} {k : Int} {l : List Int} {x : Int} (h : putErr k l.length = x) (hx : x ≠ 0) (hb : Below w.heap.size w w') : RPutR w k l (.returned (.tuple #[.slice none 0 0, .int .i64 x])) w' := by
  have e : putBytes k l = [] := by unfold putBytes; rw [if_neg (by rw [h]; exact hx)]
  refine ⟨hb, none, 0, ?_, ?_⟩
  · rw [e, h]; rfl
  · rw [e]; exact Rd.nil_ _
theorem rputR_yes {w w' : World} {k : Int} {l : List Int} {g n c : Nat} (h : FitsB k l.length) (hn : n = 19 + l.length) (ho : Oct l) (hy : Byt w' g 5 (putL k l)) (hb : Below w.heap.size w w') :
    RPutR w k l (.returned (.tuple #[.slice (some ⟨g, 0, none⟩) n c, .int .i64 0])) w' := by
  have e : putBytes k l = putL k l := by unfold putBytes; rw [if_pos (putErr_zero.2 h)]
  subst hn
  refine ⟨hb, some ⟨g, 0, none⟩, c, ?_, ?_⟩
  · rw [e, putErr_zero.2 h, putL_len]
  · rw [e]; exact hy.rd_all (putL_oct k l h ho) hy.lt

theorem run_app_room (w : World) (g n c : Nat) (A : Option Addr) (k : Int) (l : List Int) (a b : Int) (hr : Rd w w.heap.size A n l) (hg : Byt w g 5 (headed a b k n)) (ty : TypeId) :
    ∃ w', (Builtin.append_ #[22, 22] ty #[.slice (some ⟨g, 0, none⟩) 19 (19 + n), .slice A n c]).run Try.prog w = .ok (.slice (some ⟨g, 0, none⟩) (19 + n) (19 + n)) w' ∧ Byt w' g 5 (List.replicate 16 255 ++ ([a, b, k] ++ l)) ∧ w.grownBy w' (some g) := by
  obtain ⟨i, hi, hz0, hz1, hz2⟩ := info_parts info_byte
  have hl := hr.len
  cases hA : A with
  | none =>
    have hn : n = 0 := by
      rcases Nat.eq_zero_or_pos n with h0 | h0
      · exact h0
      · obtain ⟨_, _, e, _⟩ := hr.at_ h0
        rw [hA] at e
        cases e
    subst hn
    obtain rfl : l = [] := List.eq_nil_of_length_eq_zero hl
    refine ⟨w, ?_, hg, only_refl w _⟩
    simp [Builtin.append_, run_underlying Try.underlying22, sizeOf, typeInfo, hi, Builtin.lenOf, Builtin.firstCells, storeCells]
  | some ad =>
    have hsrc : ∀ j v, (l.map (Value.int .u8))[j]? = some v → w.cell? (ad.add j) = some v := by
      rcases Nat.eq_zero_or_pos n with h0 | h0
      · subst h0
        obtain rfl : l = [] := List.eq_nil_of_length_eq_zero hl
        intro j v hv
        simp at hv
      · obtain ⟨b0, off, e, hb, hc⟩ := hr.at_ h0
        rw [hA] at e
        injection e with e
        subst e
        exact src_u8 hl hc
    have hrun := run_append_room (P := Try.prog) w 22 ty 5 i Try.underlying22 hi g 19 (19 + n) _ hg ad n c (l.map (Value.int .u8)) (by rw [List.length_map, hl, hz1, Nat.mul_one]) hsrc (one_u8 l) (Nat.le_refl _) (by rw [hz1]; simp [headed, hl]; omega)
    refine ⟨_, hrun, ?_, ⟨rfl, rfl, rfl, by simp [World.setRow], fun i _ hne => setRow_other w g i _ (fun e => hne (by rw [e]))⟩⟩
    unfold Byt at hg ⊢
    rw [setRow_heap _ _ _ _ _ _ hg, hz1]
    congr 2
    simp [headed, hl]
    omega

theorem app_room_arm {ops : Array Oper} {rest : List Oper} {o : Oper} {a : Act} {Q : Exit → Act → World → Prop} (hgd : o.guard = none) (s x : Operand) (ho : o.op = .call { callee := .builtin .append, args := #[s, x], argTypes := #[22, 22] })
    {w : World} {g n c : Nat} {A : Option Addr} {k : Int} {l : List Int} {y z : Int} (hr : Rd w w.heap.size A n l) (hg : Byt w g 5 (headed y z k n)) (hs : a.eval s = .slice (some ⟨g, 0, none⟩) 19 (19 + n)) (hx : a.eval x = .slice A n c)
    (hk : ∀ w', Byt w' g 5 (List.replicate 16 255 ++ ([y, z, k] ++ l)) → w.grownBy w' (some g) → wpList Try.prog ops Q rest (a.put o.dst (.slice (some ⟨g, 0, none⟩) (19 + n) (19 + n))) w') : wpList Try.prog ops Q (o :: rest) a w := by
  refine wpList_plain hgd fun K hK => ?_
  obtain ⟨w', hrun, h1, h2⟩ := run_app_room w g n c A k l y z hr hg o.type
  unfold Oper.wp execOp
  simp only [ho, resolve, invoke, builtin, Sem.run_bind, Sem.run_pure, Result.andThen_ok, List.map_toArray, List.map_cons, List.map_nil, hs, hx, hrun]
  exact hK _ _ (hk w' h1 h2)

set_option maxHeartbeats 4000000 in
theorem rput_is (w : World) (k : Int) (A : Option Addr) (n c : Nat) (l : List Int) (h : Rd w w.heap.size A n l) (hm : n ≤ 140737488355328) :
    Calls Try.prog 11 #[.agg #[.int .i64 k, .slice A n c]] w (RPutR w k l) := by
  have H := Lib.hid h
  have hlen := Lib.hid h.len
  clear h
  have HL0 : Hid (Below w.heap.size w (w.alloc (.cells #[.int .i64 k, .slice A n c] 24))) := Lib.hid ((Below.refl _ _).alloc (Nat.le_refl _) _)
  have HB0 : Hid (Blk (w.alloc (.cells #[.int .i64 k, .slice A n c] 24)) w.heap.size 24 #[.int .i64 k, .slice A n c]) := Lib.hid (Blk.new w _ _)
  have bl := leastI_bd k
  have bm := mostI_bd k
  cases hkb : isKindB k
  · have HE := Lib.hid (putErr_2 (n := l.length) hkb)
    have HK := Lib.hid hkb
    clear hkb
    go_enter Try.func11, Try.ntmps11
    go_wp2_with fail
    refine (known_is _ k false HK.out).mono ?_
    rintro e w' ⟨rfl, rfl⟩
    go_wp2
    go_ret2
    exact rputR_no HE.out (by omega) HL0.out
  have HK := Lib.hid hkb
  by_cases hl1 : (n : Int) < leastI k
  · have HE := Lib.hid (putErr_3 (n := l.length) hkb (by rw [hlen.out]; exact hl1))
    have HC := Lib.hid (fun w => rleast_is w k)
    clear hkb
    generalize leastI k = a at *
    generalize mostI k = b at *
    go_enter Try.func11, Try.ntmps11
    go_wp2_with fail
    refine (known_is _ k true HK.out).mono ?_
    rintro e w' ⟨rfl, rfl⟩
    go_wp2_with fail
    refine (HC.out _).mono ?_
    rintro e w' ⟨rfl, rfl⟩
    go_wp2
    go_ret2
    exact rputR_no HE.out (by omega) HL0.out
  by_cases hl2 : mostI k < (n : Int)
  · have HE := Lib.hid (putErr_5 (n := l.length) hkb (by rw [hlen.out]; exact hl1) (by rw [hlen.out]; exact hl2))
    have HC := Lib.hid (fun w => rleast_is w k)
    clear hkb
    generalize leastI k = a at *
    generalize mostI k = b at *
    go_enter Try.func11, Try.ntmps11
    go_wp2_with fail
    refine (known_is _ k true HK.out).mono ?_
    rintro e w' ⟨rfl, rfl⟩
    go_wp2_with fail
    refine (HC.out _).mono ?_
    rintro e w' ⟨rfl, rfl⟩
    go_wp2
    go_ret2
    exact rputR_no HE.out (by omega) HL0.out
  · have HFit : Hid (FitsB k l.length) := Lib.hid ⟨hkb, by rw [hlen.out]; omega, by rw [hlen.out]; omega⟩
    have HC := Lib.hid (fun w => rleast_is w k)
    have hk5 : 1 ≤ k ∧ k ≤ 5 := by unfold isKindB at hkb; simpa using hkb
    clear hkb
    generalize leastI k = a at *
    generalize mostI k = b at *
    have hn4 : n ≤ 4077 := by omega
    have hmk : (Instr.makeSlice 22 (.int .i64 19) (.int .i64 (19 + (n : Int)))).run Try.prog (w.alloc (.cells #[.int .i64 k, .slice A n c] 24)) =
        .ok (.slice (some ⟨w.heap.size + 1, 0, none⟩) 19 (19 + n)) ((w.alloc (.cells #[.int .i64 k, .slice A n c] 24)).alloc (.cells (madeCells #[.int .u8 0] (19 + n)) 5)) := by
      obtain ⟨i0, hi, hz0, hz1, hz2⟩ := info_parts info_byte
      have h := run_make (P := Try.prog) (w.alloc (.cells #[.int .i64 k, .slice A n c] 24)) 22 5 i0 (.int .u8 0) Try.underlying22 hi hz0 .i64 .i64 19 (19 + (n : Int)) (by omega) (by omega) (by rw [hz2]; omega) (by omega)
      have e : (19 + (n : Int)).toNat = 19 + n := by omega
      rw [e] at h
      simpa [hz1, Value.cells] using h
    have HY : Hid (Byt ((w.alloc (.cells #[.int .i64 k, .slice A n c] 24)).alloc (.cells (madeCells #[.int .u8 0] (19 + n)) 5)) (w.heap.size + 1) 5 (List.replicate (19 + n) 0)) := Lib.hid (by
      have e := byt_made (w.alloc (.cells #[.int .i64 k, .slice A n c] 24)) (19 + n) 5
      simp only [World.size_alloc] at e
      exact e)
    have HB1 : Hid (Blk ((w.alloc (.cells #[.int .i64 k, .slice A n c] 24)).alloc (.cells (madeCells #[.int .u8 0] (19 + n)) 5)) w.heap.size 24 #[.int .i64 k, .slice A n c]) := Lib.hid (HB0.out.alloc _)
    have HL1 : Hid (Below w.heap.size w ((w.alloc (.cells #[.int .i64 k, .slice A n c] 24)).alloc (.cells (madeCells #[.int .u8 0] (19 + n)) 5))) := Lib.hid (HL0.out.alloc (by simp) _)
    go_enter Try.func11, Try.ntmps11
    go_wp2_with fail
    refine (known_is _ k true HK.out).mono ?_
    rintro e w' ⟨rfl, rfl⟩
    go_wp2_with fail
    refine (HC.out _).mono ?_
    rintro e w' ⟨rfl, rfl⟩
    go_wp2
    clear hmk HB0 HL0
    generalize (w.alloc (.cells #[.int .i64 k, .slice A n c] 24)).alloc (.cells (madeCells #[.int .u8 0] (19 + n)) 5) = w1 at *
    go_loopw [8] (fun i wr => ∃ j : Nat, j ≤ 16 ∧ i = .int .i64 j ∧ Byt wr (w.heap.size + 1) 5 (List.replicate j 255 ++ List.replicate (19 + n - j) 0) ∧ w1.grownBy wr (some (w.heap.size + 1))) (fun i _ => 16 - (intOf i).toNat)
    case atStart => exact ⟨0, Nat.zero_le _, rfl, by simpa using HY.out, only_refl w1 _⟩
    case round =>
      obtain ⟨j, hj, rfl, hb, hg⟩ := hrel
      by_cases hlt : j < 16
      · have hc := hb.cell (i := j) (by simp; omega)
        have hf := hb.frozen j
        have hs := hb.set_ j 255
        rw [show 19 + n - j = 19 + n - (j + 1) + 1 from by omega, marks_next] at hs
        have H1 := Lib.hid hs
        have H2 := Lib.hid hg
        clear hs hb hg
        generalize (List.replicate j (255 : Int) ++ List.replicate (19 + n - j) 0).getD j 0 = x at *
        go_wp2
        exact ⟨⟨j + 1, by omega, by go_num, H1.out, only_setCell H2.out (.inl rfl) _⟩, by simp [intOf]; omega⟩
      · obtain rfl : j = 16 := by omega
        rw [show 19 + n - 16 = 3 + n from by omega] at hb
        have c0 : wr.cell? ⟨w.heap.size, 0, none⟩ = some (.int .i64 k) := (HB1.out.grown hg (by simp)).cell 0
        have hc16 := hb.cell (i := 16) (by simp; omega)
        have hc17 := hb.cell (i := 17) (by simp; omega)
        have hc18 := hb.cell (i := 18) (by simp; omega)
        have hf16 := hb.frozen 16
        have hf17 := hb.frozen 17
        have hf18 := hb.frozen 18
        have HS : Hid (Byt (((wr.setCell ⟨w.heap.size + 1, 16, none⟩ (.int .u8 ((19 + (n : Int)) / 256))).setCell ⟨w.heap.size + 1, 17, none⟩ (.int .u8 ((19 + (n : Int)) % 256))).setCell ⟨w.heap.size + 1, 18, none⟩ (.int .u8 k)) (w.heap.size + 1) 5 (headed ((19 + (n : Int)) / 256) ((19 + (n : Int)) % 256) k n)) := Lib.hid (by
          have h := ((hb.set_ 16 ((19 + (n : Int)) / 256)).set_ 17 ((19 + (n : Int)) % 256)).set_ 18 k
          rw [headed_of] at h
          exact h)
        have HG : Hid (w1.grownBy (((wr.setCell ⟨w.heap.size + 1, 16, none⟩ (.int .u8 ((19 + (n : Int)) / 256))).setCell ⟨w.heap.size + 1, 17, none⟩ (.int .u8 ((19 + (n : Int)) % 256))).setCell ⟨w.heap.size + 1, 18, none⟩ (.int .u8 k)) (some (w.heap.size + 1))) := Lib.hid (only_set1 (only_set1 (only_set1 hg 16 _) 17 _) 18 _)
        clear hb hg
        generalize (List.replicate 16 (255 : Int) ++ List.replicate (3 + n) 0).getD 16 0 = x16 at *
        generalize (List.replicate 16 (255 : Int) ++ List.replicate (3 + n) 0).getD 17 0 = x17 at *
        generalize (List.replicate 16 (255 : Int) ++ List.replicate (3 + n) 0).getD 18 0 = x18 at *
        have q1 : IntKind.i64.wrap (19 + (n : Int)) = 19 + (n : Int) := IntWalk.i64_in _ (by omega)
        have q2 : (19 + (n : Int)).tdiv 256 = (19 + (n : Int)) / 256 := Int.tdiv_eq_ediv_of_nonneg (by omega)
        have q3 : (19 + (n : Int)).tmod 256 = (19 + (n : Int)) % 256 := Int.tmod_eq_emod_of_nonneg (by omega)
        have q4 : IntKind.u8.wrap ((19 + (n : Int)) / 256) = (19 + (n : Int)) / 256 := by rw [wrap_u8_mod]; omega
        have q5 : IntKind.u8.wrap ((19 + (n : Int)) % 256) = (19 + (n : Int)) % 256 := by rw [wrap_u8_mod]; omega
        have q6 : IntKind.u8.wrap k = k := by rw [wrap_u8_mod]; omega
        have q7 : IntKind.i64.wrap ((19 + (n : Int)) / 256) = (19 + (n : Int)) / 256 := IntWalk.i64_in _ (by omega)
        have q8 : IntKind.i64.wrap ((19 + (n : Int)) % 256) = (19 + (n : Int)) % 256 := IntWalk.i64_in _ (by omega)
        go_wp2
        go_region
        clear c0 hc16 hc17 hc18 hf16 hf17 hf18 q1 q2 q3 q4 q5 q6 q7 q8
        generalize ((wr.setCell ⟨w.heap.size + 1, 16, none⟩ (.int .u8 ((19 + (n : Int)) / 256))).setCell ⟨w.heap.size + 1, 17, none⟩ (.int .u8 ((19 + (n : Int)) % 256))).setCell ⟨w.heap.size + 1, 18, none⟩ (.int .u8 k) = w6 at *
        have c1 : w6.cell? ⟨w.heap.size, 1, none⟩ = some (.slice A n c) := (HB1.out.grown HG.out (by simp)).cell 1
        have HL6 : Hid (Below w.heap.size w w6.drew) := Lib.hid (below_drewN (HL1.out.grown HG.out HL1.out.size (by rintro g hg; injection hg with hg; omega)) 1)
        have HR6 : Hid (Rd w6.drew w6.drew.heap.size A n l) := Lib.hid ((H.out.below HL6.out).more HL6.out.size)
        go_wp2_with (at_builtin; refine app_room_arm (w := w6.drew) rfl _ _ rfl HR6.out HS.out rfl rfl ?_)
        intro w7 hy7 hg7
        have HY7 := Lib.hid hy7
        have HL7 : Hid (Below w.heap.size w w7) := Lib.hid (HL6.out.grown hg7 HL6.out.size (by rintro g hg; injection hg with hg; omega))
        clear hy7 hg7
        go_wp2
        go_ret2
        exact rputR_yes (g := w.heap.size + 1) HFit.out (by rw [hlen.out]) H.out.oct (by rw [← putL_eq k l n hlen.out]; exact HY7.out) HL7.out
end Go.Proofs.Ytoiigalaijnoeaa
