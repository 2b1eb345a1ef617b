/-
  The document's answer, layer 2: Decimal.
-/
import Derived.Test.YtfapmedlnaikiaaDoorAdG
import Derived.Lib.LazyBuf
import Derived.IntWalk
namespace Go.Proofs.YtfapmedlnaikiaaDoor
open Go.RowKit
set_option linter.unusedSimpArgs false
set_option linter.unusedVariables false

/-- Decimal digits as numbers. -/
def dgs (u : Nat) : List Int := (Lib.decDigits u).map fun b => (b.toNat : Int)
theorem dgs_str (u : Nat) : strOfNums (dgs u) = ⟨(Lib.decDigits u).toArray⟩ := Lib.Lz.strOfNums_map _
theorem dgs_small (u : Nat) (h : u < 10) : dgs u = [48 + (u : Int)] := by
  unfold dgs
  rw [Lib.decDigits, dif_pos h]
  simp
  omega
theorem dgs_big (u : Nat) (h : ¬ u < 10) : dgs u = dgs (u / 10) ++ [48 + ((u % 10 : Nat) : Int)] := by
  unfold dgs
  rw [Lib.decDigits, dif_neg h]
  simp
  omega
/-- What is left of n, and the digits that were written. -/
def DecSt (n m : Nat) (j : Nat) (tl : List Int) : Prop := tl.length = j ∧ j ≤ 20 ∧ m < 10 ^ (20 - j) ∧ ((m = 0 ∧ 1 ≤ j ∧ dgs n = tl) ∨ ((0 < m ∨ j = 0) ∧ dgs n = dgs m ++ tl))
theorem decSt_step {n m j : Nat} {tl : List Int} (h : DecSt n m j tl) (hc : j = 0 ∨ 0 < m) : j < 20 ∧ DecSt n (m / 10) (j + 1) ((48 + ((m % 10 : Nat) : Int)) :: tl) := by
  obtain ⟨h1, h2, h3, h4⟩ := h
  have hj : j < 20 := by
    rcases hc with rfl | hc
    · omega
    · rcases Nat.lt_or_ge j 20 with h | h
      · exact h
      · obtain rfl : j = 20 := by omega
        simp at h3; omega
  have hlt : m / 10 < 10 ^ (20 - (j + 1)) := by
    rw [show 20 - j = (20 - (j + 1)) + 1 by omega, Nat.pow_succ] at h3
    omega
  have h5 : dgs n = dgs m ++ tl := by
    rcases h4 with ⟨h, h', _⟩ | h
    · omega
    · exact h.2
  refine ⟨hj, by simp [h1], by omega, hlt, ?_⟩
  by_cases hm : m < 10
  · rw [dgs_small m hm] at h5
    exact .inl ⟨by omega, by omega, by rw [h5, Nat.mod_eq_of_lt hm]; rfl⟩
  · rw [dgs_big m hm, List.append_assoc] at h5
    exact .inr ⟨.inl (by omega), h5⟩
theorem info_u8r : (Tryd.prog.info? 5).map (fun i => (i.zero, i.size, i.bytes)) = some (some (.int .u8 0), 1, 1) := by kernel_rfl
theorem made20 : madeCells #[Value.int .u8 0] 20 = ((List.replicate 20 (0 : Int)).map (Value.int .u8)).toArray := by kernel_rfl
set_option maxHeartbeats 4000000 in
set_option maxRecDepth 100000 in
theorem rdec_is (w : World) (n : Nat) (hn : n < 18446744073709551616) :
    Calls Tryd.prog 52 #[.int .u64 (n : Int)] w fun e w' => e = .returned (.string (decS n)) ∧ Below w.heap.size w w' := by
  have hmk : (Instr.makeSlice 75 (.int .i64 20) (.int .i64 20)).run Tryd.prog w = .ok (.slice (some ⟨w.heap.size, 0, none⟩) 20 20) (w.alloc (.cells (madeCells #[.int .u8 0] 20) 5)) := run_make_row' (P := Tryd.prog) 75 5 (.int .u8 0) 1 Tryd.underlying75 info_u8r rfl .i64 .i64 20 (by omega) (by omega) w
  have HB0 : Hid (Byt (w.alloc (.cells (madeCells #[.int .u8 0] 20) 5)) w.heap.size 5 (List.replicate 20 0)) := Lib.hid (by rw [made20]; exact Blk.new w 5 _)
  have HL0 : Hid (Below w.heap.size w (w.alloc (.cells (madeCells #[.int .u8 0] 20) 5))) := Lib.hid ((Below.refl w.heap.size w).alloc (Nat.le_refl _) _)
  have H0 : Hid (DecSt n n 0 []) := Lib.hid ⟨rfl, by omega, Nat.lt_of_lt_of_le hn (by decide), .inr ⟨.inr rfl, by simp⟩⟩
  go_enter Tryd.func52, Tryd.ntmps52
  go_wp2
  clear hmk
  go_loopw [0, 4] (fun m at_ wr => ∃ (j u : Nat) (tl : List Int), m = .int .u64 u ∧ u ≤ n ∧ at_ = .int .i64 ((20 - j : Nat) : Int) ∧ DecSt n u j tl ∧ Byt wr w.heap.size 5 (List.replicate (20 - j) 0 ++ tl) ∧ Below w.heap.size w wr) (fun _ a _ => (intOf a).toNat)
  case atStart => exact ⟨0, n, [], rfl, Nat.le_refl _, rfl, H0.out, by simpa using HB0.out, HL0.out⟩
  case round =>
    obtain ⟨j, u, tl, rfl, hun, rfl, hst, hb, hl⟩ := hrel
    have HSt := Lib.hid hst
    have hj20 := hst.2.1
    have htl := hst.1
    have HB := Lib.hid hb
    have HL := Lib.hid hl
    clear hst hb hl HB0 HL0 H0
    by_cases hc : j = 0 ∨ 0 < u
    · obtain ⟨hj, hst2⟩ := decSt_step HSt.out hc
      have HSt2 := Lib.hid hst2
      have hcell := HB.out.cell (i := 19 - j) (by simp; omega)
      have hfz := HB.out.frozen (19 - j)
      have hset := HB.out.set_ (19 - j) (48 + ((u % 10 : Nat) : Int))
      rw [show 20 - j = (19 - j) + 1 by omega, set_zeros] at hset
      have HSet : Hid (Byt (wr.setCell ⟨w.heap.size, 19 - j, none⟩ (.int .u8 (48 + ((u % 10 : Nat) : Int)))) w.heap.size 5 (List.replicate (20 - (j + 1)) 0 ++ (48 + ((u % 10 : Nat) : Int)) :: tl)) := Lib.hid (by rw [show 20 - (j + 1) = 19 - j by omega]; exact hset)
      have HL2 := Lib.hid (HL.out.setCell (p := ⟨w.heap.size, 19 - j, none⟩) (Nat.le_refl _) (.int .u8 (48 + ((u % 10 : Nat) : Int))))
      have r10 : (u : Int) % 10 = ((u % 10 : Nat) : Int) := by omega
      have q10 : (u : Int) / 10 = ((u / 10 : Nat) : Int) := by omega
      have m1 : ((20 - j : Nat) : Int) - 1 = ((19 - j : Nat) : Int) := by omega
      have hd10 : u % 10 < 10 := by omega
      have hq10 : u / 10 ≤ u := by omega
      have HU : Hid (u / 10 ≤ n ∧ (20 - (j + 1) : Nat) = 19 - j) := Lib.hid ⟨by omega, by omega⟩
      have ge : (((20 - j : Nat) : Int) == 20) = true ∨ ((((20 - j : Nat) : Int) == 20) = false ∧ (u : Int) > 0) := by
        rcases Nat.eq_zero_or_pos j with h | h
        · exact .inl (by subst h; rfl)
        · refine .inr ⟨by simp; omega, by omega⟩
      clear hset HSt hc
      have hb20 : 20 - j ≤ 20 := by omega
      have ha20 : 19 - j < 20 := by omega
      generalize u % 10 = d at *
      generalize u / 10 = v at *
      generalize 19 - j = a at *
      generalize 20 - j = b at *
      have HW8 : Hid (IntKind.u8.wrap (48 + (d : Int)) = 48 + (d : Int)) := Lib.hid (by rw [IntKind.wrap_u8]; exact Int.emod_eq_of_lt (by omega) (by omega))
      generalize (List.replicate b 0 ++ tl).getD a 0 = old at *
      clear HB HL hst2
      have r10' : (u : Int).tmod 10 = (d : Int) := by rw [Int.tmod_eq_emod_of_nonneg (by omega)]; exact r10
      have q10' : (u : Int).tdiv 10 = (v : Int) := by rw [Int.tdiv_eq_ediv_of_nonneg (by omega)]; exact q10
      rcases ge with ge | ⟨ge, gu⟩
      · go_wp2
        exact ⟨⟨j + 1, v, (48 + (d : Int)) :: tl, rfl, HU.out.1, by rw [HU.out.2], HSt2.out, HSet.out, HL2.out⟩, by simp [intOf]; omega⟩
      · go_wp2
        exact ⟨⟨j + 1, v, (48 + (d : Int)) :: tl, rfl, HU.out.1, by rw [HU.out.2], HSt2.out, HSet.out, HL2.out⟩, by simp [intOf]; omega⟩
    · have hj0 : 1 ≤ j := by omega
      obtain rfl : u = 0 := by omega
      have HD : Hid (dgs n = tl) := Lib.hid (by
        rcases HSt.out.2.2.2 with h | h
        · exact h.2.2
        · exact absurd h.1 (by omega))
      have ge : (((20 - j : Nat) : Int) == 20) = false := by simp; omega
      have HR : Hid (Rd wr wr.heap.size (some ⟨w.heap.size, 20 - j, none⟩) j tl) := Lib.hid (by
        refine ⟨htl, ?_, fun _ => ⟨w.heap.size, 20 - j, rfl, HB.out.lt, fun i hi => ?_⟩⟩
        · rw [← HD.out]
          intro x hx
          unfold dgs at hx
          obtain ⟨c, _, rfl⟩ := List.mem_map.1 hx
          have := c.toNat_lt
          omega
        · rw [HB.out.cell (by simp; omega)]
          congr 2
          rw [List.getD_eq_getElem?_getD, List.getElem?_append_right (by simp), List.length_replicate, Nat.add_sub_cancel_left, List.getD_eq_getElem?_getD])
      have hcv := run_conv_rd (P := Tryd.prog) wr 75 9 5 Tryd.underlying75 Tryd.underlying5 Tryd.underlying9 j HR.out
      have HN : Hid (decS (n : Int) = strOfNums tl) := Lib.hid (by rw [← HD.out, dgs_str]; rfl)
      have hsub : 20 - (20 - j) = j := by omega
      have hb20 : 20 - j < 20 := by omega
      have HLL := Lib.hid HL.out
      clear HSt HB HL HD hc HR
      generalize 20 - j = b at *
      go_wp2
      go_ret
      exact ⟨by rw [HN.out]; rfl, HLL.out⟩
end Go.Proofs.YtfapmedlnaikiaaDoor
