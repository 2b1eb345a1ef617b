/-
  Layer 8: the document's right, family, four.
-/
import Derived.Test.YtgfjjkckamppoaaDoorHeD
import Derived.Laws.BitsAllLaws
namespace Go.Proofs.YtgfjjkckamppoaaDoor
open Go.RowKit
set_option maxRecDepth 100000
set_option linter.unusedSimpArgs false
set_option linter.unusedVariables false

set_option maxHeartbeats 1000000 in
theorem rright_is (w : World) (h : Hl) : Calls Tryd.prog 38 #[.agg (hlc h).toArray] w fun e w' => e = .returned (.bool (rightH h)) ∧ Below w.heap.size w w' := by
  obtain ⟨a, o, i, ev, wd, rf⟩ := h
  have HB := Lib.hid (below_one8 w (.cells (hlc ⟨a, o, i, ev, wd, rf⟩).toArray 24))
  have hc : ∀ j, (w.alloc (.cells (hlc ⟨a, o, i, ev, wd, rf⟩).toArray 24)).cell? ⟨w.heap.size, j, none⟩ = (hlc ⟨a, o, i, ev, wd, rf⟩).toArray[j]? := fun j => (Blk.new w 24 (hlc ⟨a, o, i, ev, wd, rf⟩).toArray).cell j
  have c0 := hc 0
  have c1 := hc 1
  have c2 := hc 2
  have c4 := hc 4
  generalize hz : (hlc ⟨a, o, i, ev, wd, rf⟩).toArray = z at *
  have d0 : z[0]? = some (.int .u32 a) := by rw [← hz]; rfl
  have d1 : z[1]? = some (.int .i64 o) := by rw [← hz]; rfl
  have d2 : z[2]? = some (.int .u32 i) := by rw [← hz]; rfl
  have d4 : z[4]? = some (.bool wd) := by rw [← hz]; rfl
  rw [d0] at c0
  rw [d1] at c1
  rw [d2] at c2
  rw [d4] at c4
  clear hc hz d0 d1 d2 d4
  by_cases ha : 0 < a
  case neg =>
    have HE : Hid (false = rightH ⟨a, o, i, ev, wd, rf⟩) := Lib.hid (by unfold rightH; simp; omega)
    go_enter Tryd.func38, Tryd.ntmps38
    go_wp2
    go_ret
    exact ⟨by rw [← HE.out]; rfl, HB.out⟩
  by_cases hw : wd = true ∨ a ≤ 65535
  case neg =>
    have HE : Hid (false = rightH ⟨a, o, i, ev, wd, rf⟩) := Lib.hid (by unfold rightH; exact (decide_eq_false (fun h => hw h.2.1)).symm)
    obtain rfl : wd = false := by cases wd <;> simp_all
    have hw2 : ¬ a ≤ 65535 := by simp at hw; omega
    clear hw
    go_enter Tryd.func38, Tryd.ntmps38
    go_wp2
    go_ret
    exact ⟨by rw [← HE.out]; rfl, HB.out⟩
  by_cases hi : 0 < i
  case neg =>
    have HE : Hid (false = rightH ⟨a, o, i, ev, wd, rf⟩) := Lib.hid (by unfold rightH; simp; omega)
    cases wd with
    | true =>
      clear hw
      go_enter Tryd.func38, Tryd.ntmps38
      go_wp2
      go_ret
      exact ⟨by rw [← HE.out]; rfl, HB.out⟩
    | false =>
      have hw2 : a ≤ 65535 := by simpa using hw
      clear hw
      go_enter Tryd.func38, Tryd.ntmps38
      go_wp2
      go_ret
      exact ⟨by rw [← HE.out]; rfl, HB.out⟩
  by_cases h0 : o = 0
  case pos =>
    have HE : Hid (true = rightH ⟨a, o, i, ev, wd, rf⟩) := Lib.hid (by unfold rightH; simp; exact ⟨ha, hw, hi, Or.inl h0⟩)
    subst h0
    cases wd with
    | true =>
      clear hw
      go_enter Tryd.func38, Tryd.ntmps38
      go_wp2
      go_ret
      exact ⟨by rw [← HE.out]; rfl, HB.out⟩
    | false =>
      have hw2 : a ≤ 65535 := by simpa using hw
      clear hw
      go_enter Tryd.func38, Tryd.ntmps38
      go_wp2
      go_ret
      exact ⟨by rw [← HE.out]; rfl, HB.out⟩
  have e0 : (o == 0) = false := by simpa using h0
  by_cases h3 : 3 ≤ o
  case neg =>
    have HE : Hid (false = rightH ⟨a, o, i, ev, wd, rf⟩) := Lib.hid (by unfold rightH; simp; omega)
    clear h0
    cases wd with
    | true =>
      clear hw
      go_enter Tryd.func38, Tryd.ntmps38
      go_wp2
      go_ret
      exact ⟨by rw [← HE.out]; rfl, HB.out⟩
    | false =>
      have hw2 : a ≤ 65535 := by simpa using hw
      clear hw
      go_enter Tryd.func38, Tryd.ntmps38
      go_wp2
      go_ret
      exact ⟨by rw [← HE.out]; rfl, HB.out⟩
  by_cases h6 : o ≤ 65535
  case neg =>
    have HE : Hid (false = rightH ⟨a, o, i, ev, wd, rf⟩) := Lib.hid (by unfold rightH; simp; omega)
    clear h0
    cases wd with
    | true =>
      clear hw
      go_enter Tryd.func38, Tryd.ntmps38
      go_wp2
      go_ret
      exact ⟨by rw [← HE.out]; rfl, HB.out⟩
    | false =>
      have hw2 : a ≤ 65535 := by simpa using hw
      clear hw
      go_enter Tryd.func38, Tryd.ntmps38
      go_wp2
      go_ret
      exact ⟨by rw [← HE.out]; rfl, HB.out⟩
  have HE : Hid (true = rightH ⟨a, o, i, ev, wd, rf⟩) := Lib.hid (by unfold rightH; simp; exact ⟨ha, hw, hi, Or.inr ⟨h3, h6⟩⟩)
  clear h0
  cases wd with
  | true =>
    clear hw
    go_enter Tryd.func38, Tryd.ntmps38
    go_wp2
    go_ret
    exact ⟨by rw [← HE.out]; rfl, HB.out⟩
  | false =>
    have hw2 : a ≤ 65535 := by simpa using hw
    clear hw
    go_enter Tryd.func38, Tryd.ntmps38
    go_wp2
    go_ret
    exact ⟨by rw [← HE.out]; rfl, HB.out⟩
theorem rfamily_is (w : World) : Calls Tryd.prog 39 #[] w fun e w' => e = .returned (.slice (some ⟨w.heap.size, 0, none⟩) 4 4) ∧ Byt w' w.heap.size 5 fam ∧ Below w.heap.size w w' := by
  go_enter Tryd.func39, Tryd.ntmps39
  go_wp2
  go_ret
  exact ⟨rfl, Blk.new w 5 #[.int .u8 0, .int .u8 25, .int .u8 0, .int .u8 70], below_one8 _ _⟩
set_option maxHeartbeats 1000000 in
theorem four_is (w : World) (n : Int) (hn : 0 ≤ n ∧ n < 4294967296) : Calls Tryd.prog 40 #[.int .u32 n] w fun e w' => e = .returned (.slice (some ⟨w.heap.size, 0, none⟩) 4 4) ∧ Byt w' w.heap.size 5 (be 4 n) ∧ Below w.heap.size w w' := by
  have e4 : be 4 n = [n / 16777216, n / 65536 % 256, n / 256 % 256, n % 256] := by rw [be4, show n / 16777216 % 256 = n / 16777216 by omega]
  have HEnd : Hid (Byt (w.alloc (.cells #[.int .u8 (n / 16777216), .int .u8 (n / 65536 % 256), .int .u8 (n / 256 % 256), .int .u8 (n % 256)] 5)) w.heap.size 5 (be 4 n)) := Lib.hid (by rw [e4]; exact Blk.new w 5 #[.int .u8 (n / 16777216), .int .u8 (n / 65536 % 256), .int .u8 (n / 256 % 256), .int .u8 (n % 256)])
  have HB := Lib.hid (below_one8 w (.cells #[.int .u8 (n / 16777216), .int .u8 (n / 65536 % 256), .int .u8 (n / 256 % 256), .int .u8 (n % 256)] 5))
  clear e4
  go_enter Tryd.func40, Tryd.ntmps40
  go_wp2
  go_ret
  exact ⟨rfl, HEnd.out, HB.out⟩
end Go.Proofs.YtgfjjkckamppoaaDoor
