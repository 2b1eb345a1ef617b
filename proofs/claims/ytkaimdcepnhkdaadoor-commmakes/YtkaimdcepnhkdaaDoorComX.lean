/-
  What each row of layer 4 needs round its walk.
-/
import Derived.Test.YtkaimdcepnhkdaaDoorAdX
namespace Go.Proofs.YtkaimdcepnhkdaaDoor
open Go.RowKit Go.ChangeShapes Go.WideShapes Go.ChangeAt
set_option linter.unusedVariables false
set_option maxRecDepth 100000

def laidL3 : List (String × DataW Unit) := [("math/bits.deBruijn32tab", Rows.laid_math_bits_deBruijn32tab), ("math/bits.deBruijn64tab", Rows.laid_math_bits_deBruijn64tab), ("internal/strconv.uint64pow10", Rows.laid_internal_strconv_uint64pow10)]
theorem env_of3 {W : World} (h : W.ShapedOpen Tryd.prog) (hL : laidMet Tryd.prog laidL3 W) : Env W := by
  have hL1 := laidMet.tail hL
  have hL2 := laidMet.tail hL1
  refine ⟨cell_of_shapedOpen_int (g := 0) (t := 3) (zero := #[.int .i64 0]) h (Nat.le_of_ble_eq_true (by kernel_rfl)) (by kernel_rfl) rfl (by kernel_rfl) (by kernel_rfl) Tryd.underlying3, ?_, ?_, ?_⟩
  · have hT : Lib.TabIs Tryd.prog W "internal/strconv.uint64pow10" .u64 Lib.pow10Tab := Lib.tabIs_of_head (g := 1) (t := 199) (e := 100) (n := 20) (by kernel_rfl) (by kernel_rfl) (by kernel_rfl) (by kernel_rfl) (by kernel_rfl) (by kernel_rfl) (show laidMet Tryd.prog (("internal/strconv.uint64pow10", Lib.tabData .u64 Lib.pow10Tab) :: _) W from hL2)
    unfold Lib.TabIs World.var? at hT
    rw [show Tryd.prog.globalNamed "internal/strconv.uint64pow10" = some 1 by kernel_rfl] at hT
    simp only [Option.bind_some] at hT
    cases hh : W.heap[1]? with
    | none => rw [hh] at hT; cases hT
    | some o =>
      rw [hh] at hT
      cases o <;> first | (cases hT; done) | skip
      rename_i c t z
      simp only [Option.some.injEq] at hT
      exact ⟨t, z, by rw [hT]⟩
  · have hT : Lib.TabIs Tryd.prog W "math/bits.deBruijn64tab" .u8 (Lib.deBruijn64tab.map fun (n : Nat) => (n : Int)) := Lib.tabIs_of_head (g := 3) (t := 209) (e := 5) (n := 64) (by kernel_rfl) (by kernel_rfl) (by kernel_rfl) (by kernel_rfl) (by kernel_rfl) (by kernel_rfl) (show laidMet Tryd.prog (("math/bits.deBruijn64tab", Lib.tabData .u8 (Lib.deBruijn64tab.map fun (n : Nat) => (n : Int))) :: _) W from hL1)
    intro j hj
    have h2 := hT.cell (g := 3) (by kernel_rfl) j (by simpa using hj)
    rw [h2]
    simp [List.getD, hj]
  · have hsome : (((begin Tryd.prog (fun _ _ => 0) default).world.heap[5]?).bind Obj.row?).isSome = true := by kernel_rfl
    obtain ⟨⟨z, t⟩, hz⟩ := Option.isSome_iff_exists.1 hsome
    obtain ⟨cs, hh, _⟩ := h.1 5 z t (Nat.le_of_ble_eq_true (by kernel_rfl)) hz
    by_cases hlt : 5 < W.heap.size
    · omega
    · rw [Array.getElem?_eq_none (by omega)] at hh; cases hh

end Go.Proofs.YtkaimdcepnhkdaaDoor
