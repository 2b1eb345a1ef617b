/-
  The document's answer, layer 2: unpairs.
-/
import Derived.Test.YtkaimdcepnhkdaaDoorCarB
import Derived.Deep.RegionHeld3
namespace Go.Proofs.YtkaimdcepnhkdaaDoor
open Go.RowKit
set_option linter.unusedSimpArgs false
set_option linter.unusedVariables false

theorem info_u8' : (Tryd.prog.info? 5).map (fun i => (i.zero, i.size, i.bytes)) = some (some (.int .u8 0), 1, 1) := by kernel_rfl
theorem u8_made (w : World) (n : Nat) (t : TypeId) : Blk (w.alloc (.cells (madeCells #[.int .u8 0] n) t)) w.heap.size t (u8s (List.replicate n 0)).toArray := by
  unfold Blk
  show (w.heap.push _)[w.heap.size]? = _
  rw [Array.getElem?_push, if_pos rfl]
  congr 2
  apply Array.ext_getElem?
  intro i
  by_cases hi : i < n <;> simp [madeCells, hi, Nat.mod_one]
def Up (w : World) (n : Nat) (o : Option (List Int)) (e : Ending) (w' : World) : Prop :=
  Below w.heap.size w w' ∧ match o with
  | none => e = .returned (.tuple #[.slice none 0 0, .bool false])
  | some l => e = .returned (.tuple #[.slice (some ⟨w.heap.size, 0, none⟩) n n, .bool true]) ∧ Blk w' w.heap.size 5 (u8s l).toArray
end Go.Proofs.YtkaimdcepnhkdaaDoor
