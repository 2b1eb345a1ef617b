/-
  The document's answer, layer 2: ParseMac, ParseEsi.
-/
import Derived.Test.YtkaimdcepnhkdaaDoorCarC
namespace Go.Proofs.YtkaimdcepnhkdaaDoor
open Go.RowKit
set_option linter.unusedSimpArgs false
set_option linter.unusedVariables false

theorem splice_all (n : Nat) (l : List Int) (hl : l.length = n) : splice (u8s (List.replicate n 0)) 0 (u8s l) = u8s l := by
  unfold splice
  subst hl
  simp
theorem src8 {w : World} {g : Nat} {t : TypeId} {l : List Int} (h : Blk w g t (u8s l).toArray) : ∀ (j : Nat) (v : Value), (u8s l)[j]? = some v → w.cell? ((⟨g, 0, none⟩ : Addr).add j) = some v := by
  intro j v hv
  have e : (⟨g, 0, none⟩ : Addr).add j = ⟨g, j, none⟩ := by unfold Addr.add; split <;> simp_all
  rw [e, h.cell]
  simpa using hv

end Go.Proofs.YtkaimdcepnhkdaaDoor
