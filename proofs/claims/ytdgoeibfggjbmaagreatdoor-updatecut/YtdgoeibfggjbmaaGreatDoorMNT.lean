/-
  Put together: NlT.
-/
import Derived.Test.YtdgoeibfggjbmaaGreatDoorMNM
import Derived.Test.YtdgoeibfggjbmaaGreatDoorMNP
namespace Go.Proofs.YtdgoeibfggjbmaaGreatDoor
open Go.RowKit
set_option maxRecDepth 100000
set_option linter.unusedSimpArgs false
set_option linter.unusedVariables false

section
variable {l xs tl : List Int} {p n : Nat}
end
/-! Many routes, one behind the other. -/
def puts (rs : List Rt) : List Int := rs.flatMap putR
def AllR (rs : List Rt) : Prop := ∀ r ∈ rs, RtOk r ∧ rightR r = true
theorem AllR.nil_ : AllR [] := fun r h => by cases h
theorem AllR.app {a b : List Rt} (ha : AllR a) (hb : AllR b) : AllR (a ++ b) := fun r h => (List.mem_append.1 h).elim (ha r) (hb r)
theorem AllR.one {r : Rt} (h1 : RtOk r) (h2 : rightR r = true) : AllR [r] := fun s hs => by rw [List.mem_singleton] at hs; subst hs; exact ⟨h1, h2⟩
theorem AllR.ok {a : List Rt} (h : AllR a) : AllRt a := fun r hr => (h r hr).1
theorem puts_app (a b : List Rt) : puts (a ++ b) = puts a ++ puts b := by simp [puts]
theorem puts_one (r : Rt) : puts [r] = putR r := by simp [puts]
end Go.Proofs.YtdgoeibfggjbmaaGreatDoor
