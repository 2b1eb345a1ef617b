/-
  OctetNil: its walk: for every number the law returns true, and nothing that was there has turned.
-/
import Derived.Test.YtplnlhbbleppmaaOctF
namespace Go.Proofs.Ytplnlhbbleppmaa
open Go.RowKit

theorem skip_nil (w : World) (n : Int) : Calls Try.prog 21 #[.pointer none, .int .i64 n] w fun e w' => e = .returned (.tuple #[]) ∧ w = w' := by
  go_enter Try.func21, Try.ntmps21
  go_wp2
  refine bodyPost_ret (results_none rfl _ _ _) rfl ?_
  exact ⟨rfl, rfl⟩

set_option maxHeartbeats 1000000 in
theorem octetNil_walk (w : World) (n : Int) (_ : (Lit.int .i64 n).wf = true) :
    Calls Try.prog 7 #[.int .i64 n] w fun e w' => e = .returned (.bool true) ∧ Below w.heap.size w w' := by
  go_enter Try.func7, Try.ntmps7
  go_wp2_with fail
  refine (skip_nil w n).mono ?_
  rintro e w' ⟨rfl, rfl⟩
  go_wp2_with (first | (go_at_call 14; refine (alive_is w).mono ?_; rintro e w' ⟨rfl, hB⟩) | go_in)
  go_ret
  exact ⟨rfl, hB⟩
end Go.Proofs.Ytplnlhbbleppmaa
