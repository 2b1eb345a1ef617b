/-
  HelloMutual: all ways.
-/
import Derived.Test.YtgfjjkckamppoaaDoorHelloMuA
import Derived.Test.YtgfjjkckamppoaaDoorHelloMuB
import Derived.Test.YtgfjjkckamppoaaDoorHelloMuC
import Derived.Test.YtgfjjkckamppoaaDoorHelloMuD
import Derived.Test.YtgfjjkckamppoaaDoorHelloMuE
import Derived.Test.YtgfjjkckamppoaaDoorHelloMuF
import Derived.Test.YtgfjjkckamppoaaDoorHelloMuG
namespace Go.Proofs.YtgfjjkckamppoaaDoor
open Go.RowKit
set_option maxRecDepth 100000
set_option linter.unusedSimpArgs false
set_option linter.unusedVariables false

theorem mu_all (w : World) (E : EnvF w) (a b : Hl) (ka : HlOk a) (kb : HlOk b) (ra : rightH a = true) (rb : rightH b = true) : Calls Tryd.prog 8 #[.agg (hlc a).toArray, .agg (hlc b).toArray] w (AliveP w) := by
  by_cases hid : b.id_ = a.id_
  · cases hae : a.ev with
    | false => exact mu_eq_00 w E a b ka kb ra rb hae hid
    | true => cases hbe : b.ev with
      | false => exact mu_eq_10 w E a b ka kb ra rb hae hbe hid
      | true => exact mu_eq_11 w E a b ka kb ra rb hae hbe hid
  · cases hae : a.ev with
    | false => exact mu_ne_00 w E a b ka kb ra rb hae hid
    | true => cases hbe : b.ev with
      | false => exact mu_ne_10 w E a b ka kb ra rb hae hbe hid
      | true =>
        have h1 := right_hold ra
        have h2 := right_hold rb
        have e1 : agreeR a b b.as_ = .ok ⟨b.as_, b.id_, min a.hold b.hold, thd (min a.hold b.hold), a.rf && b.rf⟩ := by
          unfold agreeR
          rw [if_neg (fun h => h rfl), if_neg hid, if_neg (by rw [hae, hbe]; decide)]
        have e2 : agreeR b a a.as_ = .ok ⟨a.as_, a.id_, min a.hold b.hold, thd (min a.hold b.hold), a.rf && b.rf⟩ := by
          unfold agreeR
          rw [if_neg (fun h => h rfl), if_neg (Ne.symm hid), if_neg (by rw [hae, hbe]; decide), Int.min_comm b.hold, Bool.and_comm b.rf]
        by_cases hz : min a.hold b.hold = 0
        · exact mu_ok_z w E a b ka kb ra rb hae hbe hid _ _ _ e1 e2 (by omega) (by omega) (by unfold thd; omega) (by unfold thd; omega) (by unfold thd; omega) hz
        · exact mu_ok_p w E a b ka kb ra rb hae hbe hid _ _ _ e1 e2 (by omega) (by omega) (by unfold thd; omega) (by unfold thd; omega) (by unfold thd; omega) hz (by unfold thd; omega)
set_option maxHeartbeats 2000000 in
theorem helloMutual_walk (w : World) (E : EnvF w) (a b : Hl) (ka : HlOk a) (kb : HlOk b) : Calls Tryd.prog 8 #[.agg (hlc a).toArray, .agg (hlc b).toArray] w (AliveP w) := by
  have HS0 := Lib.hid (mu_new w E a b)
  have HKa := Lib.hid ka
  have HKb := Lib.hid kb
  cases ra : rightH a with
  | false =>
    have HEa : Hid (errH a = 2) := Lib.hid (by unfold errH; rw [if_neg (by rw [ra]; decide)])
    clear E ka kb ra
    go_enter Tryd.func8, Tryd.ntmps8
    go_wp2_with (refine h_fetch rfl _ rfl w.heap.size a 24 rfl HS0.out.ba ?_)
    refine (putH_is _ HS0.out.env a HKa.out).mono ?_
    generalize ((w.alloc (.cells (hlc a).toArray 24)).alloc (.cells (hlc b).toArray 24)) = W0 at *
    rintro e W1 ⟨A1, n1, c1, rfl, _, _, _, hB⟩
    rw [HEa.out]
    have HS1 := Lib.hid (HS0.out.below hB)
    clear hB HS0
    go_wp2_with (refine h_fetch rfl _ rfl (w.heap.size + 1) b 24 rfl HS1.out.bb ?_)
    refine (putH_is _ HS1.out.env b HKb.out).mono ?_
    rintro e W2 ⟨A2, n2, c2, rfl, _, _, _, hB⟩
    have HS2 := Lib.hid (HS1.out.below hB)
    clear hB HS1
    go_wp2_with fail
    refine (alive_is W2 HS2.out.env).mono ?_
    rintro e W9 ⟨rfl, hB⟩
    have HBf := Lib.hid (HS2.out.low.trans (hB.mono HS2.out.low.size))
    clear hB
    go_wp2
    go_ret
    exact ⟨rfl, HBf.out⟩
  | true => cases rb : rightH b with
    | true => exact mu_all w E a b ka kb ra rb
    | false =>
      have HEa : Hid (errH a = 0) := Lib.hid (by unfold errH; rw [if_pos ra])
      have HEb : Hid (errH b = 2) := Lib.hid (by unfold errH; rw [if_neg (by rw [rb]; decide)])
      clear E ka kb ra rb
      go_enter Tryd.func8, Tryd.ntmps8
      go_wp2_with (refine h_fetch rfl _ rfl w.heap.size a 24 rfl HS0.out.ba ?_)
      refine (putH_is _ HS0.out.env a HKa.out).mono ?_
      generalize ((w.alloc (.cells (hlc a).toArray 24)).alloc (.cells (hlc b).toArray 24)) = W0 at *
      rintro e W1 ⟨A1, n1, c1, rfl, _, _, _, hB⟩
      rw [HEa.out]
      have HS1 := Lib.hid (HS0.out.below hB)
      clear hB HS0
      go_wp2_with (refine h_fetch rfl _ rfl (w.heap.size + 1) b 24 rfl HS1.out.bb ?_)
      refine (putH_is _ HS1.out.env b HKb.out).mono ?_
      rintro e W2 ⟨A2, n2, c2, rfl, _, _, _, hB⟩
      rw [HEb.out]
      have HS2 := Lib.hid (HS1.out.below hB)
      clear hB HS1
      go_wp2_with fail
      refine (alive_is W2 HS2.out.env).mono ?_
      rintro e W9 ⟨rfl, hB⟩
      have HBf := Lib.hid (HS2.out.low.trans (hB.mono HS2.out.low.size))
      clear hB
      go_wp2
      go_ret
      exact ⟨rfl, HBf.out⟩
end Go.Proofs.YtgfjjkckamppoaaDoor
