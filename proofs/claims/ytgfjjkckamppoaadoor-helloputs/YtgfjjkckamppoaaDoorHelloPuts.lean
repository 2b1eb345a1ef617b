/-
  HelloPuts' walk.
-/
import Derived.Test.YtgfjjkckamppoaaDoorHeT
namespace Go.Proofs.YtgfjjkckamppoaaDoor
open Go.RowKit
set_option maxRecDepth 100000
set_option linter.unusedSimpArgs false
set_option linter.unusedVariables false

set_option maxHeartbeats 2000000 in
theorem helloPuts_walk (w : World) (E : EnvF w) (h : Hl) (hk : HlOk h) : Calls Tryd.prog 3 #[.agg (hlc h).toArray] w (AliveP w) := by
  have hal := below_one8 w (.cells (hlc h).toArray 24)
  have HX0 := Lib.hid (Blk.new w 24 (hlc h).toArray)
  have HB0 := Lib.hid hal
  have HE0 := Lib.hid (E.below hal)
  have HK := Lib.hid hk
  clear hal E hk
  go_enter Tryd.func3, Tryd.ntmps3
  go_wp2_with (refine h_fetch rfl _ rfl w.heap.size h 24 rfl HX0.out ?_)
  refine (putH_is _ HE0.out h HK.out).mono ?_
  generalize (w.alloc (.cells (hlc h).toArray 24)) = W1 at *
  rintro e W2 ⟨A2, n2, c2, rfl, hn2, hc2, hr2, hB⟩
  have HR2 := Lib.hid hr2
  have HB2 := Lib.hid (HB0.out.trans (hB.mono HB0.out.size))
  have HE2 := Lib.hid (HE0.out.below hB)
  have HX2 := Lib.hid (HX0.out.below hB HX0.out.lt)
  clear hB HB0 HE0 HX0 hr2 hn2 hc2
  go_wp2_with (refine h_fetch rfl _ rfl w.heap.size h 24 rfl HX2.out ?_)
  refine (rputH_is W2 h HK.out).mono ?_
  rintro e W3 ⟨A3, n3, c3, rfl, hn3, hc3, hr3, hB⟩
  generalize errH h = er at *
  have HR3 := Lib.hid hr3
  have HRR3 := Lib.hid (HR2.out.up hB)
  have HB3 := Lib.hid (HB2.out.trans (hB.mono HB2.out.size))
  have HE3 := Lib.hid (HE2.out.below hB)
  have e1 : (er == er) = true := by simp
  clear hB HB2 HE2 HX2 hr3 hn3 hc3 HR2
  go_wp2_with fail
  refine (same_is W3 _ A2 A3 n2 n3 c2 c3 _ _ HRR3.out HR3.out true (by simp)).mono ?_
  rintro e W4 ⟨rfl, rfl⟩
  go_wp2_with fail
  refine (alive_is W3 HE3.out).mono ?_
  rintro e W5 ⟨rfl, hB⟩
  have HBf := Lib.hid (HB3.out.trans (hB.mono HB3.out.size))
  clear hB
  go_wp2
  go_ret
  exact ⟨rfl, HBf.out⟩
end Go.Proofs.YtgfjjkckamppoaaDoor
