/-
  Layer 8: what the document fixes by its examples.
-/
import Derived.Test.YtgfjjkckamppoaaDoorHeL
namespace Go.Proofs.YtgfjjkckamppoaaDoor
open Go.RowKit
set_option maxRecDepth 100000
set_option linter.unusedSimpArgs false
set_option linter.unusedVariables false

def hlA : Hl := ⟨65000, 90, 167772161, true, false, false⟩
def hlB : Hl := ⟨70000, 0, 1, false, false, false⟩
def hlC : Hl := ⟨65000, 9, 2, true, false, false⟩
def tmA : Tm := ⟨65000, 2, 9, 3, false⟩
abbrev bA : List Int := [4, 253, 232, 0, 90, 10, 0, 0, 1, 8, 2, 6, 1, 4, 0, 25, 0, 70]
abbrev bF : List Int := [5, 0, 1, 0, 0, 0, 0, 0, 1, 0]
theorem bA_oct : Oct bA := by intro x hx; simp at hx; omega
theorem bF_oct : Oct bF := by intro x hx; simp at hx; omega
theorem hlA_ok : HlOk hlA := ⟨by decide, by decide, by decide⟩
theorem hlB_ok : HlOk hlB := ⟨by decide, by decide, by decide⟩
theorem hlC_ok : HlOk hlC := ⟨by decide, by decide, by decide⟩
theorem putA : bodyH hlA = bA ∧ errH hlA = 0 := by decide +kernel
theorem putB_ : bodyH hlB = [] ∧ errH hlB = 2 := by decide +kernel
theorem readA : readR bA = .ok hlA := by kernel_rfl
theorem readF : readR bF = .error (1, [0, 4]) := by kernel_rfl
theorem agreeA : agreeR hlA hlC 65000 = .ok tmA := by kernel_rfl
/-- Two variables: a hello's, a fault's. -/
theorem two_h (W : World) (h : Hl) (c s : Int) (A : Option Addr) (n k : Nat) : HlAt ((((W.alloc (.cells #[.int .u32 0, .int .i64 0, .int .u32 0, .bool false, .bool false, .bool false] 24)).alloc (.cells #[.int .i64 0, .int .i64 0, .slice none 0 0] 34)).setRow W.heap.size (hlc h).toArray).setRow (W.heap.size + 1) #[.int .i64 c, .int .i64 s, .slice A n k]) W.heap.size h ∧
    Blk ((((W.alloc (.cells #[.int .u32 0, .int .i64 0, .int .u32 0, .bool false, .bool false, .bool false] 24)).alloc (.cells #[.int .i64 0, .int .i64 0, .slice none 0 0] 34)).setRow W.heap.size (hlc h).toArray).setRow (W.heap.size + 1) #[.int .i64 c, .int .i64 s, .slice A n k]) (W.heap.size + 1) 34 #[.int .i64 c, .int .i64 s, .slice A n k] ∧
    Below W.heap.size W ((((W.alloc (.cells #[.int .u32 0, .int .i64 0, .int .u32 0, .bool false, .bool false, .bool false] 24)).alloc (.cells #[.int .i64 0, .int .i64 0, .slice none 0 0] 34)).setRow W.heap.size (hlc h).toArray).setRow (W.heap.size + 1) #[.int .i64 c, .int .i64 s, .slice A n k]) := by
  have h1 := (Blk.new W 24 #[.int .u32 0, .int .i64 0, .int .u32 0, .bool false, .bool false, .bool false]).alloc (.cells #[.int .i64 0, .int .i64 0, .slice none 0 0] 34)
  have h2 := Blk.new (W.alloc (.cells #[.int .u32 0, .int .i64 0, .int .u32 0, .bool false, .bool false, .bool false] 24)) 34 #[.int .i64 0, .int .i64 0, .slice none 0 0]
  rw [show (W.alloc (.cells #[.int .u32 0, .int .i64 0, .int .u32 0, .bool false, .bool false, .bool false] 24)).heap.size = W.heap.size + 1 by simp] at h2
  refine ⟨(Blk.setRow h1 _).setRow_other8 (by omega) _, Blk.setRow (h2.setRow_other8 (by omega) _) _, ?_⟩
  exact (below_one8 _ _).trans (((below_one8 _ _).mono (below_one8 _ _).size).trans ((below_setRow _ _ _ (Nat.le_refl _)).trans (below_setRow _ _ _ (by omega))))
theorem two_h0 (W : World) : Blk ((W.alloc (.cells #[.int .u32 0, .int .i64 0, .int .u32 0, .bool false, .bool false, .bool false] 24)).alloc (.cells #[.int .i64 0, .int .i64 0, .slice none 0 0] 34)) W.heap.size 24 #[.int .u32 0, .int .i64 0, .int .u32 0, .bool false, .bool false, .bool false] := (Blk.new W 24 #[.int .u32 0, .int .i64 0, .int .u32 0, .bool false, .bool false, .bool false]).alloc _
theorem two_h1 (W : World) (h : Hl) : Blk (((W.alloc (.cells #[.int .u32 0, .int .i64 0, .int .u32 0, .bool false, .bool false, .bool false] 24)).alloc (.cells #[.int .i64 0, .int .i64 0, .slice none 0 0] 34)).setRow W.heap.size (hlc h).toArray) (W.heap.size + 1) 34 #[.int .i64 0, .int .i64 0, .slice none 0 0] := by
  have h2 := Blk.new (W.alloc (.cells #[.int .u32 0, .int .i64 0, .int .u32 0, .bool false, .bool false, .bool false] 24)) 34 #[.int .i64 0, .int .i64 0, .slice none 0 0]
  rw [show (W.alloc (.cells #[.int .u32 0, .int .i64 0, .int .u32 0, .bool false, .bool false, .bool false] 24)).heap.size = W.heap.size + 1 by simp] at h2
  exact h2.setRow_other8 (by omega) _
theorem two_t (W : World) (t : Tm) (c s : Int) (A : Option Addr) (n k : Nat) : Blk ((((W.alloc (.cells #[.int .u32 0, .int .u32 0, .int .i64 0, .int .i64 0, .bool false] 40)).alloc (.cells #[.int .i64 0, .int .i64 0, .slice none 0 0] 34)).setRow W.heap.size (tmc t).toArray).setRow (W.heap.size + 1) #[.int .i64 c, .int .i64 s, .slice A n k]) W.heap.size 40 (tmc t).toArray ∧
    Blk ((((W.alloc (.cells #[.int .u32 0, .int .u32 0, .int .i64 0, .int .i64 0, .bool false] 40)).alloc (.cells #[.int .i64 0, .int .i64 0, .slice none 0 0] 34)).setRow W.heap.size (tmc t).toArray).setRow (W.heap.size + 1) #[.int .i64 c, .int .i64 s, .slice A n k]) (W.heap.size + 1) 34 #[.int .i64 c, .int .i64 s, .slice A n k] ∧
    Below W.heap.size W ((((W.alloc (.cells #[.int .u32 0, .int .u32 0, .int .i64 0, .int .i64 0, .bool false] 40)).alloc (.cells #[.int .i64 0, .int .i64 0, .slice none 0 0] 34)).setRow W.heap.size (tmc t).toArray).setRow (W.heap.size + 1) #[.int .i64 c, .int .i64 s, .slice A n k]) := by
  have h1 := (Blk.new W 40 #[.int .u32 0, .int .u32 0, .int .i64 0, .int .i64 0, .bool false]).alloc (.cells #[.int .i64 0, .int .i64 0, .slice none 0 0] 34)
  have h2 := Blk.new (W.alloc (.cells #[.int .u32 0, .int .u32 0, .int .i64 0, .int .i64 0, .bool false] 40)) 34 #[.int .i64 0, .int .i64 0, .slice none 0 0]
  rw [show (W.alloc (.cells #[.int .u32 0, .int .u32 0, .int .i64 0, .int .i64 0, .bool false] 40)).heap.size = W.heap.size + 1 by simp] at h2
  refine ⟨(Blk.setRow h1 _).setRow_other8 (by omega) _, Blk.setRow (h2.setRow_other8 (by omega) _) _, ?_⟩
  exact (below_one8 _ _).trans (((below_one8 _ _).mono (below_one8 _ _).size).trans ((below_setRow _ _ _ (Nat.le_refl _)).trans (below_setRow _ _ _ (by omega))))
theorem two_t0 (W : World) : Blk ((W.alloc (.cells #[.int .u32 0, .int .u32 0, .int .i64 0, .int .i64 0, .bool false] 40)).alloc (.cells #[.int .i64 0, .int .i64 0, .slice none 0 0] 34)) W.heap.size 40 #[.int .u32 0, .int .u32 0, .int .i64 0, .int .i64 0, .bool false] := (Blk.new W 40 _).alloc _
theorem two_t1 (W : World) (t : Tm) : Blk (((W.alloc (.cells #[.int .u32 0, .int .u32 0, .int .i64 0, .int .i64 0, .bool false] 40)).alloc (.cells #[.int .i64 0, .int .i64 0, .slice none 0 0] 34)).setRow W.heap.size (tmc t).toArray) (W.heap.size + 1) 34 #[.int .i64 0, .int .i64 0, .slice none 0 0] := by
  have h2 := Blk.new (W.alloc (.cells #[.int .u32 0, .int .u32 0, .int .i64 0, .int .i64 0, .bool false] 40)) 34 #[.int .i64 0, .int .i64 0, .slice none 0 0]
  rw [show (W.alloc (.cells #[.int .u32 0, .int .u32 0, .int .i64 0, .int .i64 0, .bool false] 40)).heap.size = W.heap.size + 1 by simp] at h2
  exact h2.setRow_other8 (by omega) _
def AliveP (w : World) (e : Ending) (w' : World) : Prop := e = .returned (.bool true) ∧ Below w.heap.size w w'

set_option maxHeartbeats 4000000 in
theorem alive_is (w : World) (E : EnvF w) : Calls Tryd.prog 13 #[] w (AliveP w) := by
  have hal := below_one8 w (.cells #[.int .u32 0, .int .i64 0, .int .u32 0, .bool false, .bool false, .bool false] 24)
  have hx0 := Blk.new w 24 #[.int .u32 0, .int .i64 0, .int .u32 0, .bool false, .bool false, .bool false]
  have HX0 := Lib.hid hx0
  have HB1 := Lib.hid (hal.trans (below_setRow _ w.heap.size (hlc hlA).toArray (Nat.le_refl _)))
  have HX1 := Lib.hid (Blk.setRow hx0 (hlc hlA).toArray)
  have HE1 := Lib.hid (E.below HB1.out)
  clear hal hx0 E
  go_enter Tryd.func13, Tryd.ntmps13
  go_wp2_with (first
    | (refine h_store rfl _ _ rfl w.heap.size hlA rfl rfl 24 _ HX0.out rfl ?_)
    | (refine h_fetch rfl _ rfl w.heap.size hlA 24 rfl HX1.out ?_))
  refine (putH_is _ HE1.out hlA hlA_ok).mono ?_
  generalize ((w.alloc (.cells #[.int .u32 0, .int .i64 0, .int .u32 0, .bool false, .bool false, .bool false] 24)).setRow w.heap.size (hlc hlA).toArray) = W1 at *
  rintro e W2 ⟨A2, n2, c2, rfl, hn2, hc2, hr2, hB⟩
  rw [putA.1] at hn2 hr2
  rw [putA.2]
  obtain rfl : n2 = 18 := hn2
  have HB2 := Lib.hid (HB1.out.trans (hB.mono HB1.out.size))
  have HX2 := Lib.hid (HX1.out.below hB HX1.out.lt)
  have HE2 := Lib.hid (HE1.out.below hB)
  have HR2 := Lib.hid hr2
  clear hB hr2 HB1 HX1 HE1 HX0
  go_wp2_with fail
  refine (putH_is W2 HE2.out hlB hlB_ok).mono ?_
  rintro e W3 ⟨A3, n3, c3, rfl, _, _, _, hB⟩
  rw [putB_.2]
  have HB3 := Lib.hid (HB2.out.trans (hB.mono HB2.out.size))
  have HX3 := Lib.hid (HX2.out.below hB HX2.out.lt)
  have HE3 := Lib.hid (HE2.out.below hB)
  have HR3 := Lib.hid (HR2.out.up hB)
  clear hB HB2 HX2 HE2 HR2
  go_wp2_with fail
  refine (readH_is W3 HE3.out A2 18 c2 bA HR3.out (by omega)).mono ?_
  rintro e W4 ⟨hB, hp⟩
  rw [readA] at hp
  simp only at hp
  subst hp
  have HB4 := Lib.hid (HB3.out.trans (hB.mono HB3.out.size))
  have HX4 := Lib.hid (HX3.out.below hB HX3.out.lt)
  have HE4 := Lib.hid (HE3.out.below hB)
  have HR4 := Lib.hid (HR3.out.up hB)
  clear hB HB3 HX3 HE3 HR3
  obtain ⟨h1, h2, h3⟩ := two_h W4 hlA 0 0 none 0 0
  have H40 := Lib.hid (two_h0 W4)
  have H41 := Lib.hid (two_h1 W4 hlA)
  have HG5 := Lib.hid h1
  have HB5 := Lib.hid (HB4.out.trans (h3.mono HB4.out.size))
  have HX5 := Lib.hid (HX4.out.below h3 HX4.out.lt)
  have HE5 := Lib.hid (HE4.out.below h3)
  have HR5 := Lib.hid (HR4.out.up h3)
  clear h1 h2 h3 HB4 HX4 HE4 HR4
  go_wp2_with (first
    | (refine h_store rfl _ _ rfl W4.heap.size hlA rfl rfl 24 _ H40.out rfl ?_)
    | (refine f_store rfl _ _ rfl (W4.heap.size + 1) 0 0 none 0 0 rfl rfl 34 _ H41.out rfl ?_)
    | (refine h_fetch rfl _ rfl w.heap.size hlA 24 rfl HX5.out ?_))
  refine (agree_is _ HE5.out hlA hlC hlA_ok hlC_ok 65000).mono ?_
  generalize ((((W4.alloc (.cells #[.int .u32 0, .int .i64 0, .int .u32 0, .bool false, .bool false, .bool false] 24)).alloc (.cells #[.int .i64 0, .int .i64 0, .slice none 0 0] 34)).setRow W4.heap.size (hlc hlA).toArray).setRow (W4.heap.size + 1) #[.int .i64 0, .int .i64 0, .slice none 0 0]) = W5 at *
  generalize W4.heap.size = g4 at *
  rintro e W6 ⟨hB, hp⟩
  rw [agreeA] at hp
  simp only at hp
  subst hp
  have HB6 := Lib.hid (HB5.out.trans (hB.mono HB5.out.size))
  have HX6 := Lib.hid (HX5.out.below hB HX5.out.lt)
  have HG6 := Lib.hid (HG5.out.below hB HG5.out.lt)
  have HE6 := Lib.hid (HE5.out.below hB)
  have HR6 := Lib.hid (HR5.out.up hB)
  clear hB HB5 HX5 HE5 HR5 HG5 H40 H41
  obtain ⟨h1, h2, h3⟩ := two_t W6 tmA 0 0 none 0 0
  have H60 := Lib.hid (two_t0 W6)
  have H61 := Lib.hid (two_t1 W6 tmA)
  have HT7 := Lib.hid h1
  have h4 := h3.trans ((below_one8 ((((W6.alloc (.cells #[.int .u32 0, .int .u32 0, .int .i64 0, .int .i64 0, .bool false] 40)).alloc (.cells #[.int .i64 0, .int .i64 0, .slice none 0 0] 34)).setRow W6.heap.size (tmc tmA).toArray).setRow (W6.heap.size + 1) #[.int .i64 0, .int .i64 0, .slice none 0 0]) (.cells (u8s bF).toArray 5)).mono h3.size)
  have HT7 := Lib.hid (h1.alloc (.cells (u8s bF).toArray 5))
  have HB7 := Lib.hid (HB6.out.trans (h4.mono HB6.out.size))
  have HX7 := Lib.hid (HX6.out.below h4 HX6.out.lt)
  have HG7 := Lib.hid (HG6.out.below h4 HG6.out.lt)
  have HE7 := Lib.hid (HE6.out.below h4)
  have HR7 := Lib.hid (HR6.out.up h4)
  have hbf : Byt _ _ 5 bF := Blk.new ((((W6.alloc (.cells #[.int .u32 0, .int .u32 0, .int .i64 0, .int .i64 0, .bool false] 40)).alloc (.cells #[.int .i64 0, .int .i64 0, .slice none 0 0] 34)).setRow W6.heap.size (tmc tmA).toArray).setRow (W6.heap.size + 1) #[.int .i64 0, .int .i64 0, .slice none 0 0]) 5 (u8s bF).toArray
  rw [show ((((W6.alloc (.cells #[.int .u32 0, .int .u32 0, .int .i64 0, .int .i64 0, .bool false] 40)).alloc (.cells #[.int .i64 0, .int .i64 0, .slice none 0 0] 34)).setRow W6.heap.size (tmc tmA).toArray).setRow (W6.heap.size + 1) #[.int .i64 0, .int .i64 0, .slice none 0 0]).heap.size = W6.heap.size + 1 + 1 by simp] at hbf
  have HF7 := Lib.hid (hbf.rd_all bF_oct hbf.lt)
  clear h1 h2 h3 h4 hbf HB6 HX6 HE6 HR6 HG6
  go_wp2_with (first
    | (refine t_store rfl _ _ rfl W6.heap.size tmA rfl rfl 40 _ H60.out rfl ?_)
    | (refine f_store rfl _ _ rfl (W6.heap.size + 1) 0 0 none 0 0 rfl rfl 34 _ H61.out rfl ?_))
  refine (readH_is _ HE7.out _ 10 10 bF HF7.out (by omega)).mono ?_
  generalize (((((W6.alloc (.cells #[.int .u32 0, .int .u32 0, .int .i64 0, .int .i64 0, .bool false] 40)).alloc (.cells #[.int .i64 0, .int .i64 0, .slice none 0 0] 34)).setRow W6.heap.size (tmc tmA).toArray).setRow (W6.heap.size + 1) #[.int .i64 0, .int .i64 0, .slice none 0 0]).alloc (.cells (u8s bF).toArray 5)) = W7 at *
  clear H60 H61
  generalize W6.heap.size = g6 at *
  rintro e W8 ⟨hB, hp⟩
  rw [readF] at hp
  obtain ⟨A8, n8, c8, rfl, _, hr8⟩ := hp
  have HB8 := Lib.hid (HB7.out.trans (hB.mono HB7.out.size))
  have HX8 := Lib.hid (HX7.out.below hB HX7.out.lt)
  have HG8 := Lib.hid (HG7.out.below hB HG7.out.lt)
  have HT8 := Lib.hid (HT7.out.below hB HT7.out.lt)
  have HR8 := Lib.hid (HR7.out.up hB)
  clear hB hr8 HB7 HX7 HG7 HT7 HR7 HE7 HF7
  obtain ⟨h1, h2, h3⟩ := two_h W8 hl0 2 1 A8 n8 c8
  have H80 := Lib.hid (two_h0 W8)
  have H81 := Lib.hid (two_h1 W8 hl0)
  have h4 := h3.trans ((below_one8 ((((W8.alloc (.cells #[.int .u32 0, .int .i64 0, .int .u32 0, .bool false, .bool false, .bool false] 24)).alloc (.cells #[.int .i64 0, .int .i64 0, .slice none 0 0] 34)).setRow W8.heap.size (hlc hl0).toArray).setRow (W8.heap.size + 1) #[.int .i64 2, .int .i64 1, .slice A8 n8 c8]) (.cells (u8s bA).toArray 5)).mono h3.size)
  have HZ9 := Lib.hid (h2.alloc (.cells (u8s bA).toArray 5))
  have HB9 := Lib.hid (HB8.out.trans (h4.mono HB8.out.size))
  have HX9 := Lib.hid (HX8.out.below h4 HX8.out.lt)
  have HG9 := Lib.hid (HG8.out.below h4 HG8.out.lt)
  have HT9 := Lib.hid (HT8.out.below h4 HT8.out.lt)
  have HR9 := Lib.hid (HR8.out.up h4)
  have hbf : Byt _ _ 5 bA := Blk.new ((((W8.alloc (.cells #[.int .u32 0, .int .i64 0, .int .u32 0, .bool false, .bool false, .bool false] 24)).alloc (.cells #[.int .i64 0, .int .i64 0, .slice none 0 0] 34)).setRow W8.heap.size (hlc hl0).toArray).setRow (W8.heap.size + 1) #[.int .i64 2, .int .i64 1, .slice A8 n8 c8]) 5 (u8s bA).toArray
  rw [show ((((W8.alloc (.cells #[.int .u32 0, .int .i64 0, .int .u32 0, .bool false, .bool false, .bool false] 24)).alloc (.cells #[.int .i64 0, .int .i64 0, .slice none 0 0] 34)).setRow W8.heap.size (hlc hl0).toArray).setRow (W8.heap.size + 1) #[.int .i64 2, .int .i64 1, .slice A8 n8 c8]).heap.size = W8.heap.size + 1 + 1 by simp] at hbf
  have HF9 := Lib.hid (hbf.rd_all bA_oct hbf.lt)
  clear h1 h2 h3 h4 hbf HB8 HX8 HG8 HT8 HR8
  go_wp2_with (first
    | (refine h_store rfl _ _ rfl W8.heap.size hl0 rfl rfl 24 _ H80.out rfl ?_)
    | (refine f_store rfl _ _ rfl (W8.heap.size + 1) 2 1 A8 n8 c8 rfl rfl 34 _ H81.out rfl ?_))
  refine (same_is _ _ _ _ 18 18 _ _ bA bA HR9.out HF9.out true (by simp)).mono ?_
  clear H80 H81
  generalize (((((W8.alloc (.cells #[.int .u32 0, .int .i64 0, .int .u32 0, .bool false, .bool false, .bool false] 24)).alloc (.cells #[.int .i64 0, .int .i64 0, .slice none 0 0] 34)).setRow W8.heap.size (hlc hl0).toArray).setRow (W8.heap.size + 1) #[.int .i64 2, .int .i64 1, .slice A8 n8 c8]).alloc (.cells (u8s bA).toArray 5)) = W9 at *
  generalize W8.heap.size = g8 at *
  rintro e W10 ⟨rfl, rfl⟩
  have x1 : W9.cell? ⟨g6, 2, none⟩ = some (.int .i64 9) := HT9.out.cell 2
  have x2 : W9.cell? ⟨g6, 3, none⟩ = some (.int .i64 3) := HT9.out.cell 3
  have x3 : W9.cell? ⟨g8 + 1, 0, none⟩ = some (.int .i64 2) := HZ9.out.cell 0
  have x4 : W9.cell? ⟨g8 + 1, 1, none⟩ = some (.int .i64 1) := HZ9.out.cell 1
  have he := h_eql hlA hlA hlA_ok hlA_ok true (by simp)
  go_wp2_with (first
    | (refine h_fetch rfl _ rfl g4 hlA 24 rfl HG9.out ?_)
    | (refine h_fetch rfl _ rfl w.heap.size hlA 24 rfl HX9.out ?_))
  go_ret
  exact ⟨rfl, HB9.out⟩
end Go.Proofs.YtgfjjkckamppoaaDoor
