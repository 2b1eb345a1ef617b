/-
  HelloCut's walk.
-/
import Derived.Test.YtgfjjkckamppoaaDoorHeN
namespace Go.Proofs.YtgfjjkckamppoaaDoor
open Go.RowKit
set_option maxRecDepth 100000
set_option linter.unusedSimpArgs false
set_option linter.unusedVariables false

theorem Rd.first {w : World} {B n k : Nat} {A : Option Addr} {l : List Int} (h : Rd w B A n l) (hk : k ≤ n) : Rd w B A k (l.take k) := by
  refine ⟨by have := h.len; simp; omega, fun x hx => h.oct x (List.mem_of_mem_take hx), fun hp => ?_⟩
  obtain ⟨b, off, e, hb, hc⟩ := h.at_ (by omega)
  refine ⟨b, off, e, hb, fun i hi => ?_⟩
  rw [hc i (by omega)]
  simp [List.getD, hi]
set_option maxHeartbeats 2000000 in
theorem helloCut_walk (w : World) (E : EnvF w) (h : Hl) (c : Int) (hk : HlOk h) (hc : -9223372036854775808 ≤ c ∧ c < 9223372036854775808) : Calls Tryd.prog 9 #[.agg (hlc h).toArray, .int .i64 c] w (AliveP w) := by
  have hal := below_one8 w (.cells (hlc h).toArray 24)
  have HX0 := Lib.hid (Blk.new w 24 (hlc h).toArray)
  have HB0 := Lib.hid hal
  have HE0 := Lib.hid (E.below hal)
  have HK := Lib.hid hk
  have HCn := Lib.hid (fun W n (h1 : 1 ≤ n) (h2 : n < 4611686018427387904) => count_is W c n h1 h2 hc)
  clear hal E hk hc
  cases hr : rightH h with
  | false =>
    have HBd : Hid (errH h = 2) := Lib.hid (by unfold errH; rw [if_neg (by rw [hr]; decide)])
    clear hr
    go_enter Tryd.func9, Tryd.ntmps9
    go_wp2_with (refine h_fetch rfl _ rfl w.heap.size h 24 rfl HX0.out ?_)
    refine (putH_is _ HE0.out h HK.out).mono ?_
    generalize (w.alloc (.cells (hlc h).toArray 24)) = W1 at *
    rintro e W2 ⟨A2, n2, c2, rfl, _, _, _, hB⟩
    rw [HBd.out]
    have HB2 := Lib.hid (HB0.out.trans (hB.mono HB0.out.size))
    have HE2 := Lib.hid (HE0.out.below hB)
    clear hB HB0 HE0 HX0
    go_wp2_with fail
    refine (alive_is W2 HE2.out).mono ?_
    rintro e W3 ⟨rfl, hB⟩
    have HB3 := Lib.hid (HB2.out.trans (hB.mono HB2.out.size))
    clear hB
    go_wp2
    go_ret
    exact ⟨rfl, HB3.out⟩
  | true =>
    have HBd : Hid (errH h = 0 ∧ bodyH h = putB h) := Lib.hid (by unfold errH bodyH; rw [if_pos hr, if_pos hr]; exact ⟨rfl, rfl⟩)
    have HCut : Hid (∀ k, k < (putB h).length → readR ((putB h).take k) = .error (0, [])) := Lib.hid (fun k hk => read_cut hk)
    have HLn := Lib.hid (putB_len h)
    have HLe := Lib.hid (parB_le h)
    clear hr
    go_enter Tryd.func9, Tryd.ntmps9
    go_wp2_with (refine h_fetch rfl _ rfl w.heap.size h 24 rfl HX0.out ?_)
    refine (putH_is _ HE0.out h HK.out).mono ?_
    generalize (w.alloc (.cells (hlc h).toArray 24)) = W1 at *
    rintro e W2 ⟨A2, n2, c2, rfl, hn2, hc2, hr2, hB⟩
    rw [HBd.out.1]
    rw [HBd.out.2] at hn2 hr2
    have hn10 : 10 ≤ n2 := by rw [hn2, HLn.out]; omega
    have hn26 : n2 ≤ 26 := by have := HLe.out; rw [hn2, HLn.out]; omega
    have HN2 := Lib.hid hn2
    have HR2 := Lib.hid hr2
    have HB2 := Lib.hid (HB0.out.trans (hB.mono HB0.out.size))
    have HE2 := Lib.hid (HE0.out.below hB)
    clear hB HB0 HE0 HX0 hn2 hr2
    go_wp2_with fail
    refine (HCn.out W2 n2 (by omega) (by omega)).mono ?_
    rintro e W3 ⟨k, hkn, rfl, rfl⟩
    have hkc : (k : Int) ≤ (c2 : Int) := by omega
    have HRk := Lib.hid (HR2.out.first (k := k) (by omega))
    have HCk := Lib.hid (HCut.out k (by have := HN2.out; omega))
    clear HCut HR2
    go_wp2_with fail
    refine (readH_is W3 HE2.out A2 k c2 _ HRk.out (by omega)).mono ?_
    rintro e W4 ⟨hB, hp⟩
    rw [HCk.out] at hp
    obtain ⟨A4, n4, c4, rfl, _, hr4⟩ := hp
    have HB4 := Lib.hid (HB2.out.trans (hB.mono HB2.out.size))
    have HE4 := Lib.hid (HE2.out.below hB)
    clear hB hr4 HB2 HE2 HRk HCk
    obtain ⟨h1, h2, h3⟩ := two_h W4 hl0 2 0 A4 n4 c4
    have H40 := Lib.hid (two_h0 W4)
    have H41 := Lib.hid (two_h1 W4 hl0)
    have x1 := h2.cell 0
    have x2 := h2.cell 1
    have HH := Lib.hid h1
    have HF := Lib.hid h2
    have HB5 := Lib.hid (HB4.out.trans (h3.mono HB4.out.size))
    have HE5 := Lib.hid (HE4.out.below h3)
    have he : ∀ W, (binOp .eql 24 (.agg (hlc hl0).toArray) (.agg #[.int .u32 0, .int .i64 0, .int .u32 0, .bool false, .bool false, .bool false])).run Tryd.prog W = .ok (.bool true) W := h_eql hl0 hl0 hl0_ok hl0_ok true (by simp)
    clear h1 h2 h3 HB4 HE4
    go_wp2_with (first
      | (refine h_store rfl _ _ rfl W4.heap.size hl0 rfl rfl 24 _ H40.out rfl ?_)
      | (refine f_store rfl _ _ rfl (W4.heap.size + 1) 2 0 A4 n4 c4 rfl rfl 34 _ H41.out rfl ?_)
      | (refine h_fetch rfl _ rfl W4.heap.size hl0 24 rfl HH.out ?_))
    refine (alive_is _ HE5.out).mono ?_
    rintro e W6 ⟨rfl, hB⟩
    have HB6 := Lib.hid (HB5.out.trans (hB.mono HB5.out.size))
    clear hB
    go_wp2
    go_ret
    exact ⟨rfl, HB6.out⟩
end Go.Proofs.YtgfjjkckamppoaaDoor
