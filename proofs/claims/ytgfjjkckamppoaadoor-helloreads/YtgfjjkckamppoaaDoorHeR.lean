/-
  Layer 8: the document's Agree, Stays (genHeR.py).
-/
import Derived.Test.YtgfjjkckamppoaaDoorHeK
namespace Go.Proofs.YtgfjjkckamppoaaDoor
open Go.RowKit
set_option maxRecDepth 100000
set_option linter.unusedSimpArgs false
set_option linter.unusedVariables false

theorem rstays_is (w : World) (a b : Int) : Calls Tryd.prog 22 #[.int .u32 a, .int .u32 b] w fun e w' => e = .returned (.bool (decide (b < a))) ∧ w = w' := by
  go_enter Tryd.func22, Tryd.ntmps22
  go_wp2
  go_ret
  exact ⟨rfl, rfl⟩
set_option maxHeartbeats 1000000 in
theorem rthird_is (w : World) (n : Int) (hn : -9223372036854775808 ≤ n ∧ n < 9223372036854775808) : Calls Tryd.prog 60 #[.int .i64 n] w fun e w' => e = .returned (.int .i64 (thd n)) ∧ w = w' := by
  have h3 := tdiv3 n
  have hq : IntKind.i64.wrap (n.tdiv 3) = n.tdiv 3 := by rw [IntKind.wrap_i64]; omega
  by_cases h0 : n < 0
  · have hm : -9223372036854775808 ≤ n.tdiv 3 * 3 ∧ n.tdiv 3 * 3 ≤ 9223372036854775807 := by omega
    by_cases hd : n.tdiv 3 * 3 = n
    · have hE : Hid (n.tdiv 3 = thd n) := Lib.hid (by unfold thd; omega)
      have e1 : (n.tdiv 3 * 3 != n) = false := by simpa using hd
      clear hn h3 hd
      go_enter Tryd.func60, Tryd.ntmps60
      go_wp2
      go_ret
      exact ⟨by rw [← hE.out]; rfl, rfl⟩
    · have hE : Hid (n.tdiv 3 - 1 = thd n) := Lib.hid (by unfold thd; omega)
      have hlo : -9223372036854775808 ≤ n.tdiv 3 - 1 ∧ n.tdiv 3 - 1 ≤ 9223372036854775807 := by omega
      have e1 : (n.tdiv 3 * 3 != n) = true := by simpa using hd
      clear hn h3 hd
      go_enter Tryd.func60, Tryd.ntmps60
      go_wp2
      go_ret
      exact ⟨by rw [← hE.out]; rfl, rfl⟩
  · have hE : Hid (n.tdiv 3 = thd n) := Lib.hid (by unfold thd; omega)
    clear hn h3
    go_enter Tryd.func60, Tryd.ntmps60
    go_wp2
    go_ret
    exact ⟨by rw [← hE.out]; rfl, rfl⟩
theorem ownB_zero (w : World) (lo : Nat) (hl : lo ≤ w.heap.size) : OwnB lo (w.alloc (.cells #[] 5)) (.slice (some ⟨w.heap.size, 0, none⟩) 0 0) [] :=
  ⟨⟨rfl, Or.inr ⟨w.heap.size, 0, #[], rfl, hl, Blk.new w 5 #[], Nat.le_refl _, by unfold maxLen; omega, by simp, by simp⟩⟩, fun x h => by cases h⟩
theorem OwnB.bodyX2 {lo : Nat} {w W : World} {v : Value} {l : List Int} (h : OwnB lo W v l) (hl : w.heap.size ≤ lo) : ∀ A n c, v = .slice A n c → BodyX w W A l := by
  intro A n c hv
  refine ⟨h.oct, ?_⟩
  rcases h.own.2 with ⟨rfl, hn⟩ | ⟨g, cap, cur, rfl, hb, hg, hnc, hcm, hcs, hx⟩
  · exact Or.inl hn
  · injection hv with h1 h2 h3
    exact Or.inr ⟨g, cur, h1.symm, by omega, hg, by simpa using hx⟩
theorem BodyX.more {w0 w W : World} {A : Option Addr} {l : List Int} (h : BodyX w W A l) (hl : w0.heap.size ≤ w.heap.size) : BodyX w0 W A l := ⟨h.1, h.2.imp id fun ⟨g, cs, a, b, c, d⟩ => ⟨g, cs, a, by omega, c, d⟩⟩
theorem tm_new0 (w : World) : TmS w ((w.alloc (.cells #[.int .u32 0, .int .u32 0, .int .i64 0, .int .i64 0, .bool false] 40)).alloc (.cells #[.int .i64 0, .int .i64 0, .slice none 0 0] 34)) w.heap.size := by
  have h1 := (Blk.new w 40 #[.int .u32 0, .int .u32 0, .int .i64 0, .int .i64 0, .bool false]).alloc (.cells #[.int .i64 0, .int .i64 0, .slice none 0 0] 34)
  have h3 := Blk.new (w.alloc (.cells #[.int .u32 0, .int .u32 0, .int .i64 0, .int .i64 0, .bool false] 40)) 34 #[.int .i64 0, .int .i64 0, .slice none 0 0]
  rw [show (w.alloc (.cells #[.int .u32 0, .int .u32 0, .int .i64 0, .int .i64 0, .bool false] 40)).heap.size = w.heap.size + 1 by simp] at h3
  exact ⟨(below_one8 _ _).trans ((below_one8 _ _).mono (below_one8 _ _).size), Nat.le_refl _, ⟨_, h1, rfl⟩, ⟨_, h3, rfl⟩⟩
/-- Unfit, with what the fault says. -/
def UnfP (w : World) (s : Int) (l : List Int) (e : Ending) (w' : World) : Prop := Below w.heap.size w w' ∧ ∃ A c, e = .returned (.tuple #[.agg (tmc tm0).toArray, .agg #[.int .i64 2, .int .i64 s, .slice A l.length c], .bool false]) ∧ l.length ≤ c ∧ BodyX w w' A l
set_option maxHeartbeats 2000000 in
theorem unfit_is (w : World) (s : Int) (A : Option Addr) (n c : Nat) (l : List Int) (hr : Rd w w.heap.size A n l) (hn : n ≤ 1000) : Calls Tryd.prog 59 #[.int .i64 s, .slice A n c] w (UnfP w s l) := by
  have hS := tm_new0 w
  have hs2 : ((w.alloc (.cells #[.int .u32 0, .int .u32 0, .int .i64 0, .int .i64 0, .bool false] 40)).alloc (.cells #[.int .i64 0, .int .i64 0, .slice none 0 0] 34)).heap.size = w.heap.size + 2 := by simp
  have HS := Lib.hid hS
  have HR := Lib.hid (hr.up hS.low)
  have HS2 := Lib.hid hs2
  have hl := hr.len
  clear hr hS hs2
  go_enter Tryd.func59, Tryd.ntmps59
  go_wp2_with (at_builtin; refine app_bs rfl _ _ rfl (ownB_zero ((w.alloc (.cells #[.int .u32 0, .int .u32 0, .int .i64 0, .int .i64 0, .bool false] 40)).alloc (.cells #[.int .i64 0, .int .i64 0, .slice none 0 0] 34)) (w.heap.size + 2) (Nat.le_of_eq HS2.out.symm)) (by simp) (HR.out.up (below_one8 _ _)) (by simp; omega) (by rw [HS2.out]; rfl) rfl ?_)
  intro v' W ho hb _ _
  have hB : Below ((w.alloc (.cells #[.int .u32 0, .int .u32 0, .int .i64 0, .int .i64 0, .bool false] 40)).alloc (.cells #[.int .i64 0, .int .i64 0, .slice none 0 0] 34)).heap.size ((w.alloc (.cells #[.int .u32 0, .int .u32 0, .int .i64 0, .int .i64 0, .bool false] 40)).alloc (.cells #[.int .i64 0, .int .i64 0, .slice none 0 0] 34)) W := (below_one8 _ (.cells #[] 5)).trans (by rw [HS2.out]; exact hb)
  have HS3 := Lib.hid (HS.out.below hB)
  have hx := ho.bodyX2 (w := w) (by omega)
  obtain ⟨Av, cv, rfl, hcv, _, _⟩ := ho.at_
  have HX := Lib.hid (hx Av _ cv rfl)
  obtain ⟨m, hm⟩ : ∃ m, m = l.length := ⟨_, rfl⟩
  try simp only [List.nil_append] at hcv ⊢
  rw [← hm] at hcv ⊢
  have HM := Lib.hid hm
  clear hB ho hb hx HS HR HS2 hm hl
  go_wp2_with (first
    | (refine tm_store HS3.out rfl _ _ rfl tm0 rfl rfl ?_)
    | (refine tm_store2 HS3.out tm0 rfl _ _ rfl 2 s Av m cv rfl rfl ?_))
  try simp only [Exit.inBlock, Exit.then]
  have hX := (HX.out.row (HS3.out.hb.choose_spec.1) (by decide) (tmc tm0).toArray).row (HS3.out.fb.choose_spec.1.setRow_other8 (by omega) (tmc tm0).toArray) (by decide) #[.int .i64 2, .int .i64 s, .slice Av m cv]
  exact tm_end rfl _ w W _ HS3.out tm0 2 s Av m cv (.bool false) rfl rfl rfl rfl (fun hb => ⟨hb, Av, cv, by rw [HM.out], by rw [← HM.out]; exact hcv, hX⟩)

theorem tm_new2 (w : World) (x y : Array Value) : TmS w ((((w.alloc (.cells x 24)).alloc (.cells y 24)).alloc (.cells #[.int .u32 0, .int .u32 0, .int .i64 0, .int .i64 0, .bool false] 40)).alloc (.cells #[.int .i64 0, .int .i64 0, .slice none 0 0] 34)) (w.heap.size + 1 + 1) := tm_new w x y
set_option maxHeartbeats 4000000 in
theorem ragree_is (w : World) (m t : Hl) (hm : HlOk m) (ht : HlOk t) (n : Int) : Calls Tryd.prog 20 #[.agg (hlc m).toArray, .agg (hlc t).toArray, .int .u32 n] w (ToldT w (agreeR m t n)) := by
  have hS := tm_new w (hlc m).toArray (hlc t).toArray
  have hA := (((Blk.new w 24 (hlc m).toArray).alloc (.cells (hlc t).toArray 24)).alloc (.cells #[.int .u32 0, .int .u32 0, .int .i64 0, .int .i64 0, .bool false] 40)).alloc (.cells #[.int .i64 0, .int .i64 0, .slice none 0 0] 34)
  have hBx := ((Blk.new (w.alloc (.cells (hlc m).toArray 24)) 24 (hlc t).toArray).alloc (.cells #[.int .u32 0, .int .u32 0, .int .i64 0, .int .i64 0, .bool false] 40)).alloc (.cells #[.int .i64 0, .int .i64 0, .slice none 0 0] 34)
  rw [show (w.alloc (.cells (hlc m).toArray 24)).heap.size = w.heap.size + 1 by simp] at hBx
  have HS := Lib.hid hS
  have HA := Lib.hid hA
  have HB := Lib.hid hBx
  have a1 : (hlc m)[1]? = some (.int .i64 m.hold) := rfl
  have a2 : (hlc m)[2]? = some (.int .u32 m.id_) := rfl
  have a3 : (hlc m)[3]? = some (.bool m.ev) := rfl
  have b0 : (hlc t)[0]? = some (.int .u32 t.as_) := rfl
  have b1 : (hlc t)[1]? = some (.int .i64 t.hold) := rfl
  have b2 : (hlc t)[2]? = some (.int .u32 t.id_) := rfl
  have b3 : (hlc t)[3]? = some (.bool t.ev) := rfl
  clear hS hA hBx
  by_cases h1 : t.as_ = n
  case neg =>
    have HJ : Hid (agreeR m t n = .error (2, [])) := Lib.hid (by unfold agreeR; rw [if_pos h1])
    have e1 : (t.as_ != n) = true := by simpa using h1
    clear h1
    go_enter Tryd.func20, Tryd.ntmps20
    go_wp2_with fail
    refine (unfit_is _ 2 none 0 0 [] (Rd.nil_ none) (by omega)).mono ?_
    generalize ((((w.alloc (.cells (hlc m).toArray 24)).alloc (.cells (hlc t).toArray 24)).alloc (.cells #[.int .u32 0, .int .u32 0, .int .i64 0, .int .i64 0, .bool false] 40)).alloc (.cells #[.int .i64 0, .int .i64 0, .slice none 0 0] 34)) = w1 at *
    rintro e W ⟨hB, A, c, rfl, hc, hx⟩
    have HS2 := Lib.hid (HS.out.below hB)
    have hx2 := hx.more (w0 := w) HS.out.low.size
    have HX := Lib.hid hx2
    clear hB hx hx2 HS HA HB a1 a2 a3 b0 b1 b2 b3
    simp only [List.length_cons, List.length_nil, Nat.zero_add, Nat.reduceAdd] at hc ⊢
    go_wp2_with (first
      | (refine tm_store HS2.out rfl _ _ rfl tm0 rfl rfl ?_)
      | (refine tm_store2 HS2.out tm0 rfl _ _ rfl 2 2 A 0 c rfl rfl ?_))
    try simp only [Exit.inBlock, Exit.then]
    exact tm_end rfl _ w W _ HS2.out tm0 2 2 A 0 c (.bool false) rfl rfl rfl rfl (fun hb => by rw [HJ.out]; exact ⟨hb, A, 0, c, rfl, hc, HX.out.far HS2.out _ _⟩)
  have e1 : (t.as_ != n) = false := by simpa using h1
  by_cases h2 : t.id_ = m.id_
  case pos =>
    have HJ : Hid (agreeR m t n = .error (3, [])) := Lib.hid (by unfold agreeR; rw [if_neg (fun k => k h1), if_pos h2])
    have e2 : (t.id_ == m.id_) = true := by simpa using h2
    clear h1 h2
    go_enter Tryd.func20, Tryd.ntmps20
    go_wp2_with fail
    refine (unfit_is _ 3 none 0 0 [] (Rd.nil_ none) (by omega)).mono ?_
    generalize ((((w.alloc (.cells (hlc m).toArray 24)).alloc (.cells (hlc t).toArray 24)).alloc (.cells #[.int .u32 0, .int .u32 0, .int .i64 0, .int .i64 0, .bool false] 40)).alloc (.cells #[.int .i64 0, .int .i64 0, .slice none 0 0] 34)) = w1 at *
    rintro e W ⟨hB, A, c, rfl, hc, hx⟩
    have HS2 := Lib.hid (HS.out.below hB)
    have hx2 := hx.more (w0 := w) HS.out.low.size
    have HX := Lib.hid hx2
    clear hB hx hx2 HS HA HB a1 a2 a3 b0 b1 b2 b3
    simp only [List.length_cons, List.length_nil, Nat.zero_add, Nat.reduceAdd] at hc ⊢
    go_wp2_with (first
      | (refine tm_store HS2.out rfl _ _ rfl tm0 rfl rfl ?_)
      | (refine tm_store2 HS2.out tm0 rfl _ _ rfl 2 3 A 0 c rfl rfl ?_))
    try simp only [Exit.inBlock, Exit.then]
    exact tm_end rfl _ w W _ HS2.out tm0 2 3 A 0 c (.bool false) rfl rfl rfl rfl (fun hb => by rw [HJ.out]; exact ⟨hb, A, 0, c, rfl, hc, HX.out.far HS2.out _ _⟩)
  have e2 : (t.id_ == m.id_) = false := by simpa using h2
  by_cases h3 : (m.ev && t.ev) = false
  case pos =>
    have HJ : Hid (agreeR m t n = .error (7, [1, 4, 0, 25, 0, 70])) := Lib.hid (by unfold agreeR; rw [if_neg (fun k => k h1), if_neg h2, if_pos h3])
    have hor : m.ev = false ∨ (m.ev = true ∧ t.ev = false) := (show ∀ p q : Bool, (p && q) = false → p = false ∨ (p = true ∧ q = false) by decide) _ _ h3
    clear h1 h2 h3
    have hd0 : ∀ W : World, Byt (W.alloc (.cells #[.int .u8 1, .int .u8 4, .int .u8 0, .int .u8 25, .int .u8 0, .int .u8 70] 5)) W.heap.size 5 [1, 4, 0, 25, 0, 70] := fun W => Blk.new W 5 #[.int .u8 1, .int .u8 4, .int .u8 0, .int .u8 25, .int .u8 0, .int .u8 70]
    have HD0 := Lib.hid hd0
    clear hd0
    rcases hor with h | ⟨h, h'⟩
    · rw [h] at a3
      go_enter Tryd.func20, Tryd.ntmps20
      go_wp2_with fail
      have hdd := HD0.out ((((w.alloc (.cells (hlc m).toArray 24)).alloc (.cells (hlc t).toArray 24)).alloc (.cells #[.int .u32 0, .int .u32 0, .int .i64 0, .int .i64 0, .bool false] 40)).alloc (.cells #[.int .i64 0, .int .i64 0, .slice none 0 0] 34))
      rw [show (((((w.alloc (.cells (hlc m).toArray 24)).alloc (.cells (hlc t).toArray 24)).alloc (.cells #[.int .u32 0, .int .u32 0, .int .i64 0, .int .i64 0, .bool false] 40)).alloc (.cells #[.int .i64 0, .int .i64 0, .slice none 0 0] 34))).heap.size = w.heap.size + 1 + 1 + 1 + 1 by simp] at hdd
      refine (unfit_is _ 7 _ 6 6 [1, 4, 0, 25, 0, 70] (hdd.rd_all (by intro x hx; simp at hx; omega) hdd.lt) (by omega)).mono ?_
      clear hdd
      have HSx := Lib.hid (HS.out.below (below_one8 ((((w.alloc (.cells (hlc m).toArray 24)).alloc (.cells (hlc t).toArray 24)).alloc (.cells #[.int .u32 0, .int .u32 0, .int .i64 0, .int .i64 0, .bool false] 40)).alloc (.cells #[.int .i64 0, .int .i64 0, .slice none 0 0] 34)) (.cells #[.int .u8 1, .int .u8 4, .int .u8 0, .int .u8 25, .int .u8 0, .int .u8 70] 5)))
      clear HS
      have HS := HSx
      clear HSx
      generalize (((((w.alloc (.cells (hlc m).toArray 24)).alloc (.cells (hlc t).toArray 24)).alloc (.cells #[.int .u32 0, .int .u32 0, .int .i64 0, .int .i64 0, .bool false] 40)).alloc (.cells #[.int .i64 0, .int .i64 0, .slice none 0 0] 34)).alloc (.cells #[.int .u8 1, .int .u8 4, .int .u8 0, .int .u8 25, .int .u8 0, .int .u8 70] 5)) = w1 at *
      rintro e W ⟨hB, A, c, rfl, hc, hx⟩
      have HS2 := Lib.hid (HS.out.below hB)
      have hx2 := hx.more (w0 := w) HS.out.low.size
      have HX := Lib.hid hx2
      clear hB hx hx2 HS HA HB a1 a2 a3 b0 b1 b2 b3
      simp only [List.length_cons, List.length_nil, Nat.zero_add, Nat.reduceAdd] at hc ⊢
      go_wp2_with (first
        | (refine tm_store HS2.out rfl _ _ rfl tm0 rfl rfl ?_)
        | (refine tm_store2 HS2.out tm0 rfl _ _ rfl 2 7 A 6 c rfl rfl ?_))
      try simp only [Exit.inBlock, Exit.then]
      exact tm_end rfl _ w W _ HS2.out tm0 2 7 A 6 c (.bool false) rfl rfl rfl rfl (fun hb => by rw [HJ.out]; exact ⟨hb, A, 6, c, rfl, hc, HX.out.far HS2.out _ _⟩)
    · rw [h] at a3
      rw [h'] at b3
      go_enter Tryd.func20, Tryd.ntmps20
      go_wp2_with fail
      have hdd := HD0.out ((((w.alloc (.cells (hlc m).toArray 24)).alloc (.cells (hlc t).toArray 24)).alloc (.cells #[.int .u32 0, .int .u32 0, .int .i64 0, .int .i64 0, .bool false] 40)).alloc (.cells #[.int .i64 0, .int .i64 0, .slice none 0 0] 34))
      rw [show (((((w.alloc (.cells (hlc m).toArray 24)).alloc (.cells (hlc t).toArray 24)).alloc (.cells #[.int .u32 0, .int .u32 0, .int .i64 0, .int .i64 0, .bool false] 40)).alloc (.cells #[.int .i64 0, .int .i64 0, .slice none 0 0] 34))).heap.size = w.heap.size + 1 + 1 + 1 + 1 by simp] at hdd
      refine (unfit_is _ 7 _ 6 6 [1, 4, 0, 25, 0, 70] (hdd.rd_all (by intro x hx; simp at hx; omega) hdd.lt) (by omega)).mono ?_
      clear hdd
      have HSx := Lib.hid (HS.out.below (below_one8 ((((w.alloc (.cells (hlc m).toArray 24)).alloc (.cells (hlc t).toArray 24)).alloc (.cells #[.int .u32 0, .int .u32 0, .int .i64 0, .int .i64 0, .bool false] 40)).alloc (.cells #[.int .i64 0, .int .i64 0, .slice none 0 0] 34)) (.cells #[.int .u8 1, .int .u8 4, .int .u8 0, .int .u8 25, .int .u8 0, .int .u8 70] 5)))
      clear HS
      have HS := HSx
      clear HSx
      generalize (((((w.alloc (.cells (hlc m).toArray 24)).alloc (.cells (hlc t).toArray 24)).alloc (.cells #[.int .u32 0, .int .u32 0, .int .i64 0, .int .i64 0, .bool false] 40)).alloc (.cells #[.int .i64 0, .int .i64 0, .slice none 0 0] 34)).alloc (.cells #[.int .u8 1, .int .u8 4, .int .u8 0, .int .u8 25, .int .u8 0, .int .u8 70] 5)) = w1 at *
      rintro e W ⟨hB, A, c, rfl, hc, hx⟩
      have HS2 := Lib.hid (HS.out.below hB)
      have hx2 := hx.more (w0 := w) HS.out.low.size
      have HX := Lib.hid hx2
      clear hB hx hx2 HS HA HB a1 a2 a3 b0 b1 b2 b3
      simp only [List.length_cons, List.length_nil, Nat.zero_add, Nat.reduceAdd] at hc ⊢
      go_wp2_with (first
        | (refine tm_store HS2.out rfl _ _ rfl tm0 rfl rfl ?_)
        | (refine tm_store2 HS2.out tm0 rfl _ _ rfl 2 7 A 6 c rfl rfl ?_))
      try simp only [Exit.inBlock, Exit.then]
      exact tm_end rfl _ w W _ HS2.out tm0 2 7 A 6 c (.bool false) rfl rfl rfl rfl (fun hb => by rw [HJ.out]; exact ⟨hb, A, 6, c, rfl, hc, HX.out.far HS2.out _ _⟩)
  have HJ : Hid (agreeR m t n = .ok ⟨t.as_, t.id_, min m.hold t.hold, thd (min m.hold t.hold), m.rf && t.rf⟩) := Lib.hid (by unfold agreeR; rw [if_neg (fun k => k h1), if_neg h2, if_neg h3])
  obtain ⟨hx, hy⟩ : m.ev = true ∧ t.ev = true := (show ∀ p q : Bool, ¬ (p && q) = false → p = true ∧ q = true by decide) _ _ h3
  rw [hx] at a3
  rw [hy] at b3
  have bm := hm.hold
  have bt := ht.hold
  clear h1 h2 h3 hx hy
  by_cases hle : m.hold ≤ t.hold
  case pos =>
    have HMin : Hid (min m.hold t.hold = m.hold) := Lib.hid (by omega)
    have HBd : Hid (-9223372036854775808 ≤ m.hold ∧ m.hold < 9223372036854775808) := Lib.hid bm
    cases hrf : m.rf with
    | true =>
      have HOk : Hid (agreeR m t n = .ok ⟨t.as_, t.id_, m.hold, thd m.hold, t.rf⟩) := Lib.hid (by rw [HJ.out, HMin.out, hrf]; rfl)
      have HRf := Lib.hid hrf
      clear hrf HJ
      go_enter Tryd.func20, Tryd.ntmps20
      go_wp2_with fail
      refine wp_region_held_drew (S := fun W => TmS w W (w.heap.size + 1 + 1) ∧ HlAt W w.heap.size m ∧ HlAt W (w.heap.size + 1) t) (by kernel_rfl) (⟨HS.out.below (below_drew8 _), HA.out.below (below_drew8 _) HA.out.lt, HB.out.below (below_drew8 _) HB.out.lt⟩) (fun hS => ?_)
      refine wpAnyH_take (i := 0) (oi := ⟨some 48, _, _, _, _, _⟩) (v := ?_) rfl (by kernel_rfl) (by kernel_rfl) (by kernel_rfl) (fun _ _ _ h => h) (Or.inl ⟨by rfl, ?_⟩) hS ?_
      rotate_left
      · intro wq hq
        first | (go_simp; done) | (go_simp; rfl)
      try simp only [Act.put, List.setIfInBounds_toArray, List.set_cons_zero, List.set_cons_succ]
      refine wpAnyH_take (i := 1) (oi := ⟨some 49, _, _, _, _, _⟩) (v := ?_) rfl (by kernel_rfl) (by kernel_rfl) (by kernel_rfl) (fun _ _ _ h => h) (Or.inl ⟨by rfl, ?_⟩) hS ?_
      rotate_left
      · intro wq hq
        have c0 : wq.cell? ⟨w.heap.size + 1, 0, none⟩ = some (.int .u32 t.as_) := hq.2.2.cell 0
        first | (go_simp; done) | (go_simp; rfl)
      try simp only [Act.put, List.setIfInBounds_toArray, List.set_cons_zero, List.set_cons_succ]
      refine wpAnyH_take (i := 2) (oi := ⟨some 50, _, _, _, _, _⟩) (v := ?_) rfl (by kernel_rfl) (by kernel_rfl) (by kernel_rfl) (fun _ _ _ h => h) (Or.inl ⟨by rfl, ?_⟩) hS ?_
      rotate_left
      · intro wq hq
        first | (go_simp; done) | (go_simp; rfl)
      try simp only [Act.put, List.setIfInBounds_toArray, List.set_cons_zero, List.set_cons_succ]
      refine wpAnyH_take (i := 3) (oi := ⟨some 51, _, _, _, _, _⟩) (v := ?_) rfl (by kernel_rfl) (by kernel_rfl) (by kernel_rfl) (fun _ _ _ h => h) (Or.inl ⟨by rfl, ?_⟩) hS ?_
      rotate_left
      · intro wq hq
        have c0 : wq.cell? ⟨w.heap.size + 1, 2, none⟩ = some (.int .u32 t.id_) := hq.2.2.cell 2
        first | (go_simp; done) | (go_simp; rfl)
      try simp only [Act.put, List.setIfInBounds_toArray, List.set_cons_zero, List.set_cons_succ]
      refine wpAnyH_take (i := 4) (oi := ⟨some 52, _, _, _, _, _⟩) (v := ?_) rfl (by kernel_rfl) (by kernel_rfl) (by kernel_rfl) (fun _ _ _ h => h) (Or.inl ⟨by rfl, ?_⟩) hS ?_
      rotate_left
      · intro wq hq
        first | (go_simp; done) | (go_simp; rfl)
      try simp only [Act.put, List.setIfInBounds_toArray, List.set_cons_zero, List.set_cons_succ]
      refine wpAnyH_take (i := 5) (oi := ⟨some 53, _, _, _, _, _⟩) (v := ?_) rfl (by kernel_rfl) (by kernel_rfl) (by kernel_rfl) (fun _ _ _ h => h) (Or.inl ⟨by rfl, ?_⟩) hS ?_
      rotate_left
      · intro wq hq
        first | (go_simp; done) | (go_simp; rfl)
      try simp only [Act.put, List.setIfInBounds_toArray, List.set_cons_zero, List.set_cons_succ]
      refine wpAnyH_take (i := 7) (oi := ⟨some 55, _, _, _, _, _⟩) (v := ?_) rfl (by kernel_rfl) (by kernel_rfl) (by kernel_rfl) (fun _ _ _ h => h) (Or.inl ⟨by rfl, ?_⟩) hS ?_
      rotate_left
      · intro wq hq
        first | (go_simp; done) | (go_simp; rfl)
      try simp only [Act.put, List.setIfInBounds_toArray, List.set_cons_zero, List.set_cons_succ]
      refine wpAnyH_take (i := 8) (oi := ⟨some 56, _, _, _, _, _⟩) (v := ?_) rfl (by kernel_rfl) (by kernel_rfl) (by kernel_rfl) (fun _ _ _ h => h) (Or.inl ⟨by rfl, ?_⟩) hS ?_
      rotate_left
      · intro wq hq
        have c0 : wq.cell? ⟨w.heap.size, 5, none⟩ = some (.bool true) := by rw [← HRf.out]; exact hq.2.1.cell 5
        first | (go_simp; done) | (go_simp; rfl)
      try simp only [Act.put, List.setIfInBounds_toArray, List.set_cons_zero, List.set_cons_succ]
      refine wpAnyH_take (i := 14) (oi := ⟨some 62, _, _, _, _, _⟩) (v := ?_) rfl (by kernel_rfl) (by kernel_rfl) (by kernel_rfl) (fun _ _ _ h => h) (Or.inl ⟨by rfl, ?_⟩) hS ?_
      rotate_left
      · intro wq hq
        first | (go_simp; done) | (go_simp; rfl)
      try simp only [Act.put, List.setIfInBounds_toArray, List.set_cons_zero, List.set_cons_succ]
      generalize (((((w.alloc (.cells (hlc m).toArray 24)).alloc (.cells (hlc t).toArray 24)).alloc (.cells #[.int .u32 0, .int .u32 0, .int .i64 0, .int .i64 0, .bool false] 40)).alloc (.cells #[.int .i64 0, .int .i64 0, .slice none 0 0] 34))).drew = W0 at *
      clear HS HA HB a1 a2 a3 b0 b1 b2 b3
      have HS0 := Lib.hid hS.1
      refine wpAnyH_ready (rs := [6]) (by kernel_rfl) (by simp) ?_
      refine AllReadyH.cons (o := ⟨some 54, _, _, _, _, _⟩) rfl (fun K hK => ?_) AllReadyH.nil
      rw [if_pos (by rfl)]
      go_wp2_with fail
      refine (rthird_is W0 m.hold HBd.out).mono ?_
      rintro e W1 ⟨rfl, rfl⟩
      refine hK.out _ _ (hS) (fun hS => ?_)
      clear hK K
      try simp only [Act.put, List.setIfInBounds_toArray, List.set_cons_zero, List.set_cons_succ]
      refine wpAnyH_take (i := 9) (oi := ⟨some 57, _, _, _, _, _⟩) (v := ?_) rfl (by kernel_rfl) (by kernel_rfl) (by kernel_rfl) (fun _ _ _ h => h) (Or.inl ⟨by rfl, ?_⟩) hS ?_
      rotate_left
      · intro wq hq
        first | (go_simp; done) | (go_simp; rfl)
      try simp only [Act.put, List.setIfInBounds_toArray, List.set_cons_zero, List.set_cons_succ]
      refine wpAnyH_take (i := 10) (oi := ⟨some 58, _, _, _, _, _⟩) (v := ?_) rfl (by kernel_rfl) (by kernel_rfl) (by kernel_rfl) (fun _ _ _ h => h) (Or.inl ⟨by rfl, ?_⟩) hS ?_
      rotate_left
      · intro wq hq
        first | (go_simp; done) | (go_simp; rfl)
      try simp only [Act.put, List.setIfInBounds_toArray, List.set_cons_zero, List.set_cons_succ]
      refine wpAnyH_take (i := 11) (oi := ⟨some 59, _, _, _, _, _⟩) (v := ?_) rfl (by kernel_rfl) (by kernel_rfl) (by kernel_rfl) (fun _ _ _ h => h) (Or.inl ⟨by rfl, ?_⟩) hS ?_
      rotate_left
      · intro wq hq
        have c0 : wq.cell? ⟨w.heap.size + 1, 5, none⟩ = some (.bool t.rf) := hq.2.2.cell 5
        first | (go_simp; done) | (go_simp; rfl)
      try simp only [Act.put, List.setIfInBounds_toArray, List.set_cons_zero, List.set_cons_succ]
      refine wpAnyH_take (i := 12) (oi := ⟨some 60, _, _, _, _, _⟩) (v := ?_) rfl (by kernel_rfl) (by kernel_rfl) (by kernel_rfl) (fun _ _ _ h => h) (Or.inl ⟨by rfl, ?_⟩) hS ?_
      rotate_left
      · intro wq hq
        first | (go_simp; done) | (go_simp; rfl)
      try simp only [Act.put, List.setIfInBounds_toArray, List.set_cons_zero, List.set_cons_succ]
      refine wpAnyH_take (i := 13) (oi := ⟨some 61, _, _, _, _, _⟩) (v := ?_) rfl (by kernel_rfl) (by kernel_rfl) (by kernel_rfl) (fun _ _ _ h => h) (Or.inl ⟨by rfl, ?_⟩) hS ?_
      rotate_left
      · intro wq hq
        first | (go_simp; done) | (go_simp; rfl)
      try simp only [Act.put, List.setIfInBounds_toArray, List.set_cons_zero, List.set_cons_succ]
      obtain ⟨o1, k1, z1⟩ := hS.1.hb
      obtain ⟨o2, k2, z2⟩ := hS.1.fb
      refine wpAnyH_ready (rs := [15]) (by kernel_rfl) (by simp) ?_
      refine AllReadyH.cons (o := ⟨none, _, _, _, _, _⟩) rfl (fun K hK => ?_) AllReadyH.nil
      rw [if_pos (by rfl)]
      refine wp_store_row 40 _ _ rfl (w.heap.size + 1 + 1) (tmc ⟨t.as_, t.id_, m.hold, thd m.hold, t.rf⟩).toArray rfl rfl 40 _ k1 tsz (by rw [z1]; rfl) (tmc_one _) ?_
      refine hK.out _ _ ⟨hS.1.own1 (tmc ⟨t.as_, t.id_, m.hold, thd m.hold, t.rf⟩).toArray rfl, hS.2.1.setRow_other8 (by omega) _, hS.2.2.setRow_other8 (by omega) _⟩ (fun hS => ?_)
      clear hK K
      try simp only [Act.put, List.setIfInBounds_toArray, List.set_cons_zero, List.set_cons_succ]
      refine wpAnyH_ready (rs := [16]) (by kernel_rfl) (by simp) ?_
      refine AllReadyH.cons (o := ⟨none, _, _, _, _, _⟩) rfl (fun K hK => ?_) AllReadyH.nil
      rw [if_pos (by rfl)]
      refine wp_store_row 34 _ _ rfl (w.heap.size + 1 + 1 + 1) #[.int .i64 0, .int .i64 0, .slice none 0 0] rfl rfl 34 _ (k2.setRow_other8 (by omega) _) fsz (by rw [z2]; rfl) (by kernel_rfl) ?_
      refine hK.out _ _ ⟨hS.1.own2 #[.int .i64 0, .int .i64 0, .slice none 0 0] rfl, hS.2.1.setRow_other8 (by omega) _, hS.2.2.setRow_other8 (by omega) _⟩ (fun hS => ?_)
      clear hK K
      try simp only [Act.put, List.setIfInBounds_toArray, List.set_cons_zero, List.set_cons_succ]
      refine wpAnyH_take (i := 17) (oi := ⟨some 8, _, _, _, _, _⟩) (v := ?_) rfl (by kernel_rfl) (by kernel_rfl) (by kernel_rfl) (fun _ _ _ h => h) (Or.inl ⟨by rfl, ?_⟩) hS ?_
      rotate_left
      · intro wq hq
        first | (go_simp; done) | (go_simp; rfl)
      try simp only [Act.put, List.setIfInBounds_toArray, List.set_cons_zero, List.set_cons_succ]
      refine wpAnyH_done (by kernel_rfl) ?_ _
      clear hS k1 k2
      go_wp2
      try simp only [Exit.inBlock, Exit.then]
      exact tm_end rfl _ w W0 _ HS0.out ⟨t.as_, t.id_, m.hold, thd m.hold, t.rf⟩ 0 0 none 0 0 (.bool true) rfl rfl rfl rfl (fun hb => by rw [HOk.out]; exact ⟨hb, rfl⟩)
    | false =>
      have HOk : Hid (agreeR m t n = .ok ⟨t.as_, t.id_, m.hold, thd m.hold, false⟩) := Lib.hid (by rw [HJ.out, HMin.out, hrf]; rfl)
      have HRf := Lib.hid hrf
      clear hrf HJ
      go_enter Tryd.func20, Tryd.ntmps20
      go_wp2_with fail
      refine wp_region_held_drew (S := fun W => TmS w W (w.heap.size + 1 + 1) ∧ HlAt W w.heap.size m ∧ HlAt W (w.heap.size + 1) t) (by kernel_rfl) (⟨HS.out.below (below_drew8 _), HA.out.below (below_drew8 _) HA.out.lt, HB.out.below (below_drew8 _) HB.out.lt⟩) (fun hS => ?_)
      refine wpAnyH_take (i := 0) (oi := ⟨some 48, _, _, _, _, _⟩) (v := ?_) rfl (by kernel_rfl) (by kernel_rfl) (by kernel_rfl) (fun _ _ _ h => h) (Or.inl ⟨by rfl, ?_⟩) hS ?_
      rotate_left
      · intro wq hq
        first | (go_simp; done) | (go_simp; rfl)
      try simp only [Act.put, List.setIfInBounds_toArray, List.set_cons_zero, List.set_cons_succ]
      refine wpAnyH_take (i := 1) (oi := ⟨some 49, _, _, _, _, _⟩) (v := ?_) rfl (by kernel_rfl) (by kernel_rfl) (by kernel_rfl) (fun _ _ _ h => h) (Or.inl ⟨by rfl, ?_⟩) hS ?_
      rotate_left
      · intro wq hq
        have c0 : wq.cell? ⟨w.heap.size + 1, 0, none⟩ = some (.int .u32 t.as_) := hq.2.2.cell 0
        first | (go_simp; done) | (go_simp; rfl)
      try simp only [Act.put, List.setIfInBounds_toArray, List.set_cons_zero, List.set_cons_succ]
      refine wpAnyH_take (i := 2) (oi := ⟨some 50, _, _, _, _, _⟩) (v := ?_) rfl (by kernel_rfl) (by kernel_rfl) (by kernel_rfl) (fun _ _ _ h => h) (Or.inl ⟨by rfl, ?_⟩) hS ?_
      rotate_left
      · intro wq hq
        first | (go_simp; done) | (go_simp; rfl)
      try simp only [Act.put, List.setIfInBounds_toArray, List.set_cons_zero, List.set_cons_succ]
      refine wpAnyH_take (i := 3) (oi := ⟨some 51, _, _, _, _, _⟩) (v := ?_) rfl (by kernel_rfl) (by kernel_rfl) (by kernel_rfl) (fun _ _ _ h => h) (Or.inl ⟨by rfl, ?_⟩) hS ?_
      rotate_left
      · intro wq hq
        have c0 : wq.cell? ⟨w.heap.size + 1, 2, none⟩ = some (.int .u32 t.id_) := hq.2.2.cell 2
        first | (go_simp; done) | (go_simp; rfl)
      try simp only [Act.put, List.setIfInBounds_toArray, List.set_cons_zero, List.set_cons_succ]
      refine wpAnyH_take (i := 4) (oi := ⟨some 52, _, _, _, _, _⟩) (v := ?_) rfl (by kernel_rfl) (by kernel_rfl) (by kernel_rfl) (fun _ _ _ h => h) (Or.inl ⟨by rfl, ?_⟩) hS ?_
      rotate_left
      · intro wq hq
        first | (go_simp; done) | (go_simp; rfl)
      try simp only [Act.put, List.setIfInBounds_toArray, List.set_cons_zero, List.set_cons_succ]
      refine wpAnyH_take (i := 5) (oi := ⟨some 53, _, _, _, _, _⟩) (v := ?_) rfl (by kernel_rfl) (by kernel_rfl) (by kernel_rfl) (fun _ _ _ h => h) (Or.inl ⟨by rfl, ?_⟩) hS ?_
      rotate_left
      · intro wq hq
        first | (go_simp; done) | (go_simp; rfl)
      try simp only [Act.put, List.setIfInBounds_toArray, List.set_cons_zero, List.set_cons_succ]
      refine wpAnyH_take (i := 7) (oi := ⟨some 55, _, _, _, _, _⟩) (v := ?_) rfl (by kernel_rfl) (by kernel_rfl) (by kernel_rfl) (fun _ _ _ h => h) (Or.inl ⟨by rfl, ?_⟩) hS ?_
      rotate_left
      · intro wq hq
        first | (go_simp; done) | (go_simp; rfl)
      try simp only [Act.put, List.setIfInBounds_toArray, List.set_cons_zero, List.set_cons_succ]
      refine wpAnyH_take (i := 8) (oi := ⟨some 56, _, _, _, _, _⟩) (v := ?_) rfl (by kernel_rfl) (by kernel_rfl) (by kernel_rfl) (fun _ _ _ h => h) (Or.inl ⟨by rfl, ?_⟩) hS ?_
      rotate_left
      · intro wq hq
        have c0 : wq.cell? ⟨w.heap.size, 5, none⟩ = some (.bool false) := by rw [← HRf.out]; exact hq.2.1.cell 5
        first | (go_simp; done) | (go_simp; rfl)
      try simp only [Act.put, List.setIfInBounds_toArray, List.set_cons_zero, List.set_cons_succ]
      refine wpAnyH_take (i := 14) (oi := ⟨some 62, _, _, _, _, _⟩) (v := ?_) rfl (by kernel_rfl) (by kernel_rfl) (by kernel_rfl) (fun _ _ _ h => h) (Or.inl ⟨by rfl, ?_⟩) hS ?_
      rotate_left
      · intro wq hq
        first | (go_simp; done) | (go_simp; rfl)
      try simp only [Act.put, List.setIfInBounds_toArray, List.set_cons_zero, List.set_cons_succ]
      generalize (((((w.alloc (.cells (hlc m).toArray 24)).alloc (.cells (hlc t).toArray 24)).alloc (.cells #[.int .u32 0, .int .u32 0, .int .i64 0, .int .i64 0, .bool false] 40)).alloc (.cells #[.int .i64 0, .int .i64 0, .slice none 0 0] 34))).drew = W0 at *
      clear HS HA HB a1 a2 a3 b0 b1 b2 b3
      have HS0 := Lib.hid hS.1
      refine wpAnyH_ready (rs := [6]) (by kernel_rfl) (by simp) ?_
      refine AllReadyH.cons (o := ⟨some 54, _, _, _, _, _⟩) rfl (fun K hK => ?_) AllReadyH.nil
      rw [if_pos (by rfl)]
      go_wp2_with fail
      refine (rthird_is W0 m.hold HBd.out).mono ?_
      rintro e W1 ⟨rfl, rfl⟩
      refine hK.out _ _ (hS) (fun hS => ?_)
      clear hK K
      try simp only [Act.put, List.setIfInBounds_toArray, List.set_cons_zero, List.set_cons_succ]
      refine wpAnyH_take (i := 9) (oi := ⟨some 57, _, _, _, _, _⟩) (v := ?_) rfl (by kernel_rfl) (by kernel_rfl) (by kernel_rfl) (fun _ _ _ h => h) (Or.inl ⟨by rfl, ?_⟩) hS ?_
      rotate_left
      · intro wq hq
        first | (go_simp; done) | (go_simp; rfl)
      try simp only [Act.put, List.setIfInBounds_toArray, List.set_cons_zero, List.set_cons_succ]
      refine wpAnyH_take (i := 10) (oi := ⟨some 58, _, _, _, _, _⟩) (v := undef) rfl (by kernel_rfl) (by kernel_rfl) (by kernel_rfl) (fun _ _ _ h => h) (Or.inr ⟨by rfl, rfl⟩) hS ?_
      try simp only [Act.put, List.setIfInBounds_toArray, List.set_cons_zero, List.set_cons_succ]
      refine wpAnyH_take (i := 11) (oi := ⟨some 59, _, _, _, _, _⟩) (v := undef) rfl (by kernel_rfl) (by kernel_rfl) (by kernel_rfl) (fun _ _ _ h => h) (Or.inr ⟨by rfl, rfl⟩) hS ?_
      try simp only [Act.put, List.setIfInBounds_toArray, List.set_cons_zero, List.set_cons_succ]
      refine wpAnyH_take (i := 12) (oi := ⟨some 60, _, _, _, _, _⟩) (v := ?_) rfl (by kernel_rfl) (by kernel_rfl) (by kernel_rfl) (fun _ _ _ h => h) (Or.inl ⟨by rfl, ?_⟩) hS ?_
      rotate_left
      · intro wq hq
        first | (go_simp; done) | (go_simp; rfl)
      try simp only [Act.put, List.setIfInBounds_toArray, List.set_cons_zero, List.set_cons_succ]
      refine wpAnyH_take (i := 13) (oi := ⟨some 61, _, _, _, _, _⟩) (v := ?_) rfl (by kernel_rfl) (by kernel_rfl) (by kernel_rfl) (fun _ _ _ h => h) (Or.inl ⟨by rfl, ?_⟩) hS ?_
      rotate_left
      · intro wq hq
        first | (go_simp; done) | (go_simp; rfl)
      try simp only [Act.put, List.setIfInBounds_toArray, List.set_cons_zero, List.set_cons_succ]
      obtain ⟨o1, k1, z1⟩ := hS.1.hb
      obtain ⟨o2, k2, z2⟩ := hS.1.fb
      refine wpAnyH_ready (rs := [15]) (by kernel_rfl) (by simp) ?_
      refine AllReadyH.cons (o := ⟨none, _, _, _, _, _⟩) rfl (fun K hK => ?_) AllReadyH.nil
      rw [if_pos (by rfl)]
      refine wp_store_row 40 _ _ rfl (w.heap.size + 1 + 1) (tmc ⟨t.as_, t.id_, m.hold, thd m.hold, false⟩).toArray rfl rfl 40 _ k1 tsz (by rw [z1]; rfl) (tmc_one _) ?_
      refine hK.out _ _ ⟨hS.1.own1 (tmc ⟨t.as_, t.id_, m.hold, thd m.hold, false⟩).toArray rfl, hS.2.1.setRow_other8 (by omega) _, hS.2.2.setRow_other8 (by omega) _⟩ (fun hS => ?_)
      clear hK K
      try simp only [Act.put, List.setIfInBounds_toArray, List.set_cons_zero, List.set_cons_succ]
      refine wpAnyH_ready (rs := [16]) (by kernel_rfl) (by simp) ?_
      refine AllReadyH.cons (o := ⟨none, _, _, _, _, _⟩) rfl (fun K hK => ?_) AllReadyH.nil
      rw [if_pos (by rfl)]
      refine wp_store_row 34 _ _ rfl (w.heap.size + 1 + 1 + 1) #[.int .i64 0, .int .i64 0, .slice none 0 0] rfl rfl 34 _ (k2.setRow_other8 (by omega) _) fsz (by rw [z2]; rfl) (by kernel_rfl) ?_
      refine hK.out _ _ ⟨hS.1.own2 #[.int .i64 0, .int .i64 0, .slice none 0 0] rfl, hS.2.1.setRow_other8 (by omega) _, hS.2.2.setRow_other8 (by omega) _⟩ (fun hS => ?_)
      clear hK K
      try simp only [Act.put, List.setIfInBounds_toArray, List.set_cons_zero, List.set_cons_succ]
      refine wpAnyH_take (i := 17) (oi := ⟨some 8, _, _, _, _, _⟩) (v := ?_) rfl (by kernel_rfl) (by kernel_rfl) (by kernel_rfl) (fun _ _ _ h => h) (Or.inl ⟨by rfl, ?_⟩) hS ?_
      rotate_left
      · intro wq hq
        first | (go_simp; done) | (go_simp; rfl)
      try simp only [Act.put, List.setIfInBounds_toArray, List.set_cons_zero, List.set_cons_succ]
      refine wpAnyH_done (by kernel_rfl) ?_ _
      clear hS k1 k2
      go_wp2
      try simp only [Exit.inBlock, Exit.then]
      exact tm_end rfl _ w W0 _ HS0.out ⟨t.as_, t.id_, m.hold, thd m.hold, false⟩ 0 0 none 0 0 (.bool true) rfl rfl rfl rfl (fun hb => by rw [HOk.out]; exact ⟨hb, rfl⟩)
  have hgt : t.hold < m.hold := by omega
  have HMin : Hid (min m.hold t.hold = t.hold) := Lib.hid (by omega)
  clear hle
  have HBd : Hid (-9223372036854775808 ≤ t.hold ∧ t.hold < 9223372036854775808) := Lib.hid bt
  cases hrf : m.rf with
  | true =>
    have HOk : Hid (agreeR m t n = .ok ⟨t.as_, t.id_, t.hold, thd t.hold, t.rf⟩) := Lib.hid (by rw [HJ.out, HMin.out, hrf]; rfl)
    have HRf := Lib.hid hrf
    clear hrf HJ
    go_enter Tryd.func20, Tryd.ntmps20
    go_wp2_with fail
    refine wp_region_held_drew (S := fun W => TmS w W (w.heap.size + 1 + 1) ∧ HlAt W w.heap.size m ∧ HlAt W (w.heap.size + 1) t) (by kernel_rfl) (⟨HS.out.below (below_drew8 _), HA.out.below (below_drew8 _) HA.out.lt, HB.out.below (below_drew8 _) HB.out.lt⟩) (fun hS => ?_)
    refine wpAnyH_take (i := 0) (oi := ⟨some 48, _, _, _, _, _⟩) (v := ?_) rfl (by kernel_rfl) (by kernel_rfl) (by kernel_rfl) (fun _ _ _ h => h) (Or.inl ⟨by rfl, ?_⟩) hS ?_
    rotate_left
    · intro wq hq
      first | (go_simp; done) | (go_simp; rfl)
    try simp only [Act.put, List.setIfInBounds_toArray, List.set_cons_zero, List.set_cons_succ]
    refine wpAnyH_take (i := 1) (oi := ⟨some 49, _, _, _, _, _⟩) (v := ?_) rfl (by kernel_rfl) (by kernel_rfl) (by kernel_rfl) (fun _ _ _ h => h) (Or.inl ⟨by rfl, ?_⟩) hS ?_
    rotate_left
    · intro wq hq
      have c0 : wq.cell? ⟨w.heap.size + 1, 0, none⟩ = some (.int .u32 t.as_) := hq.2.2.cell 0
      first | (go_simp; done) | (go_simp; rfl)
    try simp only [Act.put, List.setIfInBounds_toArray, List.set_cons_zero, List.set_cons_succ]
    refine wpAnyH_take (i := 2) (oi := ⟨some 50, _, _, _, _, _⟩) (v := ?_) rfl (by kernel_rfl) (by kernel_rfl) (by kernel_rfl) (fun _ _ _ h => h) (Or.inl ⟨by rfl, ?_⟩) hS ?_
    rotate_left
    · intro wq hq
      first | (go_simp; done) | (go_simp; rfl)
    try simp only [Act.put, List.setIfInBounds_toArray, List.set_cons_zero, List.set_cons_succ]
    refine wpAnyH_take (i := 3) (oi := ⟨some 51, _, _, _, _, _⟩) (v := ?_) rfl (by kernel_rfl) (by kernel_rfl) (by kernel_rfl) (fun _ _ _ h => h) (Or.inl ⟨by rfl, ?_⟩) hS ?_
    rotate_left
    · intro wq hq
      have c0 : wq.cell? ⟨w.heap.size + 1, 2, none⟩ = some (.int .u32 t.id_) := hq.2.2.cell 2
      first | (go_simp; done) | (go_simp; rfl)
    try simp only [Act.put, List.setIfInBounds_toArray, List.set_cons_zero, List.set_cons_succ]
    refine wpAnyH_take (i := 4) (oi := ⟨some 52, _, _, _, _, _⟩) (v := ?_) rfl (by kernel_rfl) (by kernel_rfl) (by kernel_rfl) (fun _ _ _ h => h) (Or.inl ⟨by rfl, ?_⟩) hS ?_
    rotate_left
    · intro wq hq
      first | (go_simp; done) | (go_simp; rfl)
    try simp only [Act.put, List.setIfInBounds_toArray, List.set_cons_zero, List.set_cons_succ]
    refine wpAnyH_take (i := 5) (oi := ⟨some 53, _, _, _, _, _⟩) (v := ?_) rfl (by kernel_rfl) (by kernel_rfl) (by kernel_rfl) (fun _ _ _ h => h) (Or.inl ⟨by rfl, ?_⟩) hS ?_
    rotate_left
    · intro wq hq
      first | (go_simp; done) | (go_simp; rfl)
    try simp only [Act.put, List.setIfInBounds_toArray, List.set_cons_zero, List.set_cons_succ]
    refine wpAnyH_take (i := 7) (oi := ⟨some 55, _, _, _, _, _⟩) (v := ?_) rfl (by kernel_rfl) (by kernel_rfl) (by kernel_rfl) (fun _ _ _ h => h) (Or.inl ⟨by rfl, ?_⟩) hS ?_
    rotate_left
    · intro wq hq
      first | (go_simp; done) | (go_simp; rfl)
    try simp only [Act.put, List.setIfInBounds_toArray, List.set_cons_zero, List.set_cons_succ]
    refine wpAnyH_take (i := 8) (oi := ⟨some 56, _, _, _, _, _⟩) (v := ?_) rfl (by kernel_rfl) (by kernel_rfl) (by kernel_rfl) (fun _ _ _ h => h) (Or.inl ⟨by rfl, ?_⟩) hS ?_
    rotate_left
    · intro wq hq
      have c0 : wq.cell? ⟨w.heap.size, 5, none⟩ = some (.bool true) := by rw [← HRf.out]; exact hq.2.1.cell 5
      first | (go_simp; done) | (go_simp; rfl)
    try simp only [Act.put, List.setIfInBounds_toArray, List.set_cons_zero, List.set_cons_succ]
    refine wpAnyH_take (i := 14) (oi := ⟨some 62, _, _, _, _, _⟩) (v := ?_) rfl (by kernel_rfl) (by kernel_rfl) (by kernel_rfl) (fun _ _ _ h => h) (Or.inl ⟨by rfl, ?_⟩) hS ?_
    rotate_left
    · intro wq hq
      first | (go_simp; done) | (go_simp; rfl)
    try simp only [Act.put, List.setIfInBounds_toArray, List.set_cons_zero, List.set_cons_succ]
    generalize (((((w.alloc (.cells (hlc m).toArray 24)).alloc (.cells (hlc t).toArray 24)).alloc (.cells #[.int .u32 0, .int .u32 0, .int .i64 0, .int .i64 0, .bool false] 40)).alloc (.cells #[.int .i64 0, .int .i64 0, .slice none 0 0] 34))).drew = W0 at *
    clear HS HA HB a1 a2 a3 b0 b1 b2 b3
    have HS0 := Lib.hid hS.1
    refine wpAnyH_ready (rs := [6]) (by kernel_rfl) (by simp) ?_
    refine AllReadyH.cons (o := ⟨some 54, _, _, _, _, _⟩) rfl (fun K hK => ?_) AllReadyH.nil
    rw [if_pos (by rfl)]
    go_wp2_with fail
    refine (rthird_is W0 t.hold HBd.out).mono ?_
    rintro e W1 ⟨rfl, rfl⟩
    refine hK.out _ _ (hS) (fun hS => ?_)
    clear hK K
    try simp only [Act.put, List.setIfInBounds_toArray, List.set_cons_zero, List.set_cons_succ]
    refine wpAnyH_take (i := 9) (oi := ⟨some 57, _, _, _, _, _⟩) (v := ?_) rfl (by kernel_rfl) (by kernel_rfl) (by kernel_rfl) (fun _ _ _ h => h) (Or.inl ⟨by rfl, ?_⟩) hS ?_
    rotate_left
    · intro wq hq
      first | (go_simp; done) | (go_simp; rfl)
    try simp only [Act.put, List.setIfInBounds_toArray, List.set_cons_zero, List.set_cons_succ]
    refine wpAnyH_take (i := 10) (oi := ⟨some 58, _, _, _, _, _⟩) (v := ?_) rfl (by kernel_rfl) (by kernel_rfl) (by kernel_rfl) (fun _ _ _ h => h) (Or.inl ⟨by rfl, ?_⟩) hS ?_
    rotate_left
    · intro wq hq
      first | (go_simp; done) | (go_simp; rfl)
    try simp only [Act.put, List.setIfInBounds_toArray, List.set_cons_zero, List.set_cons_succ]
    refine wpAnyH_take (i := 11) (oi := ⟨some 59, _, _, _, _, _⟩) (v := ?_) rfl (by kernel_rfl) (by kernel_rfl) (by kernel_rfl) (fun _ _ _ h => h) (Or.inl ⟨by rfl, ?_⟩) hS ?_
    rotate_left
    · intro wq hq
      have c0 : wq.cell? ⟨w.heap.size + 1, 5, none⟩ = some (.bool t.rf) := hq.2.2.cell 5
      first | (go_simp; done) | (go_simp; rfl)
    try simp only [Act.put, List.setIfInBounds_toArray, List.set_cons_zero, List.set_cons_succ]
    refine wpAnyH_take (i := 12) (oi := ⟨some 60, _, _, _, _, _⟩) (v := ?_) rfl (by kernel_rfl) (by kernel_rfl) (by kernel_rfl) (fun _ _ _ h => h) (Or.inl ⟨by rfl, ?_⟩) hS ?_
    rotate_left
    · intro wq hq
      first | (go_simp; done) | (go_simp; rfl)
    try simp only [Act.put, List.setIfInBounds_toArray, List.set_cons_zero, List.set_cons_succ]
    refine wpAnyH_take (i := 13) (oi := ⟨some 61, _, _, _, _, _⟩) (v := ?_) rfl (by kernel_rfl) (by kernel_rfl) (by kernel_rfl) (fun _ _ _ h => h) (Or.inl ⟨by rfl, ?_⟩) hS ?_
    rotate_left
    · intro wq hq
      first | (go_simp; done) | (go_simp; rfl)
    try simp only [Act.put, List.setIfInBounds_toArray, List.set_cons_zero, List.set_cons_succ]
    obtain ⟨o1, k1, z1⟩ := hS.1.hb
    obtain ⟨o2, k2, z2⟩ := hS.1.fb
    refine wpAnyH_ready (rs := [15]) (by kernel_rfl) (by simp) ?_
    refine AllReadyH.cons (o := ⟨none, _, _, _, _, _⟩) rfl (fun K hK => ?_) AllReadyH.nil
    rw [if_pos (by rfl)]
    refine wp_store_row 40 _ _ rfl (w.heap.size + 1 + 1) (tmc ⟨t.as_, t.id_, t.hold, thd t.hold, t.rf⟩).toArray rfl rfl 40 _ k1 tsz (by rw [z1]; rfl) (tmc_one _) ?_
    refine hK.out _ _ ⟨hS.1.own1 (tmc ⟨t.as_, t.id_, t.hold, thd t.hold, t.rf⟩).toArray rfl, hS.2.1.setRow_other8 (by omega) _, hS.2.2.setRow_other8 (by omega) _⟩ (fun hS => ?_)
    clear hK K
    try simp only [Act.put, List.setIfInBounds_toArray, List.set_cons_zero, List.set_cons_succ]
    refine wpAnyH_ready (rs := [16]) (by kernel_rfl) (by simp) ?_
    refine AllReadyH.cons (o := ⟨none, _, _, _, _, _⟩) rfl (fun K hK => ?_) AllReadyH.nil
    rw [if_pos (by rfl)]
    refine wp_store_row 34 _ _ rfl (w.heap.size + 1 + 1 + 1) #[.int .i64 0, .int .i64 0, .slice none 0 0] rfl rfl 34 _ (k2.setRow_other8 (by omega) _) fsz (by rw [z2]; rfl) (by kernel_rfl) ?_
    refine hK.out _ _ ⟨hS.1.own2 #[.int .i64 0, .int .i64 0, .slice none 0 0] rfl, hS.2.1.setRow_other8 (by omega) _, hS.2.2.setRow_other8 (by omega) _⟩ (fun hS => ?_)
    clear hK K
    try simp only [Act.put, List.setIfInBounds_toArray, List.set_cons_zero, List.set_cons_succ]
    refine wpAnyH_take (i := 17) (oi := ⟨some 8, _, _, _, _, _⟩) (v := ?_) rfl (by kernel_rfl) (by kernel_rfl) (by kernel_rfl) (fun _ _ _ h => h) (Or.inl ⟨by rfl, ?_⟩) hS ?_
    rotate_left
    · intro wq hq
      first | (go_simp; done) | (go_simp; rfl)
    try simp only [Act.put, List.setIfInBounds_toArray, List.set_cons_zero, List.set_cons_succ]
    refine wpAnyH_done (by kernel_rfl) ?_ _
    clear hS k1 k2
    go_wp2
    try simp only [Exit.inBlock, Exit.then]
    exact tm_end rfl _ w W0 _ HS0.out ⟨t.as_, t.id_, t.hold, thd t.hold, t.rf⟩ 0 0 none 0 0 (.bool true) rfl rfl rfl rfl (fun hb => by rw [HOk.out]; exact ⟨hb, rfl⟩)
  | false =>
    have HOk : Hid (agreeR m t n = .ok ⟨t.as_, t.id_, t.hold, thd t.hold, false⟩) := Lib.hid (by rw [HJ.out, HMin.out, hrf]; rfl)
    have HRf := Lib.hid hrf
    clear hrf HJ
    go_enter Tryd.func20, Tryd.ntmps20
    go_wp2_with fail
    refine wp_region_held_drew (S := fun W => TmS w W (w.heap.size + 1 + 1) ∧ HlAt W w.heap.size m ∧ HlAt W (w.heap.size + 1) t) (by kernel_rfl) (⟨HS.out.below (below_drew8 _), HA.out.below (below_drew8 _) HA.out.lt, HB.out.below (below_drew8 _) HB.out.lt⟩) (fun hS => ?_)
    refine wpAnyH_take (i := 0) (oi := ⟨some 48, _, _, _, _, _⟩) (v := ?_) rfl (by kernel_rfl) (by kernel_rfl) (by kernel_rfl) (fun _ _ _ h => h) (Or.inl ⟨by rfl, ?_⟩) hS ?_
    rotate_left
    · intro wq hq
      first | (go_simp; done) | (go_simp; rfl)
    try simp only [Act.put, List.setIfInBounds_toArray, List.set_cons_zero, List.set_cons_succ]
    refine wpAnyH_take (i := 1) (oi := ⟨some 49, _, _, _, _, _⟩) (v := ?_) rfl (by kernel_rfl) (by kernel_rfl) (by kernel_rfl) (fun _ _ _ h => h) (Or.inl ⟨by rfl, ?_⟩) hS ?_
    rotate_left
    · intro wq hq
      have c0 : wq.cell? ⟨w.heap.size + 1, 0, none⟩ = some (.int .u32 t.as_) := hq.2.2.cell 0
      first | (go_simp; done) | (go_simp; rfl)
    try simp only [Act.put, List.setIfInBounds_toArray, List.set_cons_zero, List.set_cons_succ]
    refine wpAnyH_take (i := 2) (oi := ⟨some 50, _, _, _, _, _⟩) (v := ?_) rfl (by kernel_rfl) (by kernel_rfl) (by kernel_rfl) (fun _ _ _ h => h) (Or.inl ⟨by rfl, ?_⟩) hS ?_
    rotate_left
    · intro wq hq
      first | (go_simp; done) | (go_simp; rfl)
    try simp only [Act.put, List.setIfInBounds_toArray, List.set_cons_zero, List.set_cons_succ]
    refine wpAnyH_take (i := 3) (oi := ⟨some 51, _, _, _, _, _⟩) (v := ?_) rfl (by kernel_rfl) (by kernel_rfl) (by kernel_rfl) (fun _ _ _ h => h) (Or.inl ⟨by rfl, ?_⟩) hS ?_
    rotate_left
    · intro wq hq
      have c0 : wq.cell? ⟨w.heap.size + 1, 2, none⟩ = some (.int .u32 t.id_) := hq.2.2.cell 2
      first | (go_simp; done) | (go_simp; rfl)
    try simp only [Act.put, List.setIfInBounds_toArray, List.set_cons_zero, List.set_cons_succ]
    refine wpAnyH_take (i := 4) (oi := ⟨some 52, _, _, _, _, _⟩) (v := ?_) rfl (by kernel_rfl) (by kernel_rfl) (by kernel_rfl) (fun _ _ _ h => h) (Or.inl ⟨by rfl, ?_⟩) hS ?_
    rotate_left
    · intro wq hq
      first | (go_simp; done) | (go_simp; rfl)
    try simp only [Act.put, List.setIfInBounds_toArray, List.set_cons_zero, List.set_cons_succ]
    refine wpAnyH_take (i := 5) (oi := ⟨some 53, _, _, _, _, _⟩) (v := ?_) rfl (by kernel_rfl) (by kernel_rfl) (by kernel_rfl) (fun _ _ _ h => h) (Or.inl ⟨by rfl, ?_⟩) hS ?_
    rotate_left
    · intro wq hq
      first | (go_simp; done) | (go_simp; rfl)
    try simp only [Act.put, List.setIfInBounds_toArray, List.set_cons_zero, List.set_cons_succ]
    refine wpAnyH_take (i := 7) (oi := ⟨some 55, _, _, _, _, _⟩) (v := ?_) rfl (by kernel_rfl) (by kernel_rfl) (by kernel_rfl) (fun _ _ _ h => h) (Or.inl ⟨by rfl, ?_⟩) hS ?_
    rotate_left
    · intro wq hq
      first | (go_simp; done) | (go_simp; rfl)
    try simp only [Act.put, List.setIfInBounds_toArray, List.set_cons_zero, List.set_cons_succ]
    refine wpAnyH_take (i := 8) (oi := ⟨some 56, _, _, _, _, _⟩) (v := ?_) rfl (by kernel_rfl) (by kernel_rfl) (by kernel_rfl) (fun _ _ _ h => h) (Or.inl ⟨by rfl, ?_⟩) hS ?_
    rotate_left
    · intro wq hq
      have c0 : wq.cell? ⟨w.heap.size, 5, none⟩ = some (.bool false) := by rw [← HRf.out]; exact hq.2.1.cell 5
      first | (go_simp; done) | (go_simp; rfl)
    try simp only [Act.put, List.setIfInBounds_toArray, List.set_cons_zero, List.set_cons_succ]
    refine wpAnyH_take (i := 14) (oi := ⟨some 62, _, _, _, _, _⟩) (v := ?_) rfl (by kernel_rfl) (by kernel_rfl) (by kernel_rfl) (fun _ _ _ h => h) (Or.inl ⟨by rfl, ?_⟩) hS ?_
    rotate_left
    · intro wq hq
      first | (go_simp; done) | (go_simp; rfl)
    try simp only [Act.put, List.setIfInBounds_toArray, List.set_cons_zero, List.set_cons_succ]
    generalize (((((w.alloc (.cells (hlc m).toArray 24)).alloc (.cells (hlc t).toArray 24)).alloc (.cells #[.int .u32 0, .int .u32 0, .int .i64 0, .int .i64 0, .bool false] 40)).alloc (.cells #[.int .i64 0, .int .i64 0, .slice none 0 0] 34))).drew = W0 at *
    clear HS HA HB a1 a2 a3 b0 b1 b2 b3
    have HS0 := Lib.hid hS.1
    refine wpAnyH_ready (rs := [6]) (by kernel_rfl) (by simp) ?_
    refine AllReadyH.cons (o := ⟨some 54, _, _, _, _, _⟩) rfl (fun K hK => ?_) AllReadyH.nil
    rw [if_pos (by rfl)]
    go_wp2_with fail
    refine (rthird_is W0 t.hold HBd.out).mono ?_
    rintro e W1 ⟨rfl, rfl⟩
    refine hK.out _ _ (hS) (fun hS => ?_)
    clear hK K
    try simp only [Act.put, List.setIfInBounds_toArray, List.set_cons_zero, List.set_cons_succ]
    refine wpAnyH_take (i := 9) (oi := ⟨some 57, _, _, _, _, _⟩) (v := ?_) rfl (by kernel_rfl) (by kernel_rfl) (by kernel_rfl) (fun _ _ _ h => h) (Or.inl ⟨by rfl, ?_⟩) hS ?_
    rotate_left
    · intro wq hq
      first | (go_simp; done) | (go_simp; rfl)
    try simp only [Act.put, List.setIfInBounds_toArray, List.set_cons_zero, List.set_cons_succ]
    refine wpAnyH_take (i := 10) (oi := ⟨some 58, _, _, _, _, _⟩) (v := undef) rfl (by kernel_rfl) (by kernel_rfl) (by kernel_rfl) (fun _ _ _ h => h) (Or.inr ⟨by rfl, rfl⟩) hS ?_
    try simp only [Act.put, List.setIfInBounds_toArray, List.set_cons_zero, List.set_cons_succ]
    refine wpAnyH_take (i := 11) (oi := ⟨some 59, _, _, _, _, _⟩) (v := undef) rfl (by kernel_rfl) (by kernel_rfl) (by kernel_rfl) (fun _ _ _ h => h) (Or.inr ⟨by rfl, rfl⟩) hS ?_
    try simp only [Act.put, List.setIfInBounds_toArray, List.set_cons_zero, List.set_cons_succ]
    refine wpAnyH_take (i := 12) (oi := ⟨some 60, _, _, _, _, _⟩) (v := ?_) rfl (by kernel_rfl) (by kernel_rfl) (by kernel_rfl) (fun _ _ _ h => h) (Or.inl ⟨by rfl, ?_⟩) hS ?_
    rotate_left
    · intro wq hq
      first | (go_simp; done) | (go_simp; rfl)
    try simp only [Act.put, List.setIfInBounds_toArray, List.set_cons_zero, List.set_cons_succ]
    refine wpAnyH_take (i := 13) (oi := ⟨some 61, _, _, _, _, _⟩) (v := ?_) rfl (by kernel_rfl) (by kernel_rfl) (by kernel_rfl) (fun _ _ _ h => h) (Or.inl ⟨by rfl, ?_⟩) hS ?_
    rotate_left
    · intro wq hq
      first | (go_simp; done) | (go_simp; rfl)
    try simp only [Act.put, List.setIfInBounds_toArray, List.set_cons_zero, List.set_cons_succ]
    obtain ⟨o1, k1, z1⟩ := hS.1.hb
    obtain ⟨o2, k2, z2⟩ := hS.1.fb
    refine wpAnyH_ready (rs := [15]) (by kernel_rfl) (by simp) ?_
    refine AllReadyH.cons (o := ⟨none, _, _, _, _, _⟩) rfl (fun K hK => ?_) AllReadyH.nil
    rw [if_pos (by rfl)]
    refine wp_store_row 40 _ _ rfl (w.heap.size + 1 + 1) (tmc ⟨t.as_, t.id_, t.hold, thd t.hold, false⟩).toArray rfl rfl 40 _ k1 tsz (by rw [z1]; rfl) (tmc_one _) ?_
    refine hK.out _ _ ⟨hS.1.own1 (tmc ⟨t.as_, t.id_, t.hold, thd t.hold, false⟩).toArray rfl, hS.2.1.setRow_other8 (by omega) _, hS.2.2.setRow_other8 (by omega) _⟩ (fun hS => ?_)
    clear hK K
    try simp only [Act.put, List.setIfInBounds_toArray, List.set_cons_zero, List.set_cons_succ]
    refine wpAnyH_ready (rs := [16]) (by kernel_rfl) (by simp) ?_
    refine AllReadyH.cons (o := ⟨none, _, _, _, _, _⟩) rfl (fun K hK => ?_) AllReadyH.nil
    rw [if_pos (by rfl)]
    refine wp_store_row 34 _ _ rfl (w.heap.size + 1 + 1 + 1) #[.int .i64 0, .int .i64 0, .slice none 0 0] rfl rfl 34 _ (k2.setRow_other8 (by omega) _) fsz (by rw [z2]; rfl) (by kernel_rfl) ?_
    refine hK.out _ _ ⟨hS.1.own2 #[.int .i64 0, .int .i64 0, .slice none 0 0] rfl, hS.2.1.setRow_other8 (by omega) _, hS.2.2.setRow_other8 (by omega) _⟩ (fun hS => ?_)
    clear hK K
    try simp only [Act.put, List.setIfInBounds_toArray, List.set_cons_zero, List.set_cons_succ]
    refine wpAnyH_take (i := 17) (oi := ⟨some 8, _, _, _, _, _⟩) (v := ?_) rfl (by kernel_rfl) (by kernel_rfl) (by kernel_rfl) (fun _ _ _ h => h) (Or.inl ⟨by rfl, ?_⟩) hS ?_
    rotate_left
    · intro wq hq
      first | (go_simp; done) | (go_simp; rfl)
    try simp only [Act.put, List.setIfInBounds_toArray, List.set_cons_zero, List.set_cons_succ]
    refine wpAnyH_done (by kernel_rfl) ?_ _
    clear hS k1 k2
    go_wp2
    try simp only [Exit.inBlock, Exit.then]
    exact tm_end rfl _ w W0 _ HS0.out ⟨t.as_, t.id_, t.hold, thd t.hold, false⟩ 0 0 none 0 0 (.bool true) rfl rfl rfl rfl (fun hb => by rw [HOk.out]; exact ⟨hb, rfl⟩)
end Go.Proofs.YtgfjjkckamppoaaDoor
