/-
  Layer 8: judged, withParameters.
-/
import Derived.Test.YtgfjjkckamppoaaDoorHeG
namespace Go.Proofs.YtgfjjkckamppoaaDoor
open Go.RowKit
set_option maxRecDepth 100000
set_option linter.unusedSimpArgs false
set_option linter.unusedVariables false

/-- What is told of a hello: it, or the fault. -/
def ToldH (w : World) (r : Except (Int × List Int) Hl) (e : Ending) (w' : World) : Prop := Below w.heap.size w w' ∧ match r with
  | .ok h => e = .returned (.tuple #[.agg (hlc h).toArray, .agg #[.int .i64 0, .int .i64 0, .slice none 0 0], .bool true])
  | .error (s, d) => ∃ A n c, e = .returned (.tuple #[.agg (hlc hl0).toArray, .agg #[.int .i64 2, .int .i64 s, .slice A n c], .bool false]) ∧ n ≤ c ∧ Rd w' w'.heap.size A n d
theorem ToldH.no (w w' : World) (s : Int) (hB : Below w.heap.size w w') : ToldH w (.error (s, [])) (.returned (.tuple #[.agg (hlc hl0).toArray, .agg #[.int .i64 2, .int .i64 s, .slice none 0 0], .bool false])) w' := ⟨hB, none, 0, 0, rfl, Nat.le_refl _, Rd.nil_ _⟩

theorem res_new2 (w : World) (o : Obj) : ResS w (((w.alloc o).alloc (.cells #[.int .u32 0, .int .i64 0, .int .u32 0, .bool false, .bool false, .bool false] 24)).alloc (.cells #[.int .i64 0, .int .i64 0, .slice none 0 0] 34)) (w.heap.size + 1) := by
  have h := res_new (w.alloc o)
  have hs : (w.alloc o).heap.size = w.heap.size + 1 := by simp
  rw [hs] at h
  have hl := h.low
  rw [hs] at hl
  exact ⟨(below_one8 w o).trans (hl.mono (Nat.le_succ _)), Nat.le_succ _, h.hb, h.fb⟩
set_option maxHeartbeats 2000000 in
theorem judged_is (w : World) (h : Hl) (hk : HlOk h) : Calls Tryd.prog 48 #[.agg (hlc h).toArray] w (ToldH w (judgeR h)) := by
  have HS := Lib.hid (res_new2 w (.cells (hlc h).toArray 24))
  have HX := Lib.hid (((Blk.new w 24 (hlc h).toArray).alloc (.cells #[.int .u32 0, .int .i64 0, .int .u32 0, .bool false, .bool false, .bool false] 24)).alloc (.cells #[.int .i64 0, .int .i64 0, .slice none 0 0] 34))
  have hs : (((w.alloc (.cells (hlc h).toArray 24)).alloc (.cells #[.int .u32 0, .int .i64 0, .int .u32 0, .bool false, .bool false, .bool false] 24)).alloc (.cells #[.int .i64 0, .int .i64 0, .slice none 0 0] 34)).heap.size = w.heap.size + 3 := by simp
  have c0 : (((w.alloc (.cells (hlc h).toArray 24)).alloc (.cells #[.int .u32 0, .int .i64 0, .int .u32 0, .bool false, .bool false, .bool false] 24)).alloc (.cells #[.int .i64 0, .int .i64 0, .slice none 0 0] 34)).cell? ⟨w.heap.size, 0, none⟩ = some (.int .u32 h.as_) := HX.out.cell 0
  have c1 : (((w.alloc (.cells (hlc h).toArray 24)).alloc (.cells #[.int .u32 0, .int .i64 0, .int .u32 0, .bool false, .bool false, .bool false] 24)).alloc (.cells #[.int .i64 0, .int .i64 0, .slice none 0 0] 34)).cell? ⟨w.heap.size, 1, none⟩ = some (.int .i64 h.hold) := HX.out.cell 1
  have c2 : (((w.alloc (.cells (hlc h).toArray 24)).alloc (.cells #[.int .u32 0, .int .i64 0, .int .u32 0, .bool false, .bool false, .bool false] 24)).alloc (.cells #[.int .i64 0, .int .i64 0, .slice none 0 0] 34)).cell? ⟨w.heap.size, 2, none⟩ = some (.int .u32 h.id_) := HX.out.cell 2
  clear hs
  by_cases h0 : h.as_ = 0
  · have HJ : Hid (judgeR h = .error (2, [])) := Lib.hid (by unfold judgeR; rw [if_pos h0])
    rw [h0] at c0
    clear h0
    go_enter Tryd.func48, Tryd.ntmps48
    go_wp2_with fail
    refine (refused_is _ 2 none 0 0).mono ?_
    rintro e W ⟨rfl, hB⟩
    have HS2 := Lib.hid (HS.out.below hB)
    clear hB HS HX c0 c1 c2
    go_wp2_with (first
      | (refine res_store HS2.out rfl _ _ rfl hl0 rfl rfl ?_)
      | (refine res_store2 HS2.out hl0 rfl _ _ rfl 2 2 none 0 0 rfl rfl ?_))
    try simp only [Exit.inBlock, Exit.then]
    exact res_end rfl _ w W _ HS2.out hl0 2 2 none 0 0 _ rfl rfl rfl rfl (fun hb => by rw [HJ.out]; exact ToldH.no w _ 2 hb)
  have e0 : (h.as_ == 0) = false := by simpa using h0
  by_cases hi : h.id_ = 0
  · have HJ : Hid (judgeR h = .error (3, [])) := Lib.hid (by unfold judgeR; rw [if_neg h0, if_pos hi])
    rw [hi] at c2
    clear hi h0
    go_enter Tryd.func48, Tryd.ntmps48
    go_wp2_with fail
    refine (refused_is _ 3 none 0 0).mono ?_
    rintro e W ⟨rfl, hB⟩
    have HS2 := Lib.hid (HS.out.below hB)
    clear hB HS HX c0 c1 c2
    go_wp2_with (first
      | (refine res_store HS2.out rfl _ _ rfl hl0 rfl rfl ?_)
      | (refine res_store2 HS2.out hl0 rfl _ _ rfl 2 3 none 0 0 rfl rfl ?_))
    try simp only [Exit.inBlock, Exit.then]
    exact res_end rfl _ w W _ HS2.out hl0 2 3 none 0 0 _ rfl rfl rfl rfl (fun hb => by rw [HJ.out]; exact ToldH.no w _ 3 hb)
  have ei : (h.id_ == 0) = false := by simpa using hi
  by_cases hp : 0 < h.hold
  · by_cases h3 : h.hold < 3
    · have HJ : Hid (judgeR h = .error (6, [])) := Lib.hid (by unfold judgeR; rw [if_neg h0, if_neg hi, if_pos ⟨hp, h3⟩])
      clear hi h0
      go_enter Tryd.func48, Tryd.ntmps48
      go_wp2_with fail
      refine (refused_is _ 6 none 0 0).mono ?_
      rintro e W ⟨rfl, hB⟩
      have HS2 := Lib.hid (HS.out.below hB)
      clear hB HS HX c0 c1 c2
      go_wp2_with (first
        | (refine res_store HS2.out rfl _ _ rfl hl0 rfl rfl ?_)
        | (refine res_store2 HS2.out hl0 rfl _ _ rfl 2 6 none 0 0 rfl rfl ?_))
      try simp only [Exit.inBlock, Exit.then]
      exact res_end rfl _ w W _ HS2.out hl0 2 6 none 0 0 _ rfl rfl rfl rfl (fun hb => by rw [HJ.out]; exact ToldH.no w _ 6 hb)
    · have HJ : Hid (judgeR h = .ok h) := Lib.hid (by unfold judgeR; rw [if_neg h0, if_neg hi, if_neg (fun x => h3 x.2)])
      clear hi h0
      go_enter Tryd.func48, Tryd.ntmps48
      go_wp2_with (first
        | (refine h_fetch rfl _ rfl w.heap.size h 24 rfl HX.out ?_)
        | (refine res_store HS.out rfl _ _ rfl h rfl rfl ?_)
        | (refine res_store2 HS.out h rfl _ _ rfl 0 0 none 0 0 rfl rfl ?_))
      try simp only [Exit.inBlock, Exit.then]
      exact res_end rfl _ w _ _ HS.out h 0 0 none 0 0 _ rfl rfl rfl rfl (fun hb => by rw [HJ.out]; exact ⟨hb, rfl⟩)
  · have HJ : Hid (judgeR h = .ok h) := Lib.hid (by unfold judgeR; rw [if_neg h0, if_neg hi, if_neg (fun x => hp x.1)])
    clear hi h0
    go_enter Tryd.func48, Tryd.ntmps48
    go_wp2_with (first
      | (refine h_fetch rfl _ rfl w.heap.size h 24 rfl HX.out ?_)
      | (refine res_store HS.out rfl _ _ rfl h rfl rfl ?_)
      | (refine res_store2 HS.out h rfl _ _ rfl 0 0 none 0 0 rfl rfl ?_))
    try simp only [Exit.inBlock, Exit.then]
    exact res_end rfl _ w _ _ HS.out h 0 0 none 0 0 _ rfl rfl rfl rfl (fun hb => by rw [HJ.out]; exact ⟨hb, rfl⟩)
end Go.Proofs.YtgfjjkckamppoaaDoor
