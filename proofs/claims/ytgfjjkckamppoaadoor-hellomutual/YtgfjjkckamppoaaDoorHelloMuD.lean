/-
  HelloMutual: this end without routes of the family.
-/
import Derived.Test.YtgfjjkckamppoaaDoorHeQ
namespace Go.Proofs.YtgfjjkckamppoaaDoor
open Go.RowKit
set_option maxRecDepth 100000
set_option linter.unusedSimpArgs false
set_option linter.unusedVariables false

set_option maxHeartbeats 4000000 in
theorem mu_ne_00 (w : World) (E : EnvF w) (a b : Hl) (ka : HlOk a) (kb : HlOk b) (ra : rightH a = true) (rb : rightH b = true) (hae : a.ev = false) (hid : b.id_ ≠ a.id_) : Calls Tryd.prog 8 #[.agg (hlc a).toArray, .agg (hlc b).toArray] w (AliveP w) := by
  have HR1 : Hid (agreeR a b b.as_ = .error (7, [1, 4, 0, 25, 0, 70])) := Lib.hid (by unfold agreeR; rw [if_neg (fun h => h rfl), if_neg hid, if_pos (by rw [hae]; simp)])
  have HR2 : Hid (agreeR b a a.as_ = .error (7, [1, 4, 0, 25, 0, 70])) := Lib.hid (by unfold agreeR; rw [if_neg (fun h => h rfl), if_neg (Ne.symm hid), if_pos (by rw [hae]; simp)])
  have hne : (a.id_ != b.id_) = true := by simp; exact Ne.symm hid
  have hst : (decide (b.id_ < a.id_) == decide (a.id_ < b.id_)) = false := by
    rcases Int.lt_or_gt_of_ne hid with h | h
    · rw [decide_eq_true h, decide_eq_false (by omega)]; rfl
    · rw [decide_eq_false (by omega), decide_eq_true (by omega)]; rfl
  clear hid
  have HS0 := Lib.hid (mu_new w E a b)
  have HKa := Lib.hid ka
  have HKb := Lib.hid kb
  have HEa : Hid (errH a = 0) := Lib.hid (by unfold errH; rw [if_pos ra])
  have HEb : Hid (errH b = 0) := Lib.hid (by unfold errH; rw [if_pos rb])
  clear E ka kb ra rb
  go_enter Tryd.func8, Tryd.ntmps8
  go_wp2_with (refine h_fetch rfl _ rfl w.heap.size a 24 rfl HS0.out.ba ?_)
  refine (putH_is _ HS0.out.env a HKa.out).mono ?_
  generalize ((w.alloc (.cells (hlc a).toArray 24)).alloc (.cells (hlc b).toArray 24)) = W0 at *
  rintro e W1 ⟨A1, n1, c1, rfl, _, _, _, hB⟩
  rw [HEa.out]
  have HS1 := Lib.hid (HS0.out.below hB)
  clear hB HS0
  go_wp2_with (refine h_fetch rfl _ rfl (w.heap.size + 1) b 24 rfl HS1.out.bb ?_)
  refine (putH_is _ HS1.out.env b HKb.out).mono ?_
  rintro e W2 ⟨A2, n2, c2, rfl, _, _, _, hB⟩
  rw [HEb.out]
  have HS2 := Lib.hid (HS1.out.below hB)
  clear hB HS1
  obtain ⟨xa0, xa1, xa2, xa3, xb0, xb1, xb2, xb3⟩ := HS2.out.c
  go_wp2_with (first
    | (refine h_fetch rfl _ rfl w.heap.size a 24 rfl HS2.out.ba ?_)
    | (refine h_fetch rfl _ rfl (w.heap.size + 1) b 24 rfl HS2.out.bb ?_))
  refine (agree_is W2 HS2.out.env a b HKa.out HKb.out b.as_).mono ?_
  rintro e W3 ⟨hB, hp⟩
  rw [HR1.out] at hp
  obtain ⟨A3, n3, k3, rfl, _, hr3⟩ := hp
  have HS3 := Lib.hid (HS2.out.below hB)
  have HD3 := Lib.hid hr3
  clear hB HS2 xa0 xa1 xa2 xa3 xb0 xb1 xb2 xb3 hr3
  obtain ⟨h1, h2, h3⟩ := two_t W3 tm0 2 7 A3 n3 k3
  have H30 := Lib.hid (two_t0 W3)
  have H31 := Lib.hid (two_t1 W3 tm0)
  have HG4 := Lib.hid h2
  have HS4 := Lib.hid (HS3.out.below h3)
  have HD4 := Lib.hid (HD3.out.up h3)
  clear h1 h2 h3 HS3 HD3
  obtain ⟨xa0, xa1, xa2, xa3, xb0, xb1, xb2, xb3⟩ := HS4.out.c
  go_wp2_with (first
    | (refine t_store rfl _ _ rfl W3.heap.size tm0 rfl rfl 40 _ H30.out rfl ?_)
    | (refine f_store rfl _ _ rfl (W3.heap.size + 1) 2 7 A3 n3 k3 rfl rfl 34 _ H31.out rfl ?_)
    | (refine h_fetch rfl _ rfl w.heap.size a 24 rfl HS4.out.ba ?_)
    | (refine h_fetch rfl _ rfl (w.heap.size + 1) b 24 rfl HS4.out.bb ?_))
  refine (agree_is _ HS4.out.env b a HKb.out HKa.out a.as_).mono ?_
  generalize ((((W3.alloc (.cells #[.int .u32 0, .int .u32 0, .int .i64 0, .int .i64 0, .bool false] 40)).alloc (.cells #[.int .i64 0, .int .i64 0, .slice none 0 0] 34)).setRow W3.heap.size (tmc tm0).toArray).setRow (W3.heap.size + 1) #[.int .i64 2, .int .i64 7, .slice A3 n3 k3]) = W4 at *
  generalize W3.heap.size = g3 at *
  rintro e W5 ⟨hB, hp⟩
  rw [HR2.out] at hp
  obtain ⟨A5, n5, k5, rfl, _, hr5⟩ := hp
  have HS5 := Lib.hid (HS4.out.below hB)
  have HD5 := Lib.hid (HD4.out.up hB)
  have HG5 := Lib.hid (HG4.out.below hB HG4.out.lt)
  have HDD5 := Lib.hid hr5
  clear hB HS4 HD4 HG4 xa0 xa1 xa2 xa3 xb0 xb1 xb2 xb3 hr5 H30 H31
  obtain ⟨h1, h2, h3⟩ := two_t W5 tm0 2 7 A5 n5 k5
  have H50 := Lib.hid (two_t0 W5)
  have H51 := Lib.hid (two_t1 W5 tm0)
  have HGG6 := Lib.hid h2
  have HG6 := Lib.hid (HG5.out.below h3 HG5.out.lt)
  have HS6 := Lib.hid (HS5.out.below h3)
  have HD6 := Lib.hid (HD5.out.up h3)
  have HDD6 := Lib.hid (HDD5.out.up h3)
  clear h1 h2 h3 HS5 HD5 HDD5 HG5
  obtain ⟨xa0, xa1, xa2, xa3, xb0, xb1, xb2, xb3⟩ := HS6.out.c
  rw [hae] at xa3
  skip
  go_wp2_with (first
    | (refine t_store rfl _ _ rfl W5.heap.size tm0 rfl rfl 40 _ H50.out rfl ?_)
    | (refine f_store rfl _ _ rfl (W5.heap.size + 1) 2 7 A5 n5 k5 rfl rfl 34 _ H51.out rfl ?_)
    | (refine f_fetch rfl _ rfl (g3 + 1) 2 7 A3 n3 k3 34 rfl HG6.out ?_)
    | (refine f_fetch rfl _ rfl (W5.heap.size + 1) 2 7 A5 n5 k5 34 rfl HGG6.out ?_))
  refine (alike_is _ 2 7 2 7 A3 A5 n3 n5 k3 k5 [1, 4, 0, 25, 0, 70] [1, 4, 0, 25, 0, 70] HD6.out HDD6.out true (by simp)).mono ?_
  generalize ((((W5.alloc (.cells #[.int .u32 0, .int .u32 0, .int .i64 0, .int .i64 0, .bool false] 40)).alloc (.cells #[.int .i64 0, .int .i64 0, .slice none 0 0] 34)).setRow W5.heap.size (tmc tm0).toArray).setRow (W5.heap.size + 1) #[.int .i64 2, .int .i64 7, .slice A5 n5 k5]) = W6 at *
  clear H50 H51
  generalize W5.heap.size = g5 at *
  rintro e W7 ⟨rfl, hB⟩
  have HS7 := Lib.hid (HS6.out.below hB)
  have HG7 := Lib.hid (HG6.out.below hB HG6.out.lt)
  clear hB HS6 HD6 HDD6 HG6 HGG6 xa0 xa1 xa2 xa3 xb0 xb1 xb2 xb3
  go_wp2_with fail
  refine wp_region_held_drew (S := fun W => MuS w W a b) (by kernel_rfl) (HS7.out.below (below_drew8 W7)) (fun hS => ?_)
  have HG8 := Lib.hid (HG7.out.below (below_drew8 W7) HG7.out.lt)
  generalize W7.drew = W8 at *
  clear HS7 HG7
  refine wpAnyH_take (i := 0) (oi := ⟨some 76, _, _, _, _, _⟩) (v := ?_) rfl (by kernel_rfl) (by kernel_rfl) (by kernel_rfl) (fun _ _ _ h => h) (Or.inl ⟨by rfl, ?_⟩) hS ?_
  rotate_left
  · intro wq hq
    first | (go_simp; done) | (go_simp; rfl)
  try simp only [Act.put, List.setIfInBounds_toArray, List.set_cons_zero, List.set_cons_succ]
  refine wpAnyH_take (i := 1) (oi := ⟨some 77, _, _, _, _, _⟩) (v := ?_) rfl (by kernel_rfl) (by kernel_rfl) (by kernel_rfl) (fun _ _ _ h => h) (Or.inl ⟨by rfl, ?_⟩) hS ?_
  rotate_left
  · intro wq hq
    have c0 := hq.c.2.2.1
    first | (go_simp; done) | (go_simp; rfl)
  try simp only [Act.put, List.setIfInBounds_toArray, List.set_cons_zero, List.set_cons_succ]
  refine wpAnyH_take (i := 2) (oi := ⟨some 78, _, _, _, _, _⟩) (v := ?_) rfl (by kernel_rfl) (by kernel_rfl) (by kernel_rfl) (fun _ _ _ h => h) (Or.inl ⟨by rfl, ?_⟩) hS ?_
  rotate_left
  · intro wq hq
    first | (go_simp; done) | (go_simp; rfl)
  try simp only [Act.put, List.setIfInBounds_toArray, List.set_cons_zero, List.set_cons_succ]
  refine wpAnyH_take (i := 3) (oi := ⟨some 79, _, _, _, _, _⟩) (v := ?_) rfl (by kernel_rfl) (by kernel_rfl) (by kernel_rfl) (fun _ _ _ h => h) (Or.inl ⟨by rfl, ?_⟩) hS ?_
  rotate_left
  · intro wq hq
    have c0 := hq.c.2.2.2.2.2.2.1
    first | (go_simp; done) | (go_simp; rfl)
  try simp only [Act.put, List.setIfInBounds_toArray, List.set_cons_zero, List.set_cons_succ]
  refine wpAnyH_take (i := 4) (oi := ⟨some 80, _, _, _, _, _⟩) (v := ?_) rfl (by kernel_rfl) (by kernel_rfl) (by kernel_rfl) (fun _ _ _ h => h) (Or.inl ⟨by rfl, ?_⟩) hS ?_
  rotate_left
  · intro wq hq
    first | (go_simp; done) | (go_simp; rfl)
  try simp only [Act.put, List.setIfInBounds_toArray, List.set_cons_zero, List.set_cons_succ]
  refine wpAnyH_take (i := 5) (oi := ⟨some 81, _, _, _, _, _⟩) (v := ?_) rfl (by kernel_rfl) (by kernel_rfl) (by kernel_rfl) (fun _ _ _ h => h) (Or.inl ⟨by rfl, ?_⟩) hS ?_
  rotate_left
  · intro wq hq
    first | (go_simp; done) | (go_simp; rfl)
  try simp only [Act.put, List.setIfInBounds_toArray, List.set_cons_zero, List.set_cons_succ]
  refine wpAnyH_take (i := 6) (oi := ⟨some 82, _, _, _, _, _⟩) (v := ?_) rfl (by kernel_rfl) (by kernel_rfl) (by kernel_rfl) (fun _ _ _ h => h) (Or.inl ⟨by rfl, ?_⟩) hS ?_
  rotate_left
  · intro wq hq
    first | (go_simp; done) | (go_simp; rfl)
  try simp only [Act.put, List.setIfInBounds_toArray, List.set_cons_zero, List.set_cons_succ]
  refine wpAnyH_take (i := 7) (oi := ⟨some 83, _, _, _, _, _⟩) (v := ?_) rfl (by kernel_rfl) (by kernel_rfl) (by kernel_rfl) (fun _ _ _ h => h) (Or.inl ⟨by rfl, ?_⟩) hS ?_
  rotate_left
  · intro wq hq
    have c0 := hq.c.2.2.1
    first | (go_simp; done) | (go_simp; rfl)
  try simp only [Act.put, List.setIfInBounds_toArray, List.set_cons_zero, List.set_cons_succ]
  refine wpAnyH_take (i := 8) (oi := ⟨some 84, _, _, _, _, _⟩) (v := ?_) rfl (by kernel_rfl) (by kernel_rfl) (by kernel_rfl) (fun _ _ _ h => h) (Or.inl ⟨by rfl, ?_⟩) hS ?_
  rotate_left
  · intro wq hq
    first | (go_simp; done) | (go_simp; rfl)
  try simp only [Act.put, List.setIfInBounds_toArray, List.set_cons_zero, List.set_cons_succ]
  refine wpAnyH_take (i := 9) (oi := ⟨some 85, _, _, _, _, _⟩) (v := ?_) rfl (by kernel_rfl) (by kernel_rfl) (by kernel_rfl) (fun _ _ _ h => h) (Or.inl ⟨by rfl, ?_⟩) hS ?_
  rotate_left
  · intro wq hq
    have c0 := hq.c.2.2.2.2.2.2.1
    first | (go_simp; done) | (go_simp; rfl)
  try simp only [Act.put, List.setIfInBounds_toArray, List.set_cons_zero, List.set_cons_succ]
  refine wpAnyH_take (i := 11) (oi := ⟨some 87, _, _, _, _, _⟩) (v := ?_) rfl (by kernel_rfl) (by kernel_rfl) (by kernel_rfl) (fun _ _ _ h => h) (Or.inl ⟨by rfl, ?_⟩) hS ?_
  rotate_left
  · intro wq hq
    first | (go_simp; done) | (go_simp; rfl)
  try simp only [Act.put, List.setIfInBounds_toArray, List.set_cons_zero, List.set_cons_succ]
  refine wpAnyH_take (i := 12) (oi := ⟨some 88, _, _, _, _, _⟩) (v := ?_) rfl (by kernel_rfl) (by kernel_rfl) (by kernel_rfl) (fun _ _ _ h => h) (Or.inl ⟨by rfl, ?_⟩) hS ?_
  rotate_left
  · intro wq hq
    have c0 := hq.c.2.2.2.2.2.2.1
    first | (go_simp; done) | (go_simp; rfl)
  try simp only [Act.put, List.setIfInBounds_toArray, List.set_cons_zero, List.set_cons_succ]
  refine wpAnyH_take (i := 13) (oi := ⟨some 89, _, _, _, _, _⟩) (v := ?_) rfl (by kernel_rfl) (by kernel_rfl) (by kernel_rfl) (fun _ _ _ h => h) (Or.inl ⟨by rfl, ?_⟩) hS ?_
  rotate_left
  · intro wq hq
    first | (go_simp; done) | (go_simp; rfl)
  try simp only [Act.put, List.setIfInBounds_toArray, List.set_cons_zero, List.set_cons_succ]
  refine wpAnyH_take (i := 14) (oi := ⟨some 90, _, _, _, _, _⟩) (v := ?_) rfl (by kernel_rfl) (by kernel_rfl) (by kernel_rfl) (fun _ _ _ h => h) (Or.inl ⟨by rfl, ?_⟩) hS ?_
  rotate_left
  · intro wq hq
    have c0 := hq.c.2.2.1
    first | (go_simp; done) | (go_simp; rfl)
  try simp only [Act.put, List.setIfInBounds_toArray, List.set_cons_zero, List.set_cons_succ]
  refine wpAnyH_ready (rs := [10]) (by kernel_rfl) (by simp) ?_
  refine AllReadyH.cons (o := ⟨some 86, _, _, _, _, _⟩) rfl (fun K hK => ?_) AllReadyH.nil
  rw [if_pos (by rfl)]
  go_wp2_with fail
  refine (stays_is W8 a.id_ b.id_).mono ?_
  rintro e W9 ⟨rfl, rfl⟩
  refine hK.out _ _ (hS) (fun hS => ?_)
  clear hK K
  try simp only [Act.put, List.setIfInBounds_toArray, List.set_cons_zero, List.set_cons_succ]
  refine wpAnyH_ready (rs := [15]) (by kernel_rfl) (by simp) ?_
  refine AllReadyH.cons (o := ⟨some 91, _, _, _, _, _⟩) rfl (fun K hK => ?_) AllReadyH.nil
  rw [if_pos (by rfl)]
  go_wp2_with fail
  refine (stays_is W8 b.id_ a.id_).mono ?_
  rintro e W9 ⟨rfl, rfl⟩
  refine hK.out _ _ (hS) (fun hS => ?_)
  clear hK K
  try simp only [Act.put, List.setIfInBounds_toArray, List.set_cons_zero, List.set_cons_succ]
  refine wpAnyH_take (i := 16) (oi := ⟨some 92, _, _, _, _, _⟩) (v := ?_) rfl (by kernel_rfl) (by kernel_rfl) (by kernel_rfl) (fun _ _ _ h => h) (Or.inl ⟨by rfl, ?_⟩) hS ?_
  rotate_left
  · intro wq hq
    have c0 := hst
    first | (go_simp; done) | (go_simp; rfl)
  try simp only [Act.put, List.setIfInBounds_toArray, List.set_cons_zero, List.set_cons_succ]
  refine wpAnyH_take (i := 17) (oi := ⟨some 93, _, _, _, _, _⟩) (v := ?_) rfl (by kernel_rfl) (by kernel_rfl) (by kernel_rfl) (fun _ _ _ h => h) (Or.inl ⟨by rfl, ?_⟩) hS ?_
  rotate_left
  · intro wq hq
    first | (go_simp; done) | (go_simp; rfl)
  try simp only [Act.put, List.setIfInBounds_toArray, List.set_cons_zero, List.set_cons_succ]
  refine wpAnyH_done (by kernel_rfl) ?_ _
  have HS8 := Lib.hid hS
  clear hS
  have f1 : W8.cell? ⟨g3 + 1, 1, none⟩ = some (.int .i64 7) := HG8.out.cell 1
  go_wp2_with fail
  refine (alive_is W8 HS8.out.env).mono ?_
  rintro e W9 ⟨rfl, hB⟩
  have HBf := Lib.hid (HS8.out.low.trans (hB.mono HS8.out.low.size))
  clear hB
  go_wp2
  go_ret
  exact ⟨rfl, HBf.out⟩
end Go.Proofs.YtgfjjkckamppoaaDoor
