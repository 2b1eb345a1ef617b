/-
  Layer 8: Put.
-/
import Derived.Test.YtgfjjkckamppoaaDoorHeC
namespace Go.Proofs.YtgfjjkckamppoaaDoor
open Go.RowKit
set_option maxRecDepth 100000
set_option linter.unusedSimpArgs false
set_option linter.unusedVariables false

/-- An open's body. -/
def putB (h : Hl) : List Int := [4] ++ (be 2 (shA h.as_) ++ (be 2 h.hold ++ (be 4 h.id_ ++ (be 1 ((parB h).length : Int) ++ parB h))))
theorem putB_len (h : Hl) : (putB h).length = 10 + (parB h).length := by
  unfold putB
  simp only [List.length_append, be_len, List.length_cons, List.length_nil]
  omega
def errH (h : Hl) : Int := if rightH h then 0 else 2
def bodyH (h : Hl) : List Int := if rightH h then putB h else []
def PutH (w : World) (h : Hl) (e : Ending) (w' : World) : Prop := ∃ A n c, e = .returned (.tuple #[.slice A n c, .int .i64 (errH h)]) ∧ n = (bodyH h).length ∧ n ≤ c ∧ Rd w' w'.heap.size A n (bodyH h) ∧ Below w.heap.size w w'
/-- The memory of Put: the hello's box, the parameters. -/
structure PuS (w W : World) (h : Hl) (A : Option Addr) (n : Nat) : Prop where
  low : Below w.heap.size w W
  box : HlAt W w.heap.size h
  par : Rd W W.heap.size A n (parB h)
theorem PuS.below {w W W' : World} {h : Hl} {A : Option Addr} {n : Nat} (k : PuS w W h A n) (hB : Below W.heap.size W W') : PuS w W' h A n := ⟨k.low.trans (hB.mono k.low.size), k.box.below hB k.box.lt, (k.par.below hB).more hB.size⟩
theorem right_parts {h : Hl} (hr : rightH h = true) : 0 < h.as_ ∧ 0 < h.id_ ∧ 0 ≤ h.hold ∧ h.hold ≤ 65535 := by
  unfold rightH at hr
  have := of_decide_eq_true hr
  omega
theorem Rd.up {W W' : World} {A : Option Addr} {n : Nat} {l : List Int} (h : Rd W W.heap.size A n l) (hB : Below W.heap.size W W') : Rd W' W'.heap.size A n l := (h.below hB).more hB.size
theorem RdAll.below {W W' : World} {B : Nat} (hb : Below B W W') : ∀ {vs : List (Option Addr × Nat × Nat)} {ls : List (List Int)}, RdAll W B vs ls → RdAll W' B vs ls
  | [], [], _ => trivial
  | _ :: _, _ :: _, h => ⟨h.1.below hb, RdAll.below hb h.2⟩
  | [], _ :: _, h => h.elim
  | _ :: _, [], h => h.elim

set_option maxHeartbeats 4000000 in
theorem put_yesH (w : World) (E : EnvF w) (h : Hl) (hk : HlOk h) (hr : rightH h = true) : Calls Tryd.prog 10 #[.agg (hlc h).toArray] w (PutH w h) := by
  have HR : Hid (∀ W, Calls Tryd.prog _ _ W _) := Lib.hid (fun W => isRight_is W h)
  have HP := Lib.hid (fun W (E : EnvF W) => params_is W E h hk)
  have HBd : Hid (bodyH h = putB h ∧ errH h = 0) := Lib.hid (by unfold bodyH errH; rw [if_pos hr, if_pos hr]; exact ⟨rfl, rfl⟩)
  have hp := right_parts hr
  have ha := hk.as_
  have hi := hk.id_
  have hle := parB_le h
  rw [hr] at HR
  have HB0 := Lib.hid (below_one8 w (.cells (hlc h).toArray 24))
  have HX0 := Lib.hid (Blk.new w 24 (hlc h).toArray)
  have HE0 := Lib.hid (E.below HB0.out)
  have hsa : 0 ≤ shA h.as_ ∧ shA h.as_ < 65536 := by unfold shA; split <;> omega
  have HPut : Hid (putB h = [be 1 4, be 2 (shA h.as_), be 2 h.hold, be 4 h.id_, be 1 ((parB h).length : Int), parB h].flatten) := Lib.hid (by unfold putB; simp [be1])
  have HCl := Lib.hid (fun W (k : HlAt W w.heap.size h) => (show W.cell? ⟨w.heap.size, 0, none⟩ = some (.int .u32 h.as_) ∧ W.cell? ⟨w.heap.size, 1, none⟩ = some (.int .i64 h.hold) ∧ W.cell? ⟨w.heap.size, 2, none⟩ = some (.int .u32 h.id_) from ⟨k.cell 0, k.cell 1, k.cell 2⟩))
  clear E hk hr
  go_enter Tryd.func10, Tryd.ntmps10
  go_wp2_with (refine h_fetch rfl _ rfl w.heap.size h 24 rfl HX0.out ?_)
  refine (HR.out _).mono ?_
  rintro e W1 ⟨rfl, hB⟩
  have HX1 := Lib.hid (HX0.out.below hB HX0.out.lt)
  have HE1 := Lib.hid (HE0.out.below hB)
  have HB1 := Lib.hid (HB0.out.trans (hB.mono HB0.out.size))
  clear hB HB0 HX0 HE0 HR
  go_wp2_with (refine h_fetch rfl _ rfl w.heap.size h 24 rfl HX1.out ?_)
  refine (HP.out _ HE1.out).mono ?_
  rintro e W2 ⟨A, c, rfl, hrd, hB⟩
  have HS2 : Hid (PuS w W2 h A (parB h).length) := Lib.hid ⟨HB1.out.trans (hB.mono HB1.out.size), HX1.out.below hB HX1.out.lt, hrd⟩
  clear hB hrd HB1 HX1 HE1 HP
  generalize hbl : (parB h).length = n at *
  have HN := Lib.hid hbl
  clear hbl
  go_wp2_with fail
  refine wp_region_held_drew (S := fun W => PuS w W h A n) (by kernel_rfl) (HS2.out.below (below_drew8 W2)) (fun hS => ?_)
  refine wpAnyH_take (i := 1) (oi := ⟨some 11, _, _, _, _, _⟩) (v := ?_) rfl (by kernel_rfl) (by kernel_rfl) (by kernel_rfl) (fun _ _ _ h => h) (Or.inl ⟨by rfl, ?_⟩) hS ?_
  rotate_left
  · intro wq hq
    first | (go_simp; done) | (go_simp; rfl)
  try simp only [Act.put, List.setIfInBounds_toArray, List.set_cons_zero, List.set_cons_succ]
  refine wpAnyH_take (i := 2) (oi := ⟨some 12, _, _, _, _, _⟩) (v := ?_) rfl (by kernel_rfl) (by kernel_rfl) (by kernel_rfl) (fun _ _ _ h => h) (Or.inl ⟨by rfl, ?_⟩) hS ?_
  rotate_left
  · intro wq hq
    have c0 := (HCl.out wq hq.box).1
    first | (go_simp; done) | (go_simp; rfl)
  try simp only [Act.put, List.setIfInBounds_toArray, List.set_cons_zero, List.set_cons_succ]
  refine wpAnyH_take (i := 6) (oi := ⟨some 16, _, _, _, _, _⟩) (v := ?_) rfl (by kernel_rfl) (by kernel_rfl) (by kernel_rfl) (fun _ _ _ h => h) (Or.inl ⟨by rfl, ?_⟩) hS ?_
  rotate_left
  · intro wq hq
    first | (go_simp; done) | (go_simp; rfl)
  try simp only [Act.put, List.setIfInBounds_toArray, List.set_cons_zero, List.set_cons_succ]
  refine wpAnyH_take (i := 7) (oi := ⟨some 17, _, _, _, _, _⟩) (v := ?_) rfl (by kernel_rfl) (by kernel_rfl) (by kernel_rfl) (fun _ _ _ h => h) (Or.inl ⟨by rfl, ?_⟩) hS ?_
  rotate_left
  · intro wq hq
    have c1 := (HCl.out wq hq.box).2.1
    first | (go_simp; done) | (go_simp; rfl)
  try simp only [Act.put, List.setIfInBounds_toArray, List.set_cons_zero, List.set_cons_succ]
  have w1 : h.hold % 18446744073709551616 = h.hold := Int.emod_eq_of_lt (by omega) (by omega)
  refine wpAnyH_take (i := 8) (oi := ⟨some 18, _, _, _, _, _⟩) (v := ?_) rfl (by kernel_rfl) (by kernel_rfl) (by kernel_rfl) (fun _ _ _ h => h) (Or.inl ⟨by rfl, ?_⟩) hS ?_
  rotate_left
  · intro wq hq
    first | (go_simp; done) | (go_simp; rfl)
  try simp only [Act.put, List.setIfInBounds_toArray, List.set_cons_zero, List.set_cons_succ]
  refine wpAnyH_take (i := 10) (oi := ⟨some 20, _, _, _, _, _⟩) (v := ?_) rfl (by kernel_rfl) (by kernel_rfl) (by kernel_rfl) (fun _ _ _ h => h) (Or.inl ⟨by rfl, ?_⟩) hS ?_
  rotate_left
  · intro wq hq
    first | (go_simp; done) | (go_simp; rfl)
  try simp only [Act.put, List.setIfInBounds_toArray, List.set_cons_zero, List.set_cons_succ]
  refine wpAnyH_take (i := 11) (oi := ⟨some 21, _, _, _, _, _⟩) (v := ?_) rfl (by kernel_rfl) (by kernel_rfl) (by kernel_rfl) (fun _ _ _ h => h) (Or.inl ⟨by rfl, ?_⟩) hS ?_
  rotate_left
  · intro wq hq
    have c2 := (HCl.out wq hq.box).2.2
    first | (go_simp; done) | (go_simp; rfl)
  try simp only [Act.put, List.setIfInBounds_toArray, List.set_cons_zero, List.set_cons_succ]
  have w2 : h.id_ % 18446744073709551616 = h.id_ := Int.emod_eq_of_lt (by omega) (by omega)
  refine wpAnyH_take (i := 12) (oi := ⟨some 22, _, _, _, _, _⟩) (v := ?_) rfl (by kernel_rfl) (by kernel_rfl) (by kernel_rfl) (fun _ _ _ h => h) (Or.inl ⟨by rfl, ?_⟩) hS ?_
  rotate_left
  · intro wq hq
    first | (go_simp; done) | (go_simp; rfl)
  try simp only [Act.put, List.setIfInBounds_toArray, List.set_cons_zero, List.set_cons_succ]
  refine wpAnyH_take (i := 14) (oi := ⟨some 24, _, _, _, _, _⟩) (v := ?_) rfl (by kernel_rfl) (by kernel_rfl) (by kernel_rfl) (fun _ _ _ h => h) (Or.inl ⟨by rfl, ?_⟩) hS ?_
  rotate_left
  · intro wq hq
    first | (go_simp; done) | (go_simp; rfl)
  try simp only [Act.put, List.setIfInBounds_toArray, List.set_cons_zero, List.set_cons_succ]
  refine wpAnyH_take (i := 15) (oi := ⟨some 25, _, _, _, _, _⟩) (v := ?_) rfl (by kernel_rfl) (by kernel_rfl) (by kernel_rfl) (fun _ _ _ h => h) (Or.inl ⟨by rfl, ?_⟩) hS ?_
  rotate_left
  · intro wq hq
    first | (go_simp; done) | (go_simp; rfl)
  try simp only [Act.put, List.setIfInBounds_toArray, List.set_cons_zero, List.set_cons_succ]
  have w3 : (n : Int) % 18446744073709551616 = n := Int.emod_eq_of_lt (by omega) (by omega)
  refine wpAnyH_take (i := 16) (oi := ⟨some 26, _, _, _, _, _⟩) (v := ?_) rfl (by kernel_rfl) (by kernel_rfl) (by kernel_rfl) (fun _ _ _ h => h) (Or.inl ⟨by rfl, ?_⟩) hS ?_
  rotate_left
  · intro wq hq
    first | (go_simp; done) | (go_simp; rfl)
  try simp only [Act.put, List.setIfInBounds_toArray, List.set_cons_zero, List.set_cons_succ]
  refine wpAnyH_take (i := 18) (oi := ⟨some 28, _, _, _, _, _⟩) (v := ?_) rfl (by kernel_rfl) (by kernel_rfl) (by kernel_rfl) (fun _ _ _ h => h) (Or.inl ⟨by rfl, ?_⟩) hS ?_
  rotate_left
  · intro wq hq
    first | (go_simp; done) | (go_simp; rfl)
  try simp only [Act.put, List.setIfInBounds_toArray, List.set_cons_zero, List.set_cons_succ]
  generalize W2.drew = W3 at *
  clear HS2
  refine wpAnyH_ready (rs := [0]) (by kernel_rfl) (by simp) ?_
  refine AllReadyH.cons (o := ⟨some 10, _, _, _, _, _⟩) rfl (fun K hK => ?_) AllReadyH.nil
  rw [if_pos (by rfl)]
  go_wp2_with fail
  refine (numb_is W3 4 1 (by omega) (by omega) (by omega) (by omega) (by omega)).mono ?_
  rintro e W4 ⟨A1, c1, rfl, _, r1, hB⟩
  have hS4 := hS.below hB
  clear hB hS
  refine hK.out _ _ (hS4) (fun hS => ?_)
  clear hK K
  try simp only [Act.put, List.setIfInBounds_toArray, List.set_cons_zero, List.set_cons_succ]
  clear hS4
  refine wpAnyH_ready (rs := [3]) (by kernel_rfl) (by simp) ?_
  refine AllReadyH.cons (o := ⟨some 13, _, _, _, _, _⟩) rfl (fun K hK => ?_) AllReadyH.nil
  rw [if_pos (by rfl)]
  go_wp2_with fail
  refine (shortAs_is W4 h.as_).mono ?_
  rintro e W5 ⟨rfl, rfl⟩
  refine hK.out _ _ (hS) (fun hS => ?_)
  clear hK K
  try simp only [Act.put, List.setIfInBounds_toArray, List.set_cons_zero, List.set_cons_succ]
  have w4 : shA h.as_ % 18446744073709551616 = shA h.as_ := Int.emod_eq_of_lt (by omega) (by omega)
  refine wpAnyH_take (i := 4) (oi := ⟨some 14, _, _, _, _, _⟩) (v := ?_) rfl (by kernel_rfl) (by kernel_rfl) (by kernel_rfl) (fun _ _ _ h => h) (Or.inl ⟨by rfl, ?_⟩) hS ?_
  rotate_left
  · intro wq hq
    first | (go_simp; done) | (go_simp; rfl)
  try simp only [Act.put, List.setIfInBounds_toArray, List.set_cons_zero, List.set_cons_succ]
  refine wpAnyH_ready (rs := [5]) (by kernel_rfl) (by simp) ?_
  refine AllReadyH.cons (o := ⟨some 15, _, _, _, _, _⟩) rfl (fun K hK => ?_) AllReadyH.nil
  rw [if_pos (by rfl)]
  go_wp2_with fail
  refine (numb_is W4 _ 2 hsa.1 (by omega) (by omega) (by omega) (by omega)).mono ?_
  rintro e W6 ⟨A2, c2, rfl, _, r2, hB⟩
  have hS6 := hS.below hB
  have r1 := r1.up hB
  clear hB hS
  refine hK.out _ _ (hS6) (fun hS => ?_)
  clear hK K
  try simp only [Act.put, List.setIfInBounds_toArray, List.set_cons_zero, List.set_cons_succ]
  clear hS6
  refine wpAnyH_ready (rs := [9]) (by kernel_rfl) (by simp) ?_
  refine AllReadyH.cons (o := ⟨some 19, _, _, _, _, _⟩) rfl (fun K hK => ?_) AllReadyH.nil
  rw [if_pos (by rfl)]
  go_wp2_with fail
  refine (numb_is W6 _ 2 hp.2.2.1 (by omega) (by omega) (by omega) (by omega)).mono ?_
  rintro e W7 ⟨A3, c3, rfl, _, r3, hB⟩
  have hS7 := hS.below hB
  have r1 := r1.up hB
  have r2 := r2.up hB
  clear hB hS
  refine hK.out _ _ (hS7) (fun hS => ?_)
  clear hK K
  try simp only [Act.put, List.setIfInBounds_toArray, List.set_cons_zero, List.set_cons_succ]
  clear hS7
  refine wpAnyH_ready (rs := [13]) (by kernel_rfl) (by simp) ?_
  refine AllReadyH.cons (o := ⟨some 23, _, _, _, _, _⟩) rfl (fun K hK => ?_) AllReadyH.nil
  rw [if_pos (by rfl)]
  go_wp2_with fail
  refine (numb_is W7 _ 4 hi.1 (by omega) (by omega) (by omega) (by omega)).mono ?_
  rintro e W8 ⟨A4, c4, rfl, _, r4, hB⟩
  have hS8 := hS.below hB
  have r1 := r1.up hB
  have r2 := r2.up hB
  have r3 := r3.up hB
  clear hB hS
  refine hK.out _ _ (hS8) (fun hS => ?_)
  clear hK K
  try simp only [Act.put, List.setIfInBounds_toArray, List.set_cons_zero, List.set_cons_succ]
  clear hS8
  refine wpAnyH_ready (rs := [17]) (by kernel_rfl) (by simp) ?_
  refine AllReadyH.cons (o := ⟨some 27, _, _, _, _, _⟩) rfl (fun K hK => ?_) AllReadyH.nil
  rw [if_pos (by rfl)]
  go_wp2_with fail
  refine (numb_is W8 _ 1 (by omega) (by omega) (by omega) (by omega) (by omega)).mono ?_
  rintro e W9 ⟨A5, c5, rfl, _, r5, hB⟩
  have hS9 := hS.below hB
  have r1 := r1.up hB
  have r2 := r2.up hB
  have r3 := r3.up hB
  have r4 := r4.up hB
  clear hB hS
  refine hK.out _ _ (hS9) (fun hS => ?_)
  clear hK K
  try simp only [Act.put, List.setIfInBounds_toArray, List.set_cons_zero, List.set_cons_succ]
  clear hS9
  rw [be_len] at r1 r2 r3 r4 r5
  simp only [be_len]
  refine wpAnyH_ready (rs := [19]) (by kernel_rfl) (by simp) ?_
  refine AllReadyH.cons (o := ⟨some 29, _, _, _, _, _⟩) rfl (fun K hK => ?_) AllReadyH.nil
  rw [if_pos (by rfl)]
  go_wp2
  have hL := rdl_new_at (W := W9) (vs := [(A1, 1, c1), (A2, 2, c2), (A3, 2, c3), (A4, 4, c4), (A5, 1, c5), (A, n, c)]) (ls := [be 1 4, be 2 (shA h.as_), be 2 h.hold, be 4 h.id_, be 1 (n : Int), parB h]) ⟨r1, r2, r3, r4, r5, hS.par, trivial⟩ 25 _ rfl _ rfl
  have hSn := hS.below (below_one8 W9 (.cells #[.slice A1 1 c1, .slice A2 2 c2, .slice A3 2 c3, .slice A4 4 c4, .slice A5 1 c5, .slice A n c] 25))
  refine hK.out _ _ (hSn) (fun hS => ?_)
  clear hK K
  try simp only [Act.put, List.setIfInBounds_toArray, List.set_cons_zero, List.set_cons_succ]
  clear hSn r1 r2 r3 r4 r5
  have hPut := HPut.out
  have hPl : (putB h).length = 10 + n := by rw [putB_len, HN.out]
  refine wpAnyH_ready (rs := [20]) (by kernel_rfl) (by simp) ?_
  refine AllReadyH.cons (o := ⟨some 30, _, _, _, _, _⟩) rfl (fun K hK => ?_) AllReadyH.nil
  rw [if_pos (by rfl)]
  go_wp2_with fail
  refine (concat_is _ _ 6 6 _ hL (by omega) (by rw [← hPut, hPl]; omega)).mono ?_
  rintro e W10 ⟨v, rfl, hO, hB⟩
  rw [← hPut] at hO
  obtain ⟨Av, cv, rfl, hcv, hrv, _⟩ := hO.at_
  have hS10 := hS.below hB
  have HLow := Lib.hid hS10.low
  have HRv := Lib.hid hrv
  clear hB hS hO hrv hL hPut hPl
  refine hK.out _ _ (hS10) (fun hS => ?_)
  clear hK K
  try simp only [Act.put, List.setIfInBounds_toArray, List.set_cons_zero, List.set_cons_succ]
  refine wpAnyH_take (i := 21) (oi := ⟨some 2, _, _, _, _, _⟩) (v := ?_) rfl (by kernel_rfl) (by kernel_rfl) (by kernel_rfl) (fun _ _ _ h => h) (Or.inl ⟨by rfl, ?_⟩) hS ?_
  rotate_left
  · intro wq hq
    first | (go_simp; done) | (go_simp; rfl)
  try simp only [Act.put, List.setIfInBounds_toArray, List.set_cons_zero, List.set_cons_succ]
  refine wpAnyH_take (i := 22) (oi := ⟨some 3, _, _, _, _, _⟩) (v := ?_) rfl (by kernel_rfl) (by kernel_rfl) (by kernel_rfl) (fun _ _ _ h => h) (Or.inl ⟨by rfl, ?_⟩) hS ?_
  rotate_left
  · intro wq hq
    first | (go_simp; done) | (go_simp; rfl)
  try simp only [Act.put, List.setIfInBounds_toArray, List.set_cons_zero, List.set_cons_succ]
  refine wpAnyH_done (by kernel_rfl) ?_ _
  go_wp2
  go_ret2
  exact ⟨Av, (putB h).length, cv, by rw [HBd.out.2]; rfl, by rw [HBd.out.1], hcv, by rw [HBd.out.1]; exact HRv.out, HLow.out⟩

set_option maxHeartbeats 1000000 in
theorem put_noH (w : World) (h : Hl) (hr : rightH h = false) : Calls Tryd.prog 10 #[.agg (hlc h).toArray] w (PutH w h) := by
  have HR : Hid (∀ W, Calls Tryd.prog _ _ W _) := Lib.hid (fun W => isRight_is W h)
  have HBd : Hid (bodyH h = [] ∧ errH h = 2) := Lib.hid (by unfold bodyH errH; rw [if_neg (by rw [hr]; decide), if_neg (by rw [hr]; decide)]; exact ⟨rfl, rfl⟩)
  rw [hr] at HR
  have HB0 := Lib.hid (below_one8 w (.cells (hlc h).toArray 24))
  have HX0 := Lib.hid (Blk.new w 24 (hlc h).toArray)
  clear hr
  go_enter Tryd.func10, Tryd.ntmps10
  go_wp2_with (refine h_fetch rfl _ rfl w.heap.size h 24 rfl HX0.out ?_)
  refine (HR.out _).mono ?_
  rintro e W1 ⟨rfl, hB⟩
  have HB1 := Lib.hid (HB0.out.trans (hB.mono HB0.out.size))
  clear hB HB0 HX0 HR
  go_wp2
  go_ret2
  exact ⟨none, 0, 0, by rw [HBd.out.2]; rfl, by rw [HBd.out.1]; rfl, Nat.le_refl _, by rw [HBd.out.1]; exact Rd.nil_ _, HB1.out⟩

theorem putH_is (w : World) (E : EnvF w) (h : Hl) (hk : HlOk h) : Calls Tryd.prog 10 #[.agg (hlc h).toArray] w (PutH w h) := by
  cases hr : rightH h with
  | true => exact put_yesH w E h hk hr
  | false => exact put_noH w h hr
end Go.Proofs.YtgfjjkckamppoaaDoor
