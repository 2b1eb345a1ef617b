/-
  Layer 2 (addr): RdText.
-/
import Derived.Test.YtfapmedlnaikiaaDoorAdU
import Derived.Deep.RegionHeld3
namespace Go.Proofs.YtfapmedlnaikiaaDoor
open Go.RowKit
set_option linter.unusedSimpArgs false
set_option linter.unusedVariables false

theorem rd8 {w : World} {b : Nat} {t : TypeId} {l : List Int} (h : Blk w b t (u8s l).toArray) (ho : Oct l) (hl : l.length = 8) (k m : Nat) (hm : k + m ≤ 8) : Rd w (b + 1) (some ⟨b, k, none⟩) m ((l.drop k).take m) := by
  have := rd_range (w := w) (b := b) (B := b + 1) (pre := []) (post := []) (l := l) (by simpa using h.range) ho k m (by omega) (by omega)
  simpa using this
theorem num_bd (l : List Int) (ho : Oct l) (k m : Nat) (hm : m ≤ 4) : 0 ≤ numOf ((l.drop k).take m) ∧ numOf ((l.drop k).take m) < 4294967296 := by
  have hb := numOf_bd ((l.drop k).take m) (fun x hx => ho x (List.mem_of_mem_drop (List.mem_of_mem_take hx)))
  have hp : ∀ j, j ≤ 4 → (256 : Int) ^ j ≤ 4294967296 := by decide
  have := hp ((l.drop k).take m).length (by rw [List.length_take]; omega)
  exact ⟨hb.1, by omega⟩
/-- A distinguisher's text. -/
def rdS (l : List Int) : Option ByteArray :=
  if numOf ((l.drop 0).take 2) = 0 then some (decS (numOf ((l.drop 2).take 2)) ++ ⟨#[58]⟩ ++ decS (numOf ((l.drop 4).take 4)))
  else if numOf ((l.drop 0).take 2) = 1 then some (fourS ((l.drop 2).take 4) ++ ⟨#[58]⟩ ++ decS (numOf ((l.drop 6).take 2)))
  else if numOf ((l.drop 0).take 2) = 2 then some (decS (numOf ((l.drop 2).take 4)) ++ ⟨#[76, 58]⟩ ++ decS (numOf ((l.drop 6).take 2)))
  else none
def rdTE (o : Option ByteArray) : Value := match o with
  | some s => .tuple #[.string s, .int .i64 0]
  | none => .tuple #[.string ⟨#[]⟩, .int .i64 2]
set_option maxHeartbeats 8000000 in
set_option maxRecDepth 100000 in
theorem rdtext_is (w : World) (E : Env w) (l : List Int) (hl : l.length = 8) (ho : Oct l) :
    Calls Tryd.prog 43 #[.agg (u8s l).toArray] w fun e w' => e = .returned (rdTE (rdS l)) ∧ Below w.heap.size w w' := by
  have HA := Lib.hid (Blk.new w 60 (u8s l).toArray)
  have HL : Hid (Below w.heap.size w (w.alloc (.cells (u8s l).toArray 60))) := Lib.hid ((Below.refl _ _).alloc (Nat.le_refl _) _)
  have s1 := fun W => slice_arr_h (P := Tryd.prog) (t := 60) (e := 5) (n := 8) Tryd.underlying60 (by kernel_rfl) w.heap.size 0 2 (by omega) (by omega) 2 rfl W
  have s2 := fun W => slice_arr_lh (P := Tryd.prog) (t := 60) (e := 5) (n := 8) Tryd.underlying60 (by kernel_rfl) w.heap.size 0 2 4 (by omega) (by omega) (by omega) 2 4 rfl rfl W
  have s3 := fun W => slice_arr_l (P := Tryd.prog) (t := 60) (e := 5) (n := 8) Tryd.underlying60 (by kernel_rfl) w.heap.size 0 4 (by omega) 4 rfl W
  have s4 := fun W => slice_arr_lh (P := Tryd.prog) (t := 60) (e := 5) (n := 8) Tryd.underlying60 (by kernel_rfl) w.heap.size 0 2 6 (by omega) (by omega) (by omega) 2 6 rfl rfl W
  have s5 := fun W => slice_arr_l (P := Tryd.prog) (t := 60) (e := 5) (n := 8) Tryd.underlying60 (by kernel_rfl) w.heap.size 0 6 (by omega) 6 rfl W
  simp only [Nat.zero_add, Nat.reduceSub] at s1 s2 s3 s4 s5
  go_enter Tryd.func43, Tryd.ntmps43
  go_wp2_with fail
  refine (number_is _ (w.heap.size + 1) _ 2 8 ((l.drop 0).take 2) (rd8 HA.out ho hl 0 2 (by omega)) (by omega)).mono ?_
  rintro e w' ⟨rfl, rfl⟩
  have HO0 : Hid (rdS l = if numOf ((l.drop 0).take 2) = 0 then some (decS (numOf ((l.drop 2).take 2)) ++ ⟨#[58]⟩ ++ decS (numOf ((l.drop 4).take 4)))
    else if numOf ((l.drop 0).take 2) = 1 then some (fourS ((l.drop 2).take 4) ++ ⟨#[58]⟩ ++ decS (numOf ((l.drop 6).take 2)))
    else if numOf ((l.drop 0).take 2) = 2 then some (decS (numOf ((l.drop 2).take 4)) ++ ⟨#[76, 58]⟩ ++ decS (numOf ((l.drop 6).take 2))) else none) := Lib.hid rfl
  have FS : Hid ((fourS ((l.drop 2).take 4)).size ≤ 84) := Lib.hid (by
    have := fourS_size ((l.drop 2).take 4) (fun x hx => ho x (List.mem_of_mem_drop (List.mem_of_mem_take hx)))
    rw [List.length_take] at this
    omega)
  generalize numOf ((l.drop 0).take 2) = kd at *

  by_cases k0 : kd = 0
  · have HO : Hid (rdS l = some (decS (numOf ((l.drop 2).take 2)) ++ ⟨#[58]⟩ ++ decS (numOf ((l.drop 4).take 4)))) := Lib.hid (by rw [HO0.out, if_pos k0])
    subst k0
    clear HO0 FS
    have ha20 := decS_size (numOf ((l.drop 2).take 2)) (num_bd l ho 2 2 (by omega)).1 (by have := (num_bd l ho 2 2 (by omega)).2; omega)
    have hb20 := decS_size (numOf ((l.drop 4).take 4)) (num_bd l ho 4 4 (by omega)).1 (by have := (num_bd l ho 4 4 (by omega)).2; omega)
    have hz1 : ¬ 9223372036854775807 < (decS (numOf ((l.drop 2).take 2))).size + 1 := by omega
    have hz2 : ¬ 9223372036854775807 < (decS (numOf ((l.drop 2).take 2))).size + 1 + (decS (numOf ((l.drop 4).take 4))).size := by omega
    clear ha20 hb20
    go_wp2
    refine wp_region_held_drew (S := fun w' => Blk w' w.heap.size 60 (u8s l).toArray ∧ Below w.heap.size w w') (by kernel_rfl) (⟨HA.out, below_drewN HL.out 1⟩) (fun hS => ?_)
    refine wpAnyH_take (i := 0) (oi := ⟨some 8, _, _, _, _, _⟩) (v := ?_) rfl (by kernel_rfl) (by kernel_rfl) (by kernel_rfl) (fun _ _ _ h => h) (Or.inl ⟨by rfl, ?_⟩) hS ?_
    rotate_left
    · intro wq hq
      first | (go_simp; done) | (go_simp; rfl)
    try simp only [Act.put, List.setIfInBounds_toArray, List.set_cons_zero, List.set_cons_succ]
    refine wpAnyH_take (i := 4) (oi := ⟨some 12, _, _, _, _, _⟩) (v := ?_) rfl (by kernel_rfl) (by kernel_rfl) (by kernel_rfl) (fun _ _ _ h => h) (Or.inl ⟨by rfl, ?_⟩) hS ?_
    rotate_left
    · intro wq hq
      first | (go_simp; done) | (go_simp; rfl)
    try simp only [Act.put, List.setIfInBounds_toArray, List.set_cons_zero, List.set_cons_succ]
    refine wpAnyH_ready (rs := [1]) (by kernel_rfl) (by simp) ?_
    refine AllReadyH.cons (o := ⟨some 9, _, _, _, _, _⟩) rfl (fun K hK => ?_) AllReadyH.nil
    rw [if_pos (by rfl)]
    go_wp2_with fail
    refine (number_is _ (w.heap.size + 1) _ 2 6 ((l.drop 2).take 2) (rd8 hS.1 ho hl 2 2 (by omega)) (by omega)).mono ?_
    rintro e w' ⟨rfl, rfl⟩
    have hS9 := hS
    refine hK.out _ _ (hS9) (fun hS => ?_)
    clear hK K
    try simp only [Act.put, List.setIfInBounds_toArray, List.set_cons_zero, List.set_cons_succ]
    clear hS9
    refine wpAnyH_ready (rs := [2]) (by kernel_rfl) (by simp) ?_
    refine AllReadyH.cons (o := ⟨some 10, _, _, _, _, _⟩) rfl (fun K hK => ?_) AllReadyH.nil
    rw [if_pos (by rfl)]
    go_wp2_with fail
    refine (dec_is _ (E.below hS.2) (numOf ((l.drop 2).take 2)) (num_bd l ho 2 2 (by omega)).1 (by have := (num_bd l ho 2 2 (by omega)).2; omega)).mono ?_
    rintro e v10 ⟨rfl, hB⟩
    have hS10 := (⟨hS.1.below hB hS.1.lt, hS.2.trans (hB.mono hS.2.size)⟩ : Blk v10 w.heap.size 60 (u8s l).toArray ∧ Below w.heap.size w v10)
    clear hB hS
    refine hK.out _ _ (hS10) (fun hS => ?_)
    clear hK K
    try simp only [Act.put, List.setIfInBounds_toArray, List.set_cons_zero, List.set_cons_succ]
    clear hS10
    refine wpAnyH_take (i := 3) (oi := ⟨some 11, _, _, _, _, _⟩) (v := ?_) rfl (by kernel_rfl) (by kernel_rfl) (by kernel_rfl) (fun _ _ _ h => h) (Or.inl ⟨by rfl, ?_⟩) hS ?_
    rotate_left
    · intro wq hq
      first | (go_simp; done) | (go_simp; rfl)
    try simp only [Act.put, List.setIfInBounds_toArray, List.set_cons_zero, List.set_cons_succ]
    refine wpAnyH_ready (rs := [5]) (by kernel_rfl) (by simp) ?_
    refine AllReadyH.cons (o := ⟨some 13, _, _, _, _, _⟩) rfl (fun K hK => ?_) AllReadyH.nil
    rw [if_pos (by rfl)]
    go_wp2_with fail
    refine (number_is _ (w.heap.size + 1) _ 4 4 ((l.drop 4).take 4) (rd8 hS.1 ho hl 4 4 (by omega)) (by omega)).mono ?_
    rintro e w' ⟨rfl, rfl⟩
    have hS13 := hS
    refine hK.out _ _ (hS13) (fun hS => ?_)
    clear hK K
    try simp only [Act.put, List.setIfInBounds_toArray, List.set_cons_zero, List.set_cons_succ]
    clear hS13
    refine wpAnyH_ready (rs := [6]) (by kernel_rfl) (by simp) ?_
    refine AllReadyH.cons (o := ⟨some 14, _, _, _, _, _⟩) rfl (fun K hK => ?_) AllReadyH.nil
    rw [if_pos (by rfl)]
    go_wp2_with fail
    refine (dec_is _ (E.below hS.2) (numOf ((l.drop 4).take 4)) (num_bd l ho 4 4 (by omega)).1 (by have := (num_bd l ho 4 4 (by omega)).2; omega)).mono ?_
    rintro e v14 ⟨rfl, hB⟩
    have hS14 := (⟨hS.1.below hB hS.1.lt, hS.2.trans (hB.mono hS.2.size)⟩ : Blk v14 w.heap.size 60 (u8s l).toArray ∧ Below w.heap.size w v14)
    clear hB hS
    refine hK.out _ _ (hS14) (fun hS => ?_)
    clear hK K
    try simp only [Act.put, List.setIfInBounds_toArray, List.set_cons_zero, List.set_cons_succ]
    clear hS14
    refine wpAnyH_take (i := 7) (oi := ⟨some 15, _, _, _, _, _⟩) (v := ?_) rfl (by kernel_rfl) (by kernel_rfl) (by kernel_rfl) (fun _ _ _ h => h) (Or.inl ⟨by rfl, ?_⟩) hS ?_
    rotate_left
    · intro wq hq
      first | (go_simp; done) | (go_simp; rfl)
    try simp only [Act.put, List.setIfInBounds_toArray, List.set_cons_zero, List.set_cons_succ]
    refine wpAnyH_take (i := 8) (oi := ⟨some 2, _, _, _, _, _⟩) (v := ?_) rfl (by kernel_rfl) (by kernel_rfl) (by kernel_rfl) (fun _ _ _ h => h) (Or.inl ⟨by rfl, ?_⟩) hS ?_
    rotate_left
    · intro wq hq
      first | (go_simp; done) | (go_simp; rfl)
    try simp only [Act.put, List.setIfInBounds_toArray, List.set_cons_zero, List.set_cons_succ]
    refine wpAnyH_take (i := 9) (oi := ⟨some 3, _, _, _, _, _⟩) (v := ?_) rfl (by kernel_rfl) (by kernel_rfl) (by kernel_rfl) (fun _ _ _ h => h) (Or.inl ⟨by rfl, ?_⟩) hS ?_
    rotate_left
    · intro wq hq
      first | (go_simp; done) | (go_simp; rfl)
    try simp only [Act.put, List.setIfInBounds_toArray, List.set_cons_zero, List.set_cons_succ]
    refine wpAnyH_done (by kernel_rfl) ?_ _
    have HF := Lib.hid hS.2
    clear hS
    go_wp2
    go_ret2
    exact ⟨by rw [HO.out]; rfl, HF.out⟩
  · have q0 : (kd == 0) = false := by simpa using k0
    by_cases k1 : kd = 1
    · have HO : Hid (rdS l = some (fourS ((l.drop 2).take 4) ++ ⟨#[58]⟩ ++ decS (numOf ((l.drop 6).take 2)))) := Lib.hid (by rw [HO0.out, if_neg k0, if_pos k1])
      subst k1
      clear HO0 k0 q0
      have ha20 := FS.out
      have hb20 := decS_size (numOf ((l.drop 6).take 2)) (num_bd l ho 6 2 (by omega)).1 (by have := (num_bd l ho 6 2 (by omega)).2; omega)
      have hz1 : ¬ 9223372036854775807 < (fourS ((l.drop 2).take 4)).size + 1 := by omega
      have hz2 : ¬ 9223372036854775807 < (fourS ((l.drop 2).take 4)).size + 1 + (decS (numOf ((l.drop 6).take 2))).size := by omega
      clear ha20 hb20
      go_wp2
      refine wp_region_held_drew (S := fun w' => Blk w' w.heap.size 60 (u8s l).toArray ∧ Below w.heap.size w w') (by kernel_rfl) (⟨HA.out, below_drewN HL.out 1⟩) (fun hS => ?_)
      refine wpAnyH_take (i := 0) (oi := ⟨some 18, _, _, _, _, _⟩) (v := ?_) rfl (by kernel_rfl) (by kernel_rfl) (by kernel_rfl) (fun _ _ _ h => h) (Or.inl ⟨by rfl, ?_⟩) hS ?_
      rotate_left
      · intro wq hq
        first | (go_simp; done) | (go_simp; rfl)
      try simp only [Act.put, List.setIfInBounds_toArray, List.set_cons_zero, List.set_cons_succ]
      refine wpAnyH_take (i := 3) (oi := ⟨some 21, _, _, _, _, _⟩) (v := ?_) rfl (by kernel_rfl) (by kernel_rfl) (by kernel_rfl) (fun _ _ _ h => h) (Or.inl ⟨by rfl, ?_⟩) hS ?_
      rotate_left
      · intro wq hq
        first | (go_simp; done) | (go_simp; rfl)
      try simp only [Act.put, List.setIfInBounds_toArray, List.set_cons_zero, List.set_cons_succ]
      refine wpAnyH_ready (rs := [1]) (by kernel_rfl) (by simp) ?_
      refine AllReadyH.cons (o := ⟨some 19, _, _, _, _, _⟩) rfl (fun K hK => ?_) AllReadyH.nil
      rw [if_pos (by rfl)]
      go_wp2_with fail
      refine (four_text _ (E.below hS.2) (w.heap.size + 1) _ 4 6 ((l.drop 2).take 4) (rd8 hS.1 ho hl 2 4 (by omega)) hS.1.lt (by omega)).mono ?_
      rintro e v19 ⟨rfl, hB⟩
      have hS19 := (⟨hS.1.below hB hS.1.lt, hS.2.trans (hB.mono hS.2.size)⟩ : Blk v19 w.heap.size 60 (u8s l).toArray ∧ Below w.heap.size w v19)
      clear hB hS
      refine hK.out _ _ (hS19) (fun hS => ?_)
      clear hK K
      try simp only [Act.put, List.setIfInBounds_toArray, List.set_cons_zero, List.set_cons_succ]
      clear hS19
      refine wpAnyH_take (i := 2) (oi := ⟨some 20, _, _, _, _, _⟩) (v := ?_) rfl (by kernel_rfl) (by kernel_rfl) (by kernel_rfl) (fun _ _ _ h => h) (Or.inl ⟨by rfl, ?_⟩) hS ?_
      rotate_left
      · intro wq hq
        first | (go_simp; done) | (go_simp; rfl)
      try simp only [Act.put, List.setIfInBounds_toArray, List.set_cons_zero, List.set_cons_succ]
      refine wpAnyH_ready (rs := [4]) (by kernel_rfl) (by simp) ?_
      refine AllReadyH.cons (o := ⟨some 22, _, _, _, _, _⟩) rfl (fun K hK => ?_) AllReadyH.nil
      rw [if_pos (by rfl)]
      go_wp2_with fail
      refine (number_is _ (w.heap.size + 1) _ 2 2 ((l.drop 6).take 2) (rd8 hS.1 ho hl 6 2 (by omega)) (by omega)).mono ?_
      rintro e w' ⟨rfl, rfl⟩
      have hS22 := hS
      refine hK.out _ _ (hS22) (fun hS => ?_)
      clear hK K
      try simp only [Act.put, List.setIfInBounds_toArray, List.set_cons_zero, List.set_cons_succ]
      clear hS22
      refine wpAnyH_ready (rs := [5]) (by kernel_rfl) (by simp) ?_
      refine AllReadyH.cons (o := ⟨some 23, _, _, _, _, _⟩) rfl (fun K hK => ?_) AllReadyH.nil
      rw [if_pos (by rfl)]
      go_wp2_with fail
      refine (dec_is _ (E.below hS.2) (numOf ((l.drop 6).take 2)) (num_bd l ho 6 2 (by omega)).1 (by have := (num_bd l ho 6 2 (by omega)).2; omega)).mono ?_
      rintro e v23 ⟨rfl, hB⟩
      have hS23 := (⟨hS.1.below hB hS.1.lt, hS.2.trans (hB.mono hS.2.size)⟩ : Blk v23 w.heap.size 60 (u8s l).toArray ∧ Below w.heap.size w v23)
      clear hB hS
      refine hK.out _ _ (hS23) (fun hS => ?_)
      clear hK K
      try simp only [Act.put, List.setIfInBounds_toArray, List.set_cons_zero, List.set_cons_succ]
      clear hS23
      refine wpAnyH_take (i := 6) (oi := ⟨some 24, _, _, _, _, _⟩) (v := ?_) rfl (by kernel_rfl) (by kernel_rfl) (by kernel_rfl) (fun _ _ _ h => h) (Or.inl ⟨by rfl, ?_⟩) hS ?_
      rotate_left
      · intro wq hq
        first | (go_simp; done) | (go_simp; rfl)
      try simp only [Act.put, List.setIfInBounds_toArray, List.set_cons_zero, List.set_cons_succ]
      refine wpAnyH_take (i := 7) (oi := ⟨some 2, _, _, _, _, _⟩) (v := ?_) rfl (by kernel_rfl) (by kernel_rfl) (by kernel_rfl) (fun _ _ _ h => h) (Or.inl ⟨by rfl, ?_⟩) hS ?_
      rotate_left
      · intro wq hq
        first | (go_simp; done) | (go_simp; rfl)
      try simp only [Act.put, List.setIfInBounds_toArray, List.set_cons_zero, List.set_cons_succ]
      refine wpAnyH_take (i := 8) (oi := ⟨some 3, _, _, _, _, _⟩) (v := ?_) rfl (by kernel_rfl) (by kernel_rfl) (by kernel_rfl) (fun _ _ _ h => h) (Or.inl ⟨by rfl, ?_⟩) hS ?_
      rotate_left
      · intro wq hq
        first | (go_simp; done) | (go_simp; rfl)
      try simp only [Act.put, List.setIfInBounds_toArray, List.set_cons_zero, List.set_cons_succ]
      refine wpAnyH_done (by kernel_rfl) ?_ _
      have HF := Lib.hid hS.2
      clear hS
      go_wp2
      go_ret2
      exact ⟨by rw [HO.out]; rfl, HF.out⟩
    · have q1 : (kd == 1) = false := by simpa using k1
      by_cases k2 : kd = 2
      · have HO : Hid (rdS l = some (decS (numOf ((l.drop 2).take 4)) ++ ⟨#[76, 58]⟩ ++ decS (numOf ((l.drop 6).take 2)))) := Lib.hid (by rw [HO0.out, if_neg k0, if_neg k1, if_pos k2])
        subst k2
        clear HO0 FS k0 q0 k1 q1
        have ha20 := decS_size (numOf ((l.drop 2).take 4)) (num_bd l ho 2 4 (by omega)).1 (by have := (num_bd l ho 2 4 (by omega)).2; omega)
        have hb20 := decS_size (numOf ((l.drop 6).take 2)) (num_bd l ho 6 2 (by omega)).1 (by have := (num_bd l ho 6 2 (by omega)).2; omega)
        have hz1 : ¬ 9223372036854775807 < (decS (numOf ((l.drop 2).take 4))).size + 2 := by omega
        have hz2 : ¬ 9223372036854775807 < (decS (numOf ((l.drop 2).take 4))).size + 2 + (decS (numOf ((l.drop 6).take 2))).size := by omega
        clear ha20 hb20
        go_wp2
        refine wp_region_held_drew (S := fun w' => Blk w' w.heap.size 60 (u8s l).toArray ∧ Below w.heap.size w w') (by kernel_rfl) (⟨HA.out, below_drewN HL.out 1⟩) (fun hS => ?_)
        refine wpAnyH_take (i := 0) (oi := ⟨some 27, _, _, _, _, _⟩) (v := ?_) rfl (by kernel_rfl) (by kernel_rfl) (by kernel_rfl) (fun _ _ _ h => h) (Or.inl ⟨by rfl, ?_⟩) hS ?_
        rotate_left
        · intro wq hq
          first | (go_simp; done) | (go_simp; rfl)
        try simp only [Act.put, List.setIfInBounds_toArray, List.set_cons_zero, List.set_cons_succ]
        refine wpAnyH_take (i := 4) (oi := ⟨some 31, _, _, _, _, _⟩) (v := ?_) rfl (by kernel_rfl) (by kernel_rfl) (by kernel_rfl) (fun _ _ _ h => h) (Or.inl ⟨by rfl, ?_⟩) hS ?_
        rotate_left
        · intro wq hq
          first | (go_simp; done) | (go_simp; rfl)
        try simp only [Act.put, List.setIfInBounds_toArray, List.set_cons_zero, List.set_cons_succ]
        refine wpAnyH_ready (rs := [1]) (by kernel_rfl) (by simp) ?_
        refine AllReadyH.cons (o := ⟨some 28, _, _, _, _, _⟩) rfl (fun K hK => ?_) AllReadyH.nil
        rw [if_pos (by rfl)]
        go_wp2_with fail
        refine (number_is _ (w.heap.size + 1) _ 4 6 ((l.drop 2).take 4) (rd8 hS.1 ho hl 2 4 (by omega)) (by omega)).mono ?_
        rintro e w' ⟨rfl, rfl⟩
        have hS28 := hS
        refine hK.out _ _ (hS28) (fun hS => ?_)
        clear hK K
        try simp only [Act.put, List.setIfInBounds_toArray, List.set_cons_zero, List.set_cons_succ]
        clear hS28
        refine wpAnyH_ready (rs := [2]) (by kernel_rfl) (by simp) ?_
        refine AllReadyH.cons (o := ⟨some 29, _, _, _, _, _⟩) rfl (fun K hK => ?_) AllReadyH.nil
        rw [if_pos (by rfl)]
        go_wp2_with fail
        refine (dec_is _ (E.below hS.2) (numOf ((l.drop 2).take 4)) (num_bd l ho 2 4 (by omega)).1 (by have := (num_bd l ho 2 4 (by omega)).2; omega)).mono ?_
        rintro e v29 ⟨rfl, hB⟩
        have hS29 := (⟨hS.1.below hB hS.1.lt, hS.2.trans (hB.mono hS.2.size)⟩ : Blk v29 w.heap.size 60 (u8s l).toArray ∧ Below w.heap.size w v29)
        clear hB hS
        refine hK.out _ _ (hS29) (fun hS => ?_)
        clear hK K
        try simp only [Act.put, List.setIfInBounds_toArray, List.set_cons_zero, List.set_cons_succ]
        clear hS29
        refine wpAnyH_take (i := 3) (oi := ⟨some 30, _, _, _, _, _⟩) (v := ?_) rfl (by kernel_rfl) (by kernel_rfl) (by kernel_rfl) (fun _ _ _ h => h) (Or.inl ⟨by rfl, ?_⟩) hS ?_
        rotate_left
        · intro wq hq
          first | (go_simp; done) | (go_simp; rfl)
        try simp only [Act.put, List.setIfInBounds_toArray, List.set_cons_zero, List.set_cons_succ]
        refine wpAnyH_ready (rs := [5]) (by kernel_rfl) (by simp) ?_
        refine AllReadyH.cons (o := ⟨some 32, _, _, _, _, _⟩) rfl (fun K hK => ?_) AllReadyH.nil
        rw [if_pos (by rfl)]
        go_wp2_with fail
        refine (number_is _ (w.heap.size + 1) _ 2 2 ((l.drop 6).take 2) (rd8 hS.1 ho hl 6 2 (by omega)) (by omega)).mono ?_
        rintro e w' ⟨rfl, rfl⟩
        have hS32 := hS
        refine hK.out _ _ (hS32) (fun hS => ?_)
        clear hK K
        try simp only [Act.put, List.setIfInBounds_toArray, List.set_cons_zero, List.set_cons_succ]
        clear hS32
        refine wpAnyH_ready (rs := [6]) (by kernel_rfl) (by simp) ?_
        refine AllReadyH.cons (o := ⟨some 33, _, _, _, _, _⟩) rfl (fun K hK => ?_) AllReadyH.nil
        rw [if_pos (by rfl)]
        go_wp2_with fail
        refine (dec_is _ (E.below hS.2) (numOf ((l.drop 6).take 2)) (num_bd l ho 6 2 (by omega)).1 (by have := (num_bd l ho 6 2 (by omega)).2; omega)).mono ?_
        rintro e v33 ⟨rfl, hB⟩
        have hS33 := (⟨hS.1.below hB hS.1.lt, hS.2.trans (hB.mono hS.2.size)⟩ : Blk v33 w.heap.size 60 (u8s l).toArray ∧ Below w.heap.size w v33)
        clear hB hS
        refine hK.out _ _ (hS33) (fun hS => ?_)
        clear hK K
        try simp only [Act.put, List.setIfInBounds_toArray, List.set_cons_zero, List.set_cons_succ]
        clear hS33
        refine wpAnyH_take (i := 7) (oi := ⟨some 34, _, _, _, _, _⟩) (v := ?_) rfl (by kernel_rfl) (by kernel_rfl) (by kernel_rfl) (fun _ _ _ h => h) (Or.inl ⟨by rfl, ?_⟩) hS ?_
        rotate_left
        · intro wq hq
          first | (go_simp; done) | (go_simp; rfl)
        try simp only [Act.put, List.setIfInBounds_toArray, List.set_cons_zero, List.set_cons_succ]
        refine wpAnyH_take (i := 8) (oi := ⟨some 2, _, _, _, _, _⟩) (v := ?_) rfl (by kernel_rfl) (by kernel_rfl) (by kernel_rfl) (fun _ _ _ h => h) (Or.inl ⟨by rfl, ?_⟩) hS ?_
        rotate_left
        · intro wq hq
          first | (go_simp; done) | (go_simp; rfl)
        try simp only [Act.put, List.setIfInBounds_toArray, List.set_cons_zero, List.set_cons_succ]
        refine wpAnyH_take (i := 9) (oi := ⟨some 3, _, _, _, _, _⟩) (v := ?_) rfl (by kernel_rfl) (by kernel_rfl) (by kernel_rfl) (fun _ _ _ h => h) (Or.inl ⟨by rfl, ?_⟩) hS ?_
        rotate_left
        · intro wq hq
          first | (go_simp; done) | (go_simp; rfl)
        try simp only [Act.put, List.setIfInBounds_toArray, List.set_cons_zero, List.set_cons_succ]
        refine wpAnyH_done (by kernel_rfl) ?_ _
        have HF := Lib.hid hS.2
        clear hS
        go_wp2
        go_ret2
        exact ⟨by rw [HO.out]; rfl, HF.out⟩
      · have q2 : (kd == 2) = false := by simpa using k2
        have HO : Hid (rdS l = none) := Lib.hid (by rw [HO0.out, if_neg k0, if_neg k1, if_neg k2])
        clear HO0 FS k0 k1 k2
        go_wp2
        go_ret2
        exact ⟨by rw [HO.out]; rfl, HL.out⟩
end Go.Proofs.YtfapmedlnaikiaaDoor
