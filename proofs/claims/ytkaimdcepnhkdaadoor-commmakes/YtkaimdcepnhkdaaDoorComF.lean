/-
  Layer 4 (comm): a community's kind, its numbers, its flag.
-/
import Derived.Test.YtkaimdcepnhkdaaDoorComB
namespace Go.Proofs.YtkaimdcepnhkdaaDoor
open Go.RowKit
set_option linter.unusedSimpArgs false
set_option linter.unusedVariables false

/-- m bytes from k on. -/
def seg (l : List Int) (k m : Nat) : List Int := (l.drop k).take m
theorem seg_len (l : List Int) (k m : Nat) (h : k + m ≤ l.length) : (seg l k m).length = m := by simp [seg]; omega
theorem seg_oct (l : List Int) (k m : Nat) (h : Oct l) : Oct (seg l k m) := fun x hx => h x (List.mem_of_mem_drop (List.mem_of_mem_take hx))
/-- The first two bytes as one number. -/
def hd (l : List Int) : Int := numOf (seg l 0 2)
/-- Kind and form by the first two bytes. -/
def kf (h : Int) : Int × Int := if h = 2 then (1, 0) else if h = 258 then (1, 1) else if h = 514 then (1, 2) else if h = 1536 then (2, 0) else if h = 1537 then (3, 0) else if h = 1538 then (4, 0) else if h = 1539 then (5, 0) else if h = 780 then (6, 0) else (0, 0)
theorem kinds (h : Int) : h = 2 ∨ h = 258 ∨ h = 514 ∨ h = 1536 ∨ h = 1537 ∨ h = 1538 ∨ h = 1539 ∨ h = 780 ∨ (h ≠ 2 ∧ h ≠ 258 ∧ h ≠ 514 ∧ h ≠ 1536 ∧ h ≠ 1537 ∧ h ≠ 1538 ∧ h ≠ 1539 ∧ h ≠ 780) := by omega
theorem kf_other {h : Int} (a : h ≠ 2 ∧ h ≠ 258 ∧ h ≠ 514 ∧ h ≠ 1536 ∧ h ≠ 1537 ∧ h ≠ 1538 ∧ h ≠ 1539 ∧ h ≠ 780) : kf h = (0, 0) := by
  unfold kf
  rw [if_neg a.1, if_neg a.2.1, if_neg a.2.2.1, if_neg a.2.2.2.1, if_neg a.2.2.2.2.1, if_neg a.2.2.2.2.2.1, if_neg a.2.2.2.2.2.2.1, if_neg a.2.2.2.2.2.2.2]
theorem rd_comm {w : World} {g : Nat} {l : List Int} (h : Blk w g 52 (u8s l).toArray) (ho : Oct l) (k m : Nat) (hm : k + m ≤ l.length) : Rd w w.heap.size (some ⟨g, k, none⟩) m (seg l k m) := by
  have := rd_range (pre := []) (post := []) (l := l) (B := w.heap.size) (by simpa using h.range) ho k m hm h.lt
  simpa [seg] using this
set_option maxHeartbeats 2000000 in
set_option maxRecDepth 100000 in
theorem ko_is (w : World) (l : List Int) (hl : l.length = 8) (ho : Oct l) :
    Calls Tryd.prog 93 #[.agg (u8s l).toArray] w fun e w' => e = .returned (.tuple #[.int .i64 (kf (hd l)).1, .int .i64 (kf (hd l)).2]) ∧ Below w.heap.size w w' := by
  have HB := Lib.hid (Blk.new w 52 (u8s l).toArray)
  have HL := Lib.hid ((Below.refl w.heap.size w).alloc (Nat.le_refl _) (.cells (u8s l).toArray 52))
  go_enter Tryd.func93, Tryd.ntmps93
  go_wp2_with fail
  refine (cnum_is _ _ _ 2 8 (seg l 0 2) (rd_comm HB.out ho 0 2 (by omega)) (by omega)).mono ?_
  rintro e w1 ⟨rfl, rfl⟩
  rw [show numOf (seg l 0 2) = hd l from rfl]
  generalize hH : hd l = h
  have HH := Lib.hid hH
  clear hH HB
  rcases kinds h with rfl | rfl | rfl | rfl | rfl | rfl | rfl | rfl | a
  · go_wp2
    go_ret2
    exact ⟨by rw [HH.out]; rfl, HL.out⟩
  · go_wp2
    go_ret2
    exact ⟨by rw [HH.out]; rfl, HL.out⟩
  · go_wp2
    go_ret2
    exact ⟨by rw [HH.out]; rfl, HL.out⟩
  · go_wp2
    go_ret2
    exact ⟨by rw [HH.out]; rfl, HL.out⟩
  · go_wp2
    go_ret2
    exact ⟨by rw [HH.out]; rfl, HL.out⟩
  · go_wp2
    go_ret2
    exact ⟨by rw [HH.out]; rfl, HL.out⟩
  · go_wp2
    go_ret2
    exact ⟨by rw [HH.out]; rfl, HL.out⟩
  · go_wp2
    go_ret2
    exact ⟨by rw [HH.out]; rfl, HL.out⟩
  · have HK := Lib.hid (kf_other a)
    obtain ⟨a1, a2, a3, a4, a5, a6, a7, a8⟩ := a
    have b1 : (h == 2) = false := by simpa using a1
    have b2 : (h == 258) = false := by simpa using a2
    have b3 : (h == 514) = false := by simpa using a3
    have b4 : (h == 1536) = false := by simpa using a4
    have b5 : (h == 1537) = false := by simpa using a5
    have b6 : (h == 1538) = false := by simpa using a6
    have b7 : (h == 1539) = false := by simpa using a7
    have b8 : (h == 780) = false := by simpa using a8
    clear a1 a2 a3 a4 a5 a6 a7 a8
    go_wp2
    go_ret2
    exact ⟨by rw [HH.out, HK.out]; rfl, HL.out⟩
set_option maxHeartbeats 2000000 in
set_option maxRecDepth 100000 in
theorem io_is (w : World) (l : List Int) (k : Int) (hl : l.length = 8) (ho : Oct l) :
    Calls Tryd.prog 107 #[.agg (u8s l).toArray, .int .i64 k] w fun e w' => e = .returned (.bool (decide ((kf (hd l)).1 = k))) ∧ Below w.heap.size w w' := by
  have HB := Lib.hid (Blk.new w 52 (u8s l).toArray)
  have HL := Lib.hid ((Below.refl w.heap.size w).alloc (Nat.le_refl _) (.cells (u8s l).toArray 52))
  go_enter Tryd.func107, Tryd.ntmps107
  go_wp2_with (refine comm_fetch rfl _ rfl w.heap.size 0 l hl rfl HB.out.range ?_)
  refine (ko_is _ l hl ho).mono ?_
  rintro e w1 ⟨rfl, hB⟩
  have HL1 := Lib.hid (HL.out.trans (hB.mono (by simp)))
  clear hB HB HL
  generalize hA : (kf (hd l)).1 = a
  have HA := Lib.hid hA
  clear hA
  generalize (kf (hd l)).2 = b
  go_wp2
  go_ret
  exact ⟨by rw [HA.out]; simp [BEq.beq], HL1.out⟩
def tnA (f : Int) (l : List Int) : Int := if f = 0 then numOf (seg l 2 2) else numOf (seg l 2 4)
def tnN (f : Int) (l : List Int) : Int := if f = 0 then numOf (seg l 4 4) else numOf (seg l 6 2)
set_option maxHeartbeats 2000000 in
set_option maxRecDepth 100000 in
theorem tn_is (w : World) (l : List Int) (f : Int) (hl : l.length = 8) (ho : Oct l) :
    Calls Tryd.prog 94 #[.agg (u8s l).toArray, .int .i64 f] w fun e w' => e = .returned (.tuple #[.int .u32 (tnA f l), .int .u32 (tnN f l)]) ∧ Below w.heap.size w w' := by
  have HB := Lib.hid (Blk.new w 52 (u8s l).toArray)
  have HL := Lib.hid ((Below.refl w.heap.size w).alloc (Nat.le_refl _) (.cells (u8s l).toArray 52))
  by_cases hf : f = 0
  · subst hf
    go_enter Tryd.func94, Tryd.ntmps94
    go_wp2
    refine wp_region_held_drew (S := fun w' => Blk w' w.heap.size 52 (u8s l).toArray ∧ Below w.heap.size w w') (by kernel_rfl) (⟨HB.out, below_drewN HL.out 1⟩) (fun hS => ?_)
    refine wpAnyH_take (i := 0) (oi := ⟨some 8, _, _, _, _, _⟩) (v := ?_) rfl (by kernel_rfl) (by kernel_rfl) (by kernel_rfl) (fun _ _ _ h => h) (Or.inl ⟨by rfl, ?_⟩) hS ?_
    rotate_left
    · intro wq hq
      first | (go_simp; done) | (go_simp; rfl)
    try simp only [Act.put, List.setIfInBounds_toArray, List.set_cons_zero, List.set_cons_succ]
    refine wpAnyH_take (i := 2) (oi := ⟨some 10, _, _, _, _, _⟩) (v := ?_) rfl (by kernel_rfl) (by kernel_rfl) (by kernel_rfl) (fun _ _ _ h => h) (Or.inl ⟨by rfl, ?_⟩) hS ?_
    rotate_left
    · intro wq hq
      first | (go_simp; done) | (go_simp; rfl)
    try simp only [Act.put, List.setIfInBounds_toArray, List.set_cons_zero, List.set_cons_succ]
    refine wpAnyH_ready (rs := [1]) (by kernel_rfl) (by simp) ?_
    refine AllReadyH.cons (o := ⟨some 9, _, _, _, _, _⟩) rfl (fun K hK => ?_) AllReadyH.nil
    rw [if_pos (by rfl)]
    go_wp2_with fail
    refine (cnum_is _ _ _ 2 6 (seg l 2 2) (rd_comm hS.1 ho 2 2 (by omega)) (by omega)).mono ?_
    rintro e w1 ⟨rfl, rfl⟩
    have hS1 := hS
    refine hK.out _ _ (hS1) (fun hS => ?_)
    clear hK K
    try simp only [Act.put, List.setIfInBounds_toArray, List.set_cons_zero, List.set_cons_succ]
    refine wpAnyH_ready (rs := [3]) (by kernel_rfl) (by simp) ?_
    refine AllReadyH.cons (o := ⟨some 11, _, _, _, _, _⟩) rfl (fun K hK => ?_) AllReadyH.nil
    rw [if_pos (by rfl)]
    go_wp2_with fail
    refine (cnum_is _ _ _ 4 4 (seg l 4 4) (rd_comm hS.1 ho 4 4 (by omega)) (by omega)).mono ?_
    rintro e w1 ⟨rfl, rfl⟩
    refine hK.out _ _ (hS1) (fun hS => ?_)
    clear hK K
    try simp only [Act.put, List.setIfInBounds_toArray, List.set_cons_zero, List.set_cons_succ]
    refine wpAnyH_take (i := 4) (oi := ⟨some 4, _, _, _, _, _⟩) (v := ?_) rfl (by kernel_rfl) (by kernel_rfl) (by kernel_rfl) (fun _ _ _ h => h) (Or.inl ⟨by rfl, ?_⟩) hS ?_
    rotate_left
    · intro wq hq
      first | (go_simp; done) | (go_simp; rfl)
    try simp only [Act.put, List.setIfInBounds_toArray, List.set_cons_zero, List.set_cons_succ]
    refine wpAnyH_take (i := 5) (oi := ⟨some 5, _, _, _, _, _⟩) (v := ?_) rfl (by kernel_rfl) (by kernel_rfl) (by kernel_rfl) (fun _ _ _ h => h) (Or.inl ⟨by rfl, ?_⟩) hS ?_
    rotate_left
    · intro wq hq
      first | (go_simp; done) | (go_simp; rfl)
    try simp only [Act.put, List.setIfInBounds_toArray, List.set_cons_zero, List.set_cons_succ]
    refine wpAnyH_done (by kernel_rfl) ?_ _
    go_wp2
    go_ret2
    exact ⟨rfl, hS.2⟩
  · have hb : (f == 0) = false := by simpa using hf
    have HA : Hid (tnA f l = numOf (seg l 2 4)) := Lib.hid (by unfold tnA; rw [if_neg hf])
    have HN : Hid (tnN f l = numOf (seg l 6 2)) := Lib.hid (by unfold tnN; rw [if_neg hf])
    clear hf
    go_enter Tryd.func94, Tryd.ntmps94
    go_wp2
    refine wp_region_held_drew (S := fun w' => Blk w' w.heap.size 52 (u8s l).toArray ∧ Below w.heap.size w w') (by kernel_rfl) (⟨HB.out, below_drewN HL.out 1⟩) (fun hS => ?_)
    refine wpAnyH_take (i := 0) (oi := ⟨some 12, _, _, _, _, _⟩) (v := ?_) rfl (by kernel_rfl) (by kernel_rfl) (by kernel_rfl) (fun _ _ _ h => h) (Or.inl ⟨by rfl, ?_⟩) hS ?_
    rotate_left
    · intro wq hq
      first | (go_simp; done) | (go_simp; rfl)
    try simp only [Act.put, List.setIfInBounds_toArray, List.set_cons_zero, List.set_cons_succ]
    refine wpAnyH_take (i := 2) (oi := ⟨some 14, _, _, _, _, _⟩) (v := ?_) rfl (by kernel_rfl) (by kernel_rfl) (by kernel_rfl) (fun _ _ _ h => h) (Or.inl ⟨by rfl, ?_⟩) hS ?_
    rotate_left
    · intro wq hq
      first | (go_simp; done) | (go_simp; rfl)
    try simp only [Act.put, List.setIfInBounds_toArray, List.set_cons_zero, List.set_cons_succ]
    refine wpAnyH_ready (rs := [1]) (by kernel_rfl) (by simp) ?_
    refine AllReadyH.cons (o := ⟨some 13, _, _, _, _, _⟩) rfl (fun K hK => ?_) AllReadyH.nil
    rw [if_pos (by rfl)]
    go_wp2_with fail
    refine (cnum_is _ _ _ 4 6 (seg l 2 4) (rd_comm hS.1 ho 2 4 (by omega)) (by omega)).mono ?_
    rintro e w1 ⟨rfl, rfl⟩
    have hS1 := hS
    refine hK.out _ _ (hS1) (fun hS => ?_)
    clear hK K
    try simp only [Act.put, List.setIfInBounds_toArray, List.set_cons_zero, List.set_cons_succ]
    refine wpAnyH_ready (rs := [3]) (by kernel_rfl) (by simp) ?_
    refine AllReadyH.cons (o := ⟨some 15, _, _, _, _, _⟩) rfl (fun K hK => ?_) AllReadyH.nil
    rw [if_pos (by rfl)]
    go_wp2_with fail
    refine (cnum_is _ _ _ 2 2 (seg l 6 2) (rd_comm hS.1 ho 6 2 (by omega)) (by omega)).mono ?_
    rintro e w1 ⟨rfl, rfl⟩
    refine hK.out _ _ (hS1) (fun hS => ?_)
    clear hK K
    try simp only [Act.put, List.setIfInBounds_toArray, List.set_cons_zero, List.set_cons_succ]
    refine wpAnyH_take (i := 4) (oi := ⟨some 4, _, _, _, _, _⟩) (v := ?_) rfl (by kernel_rfl) (by kernel_rfl) (by kernel_rfl) (fun _ _ _ h => h) (Or.inl ⟨by rfl, ?_⟩) hS ?_
    rotate_left
    · intro wq hq
      first | (go_simp; done) | (go_simp; rfl)
    try simp only [Act.put, List.setIfInBounds_toArray, List.set_cons_zero, List.set_cons_succ]
    refine wpAnyH_take (i := 5) (oi := ⟨some 5, _, _, _, _, _⟩) (v := ?_) rfl (by kernel_rfl) (by kernel_rfl) (by kernel_rfl) (fun _ _ _ h => h) (Or.inl ⟨by rfl, ?_⟩) hS ?_
    rotate_left
    · intro wq hq
      first | (go_simp; done) | (go_simp; rfl)
    try simp only [Act.put, List.setIfInBounds_toArray, List.set_cons_zero, List.set_cons_succ]
    refine wpAnyH_done (by kernel_rfl) ?_ _
    go_wp2
    go_ret2
    exact ⟨by rw [HA.out, HN.out]; rfl, hS.2⟩
theorem and_1 : ∀ x : Fin 256, bits .and .u8 (x.val : Int) 1 = (x.val : Int) % 2 := by decide +kernel
theorem and1_8 (x : Int) (h0 : 0 ≤ x) (h1 : x < 256) : bits .and .u8 x 1 = x % 2 := by
  obtain ⟨m, rfl⟩ := Int.eq_ofNat_of_zero_le h0
  exact and_1 ⟨m, by omega⟩
def flagOf (l : List Int) : Bool := decide (l.getD 2 0 % 2 = 1)
set_option maxHeartbeats 2000000 in
set_option maxRecDepth 100000 in
theorem isf_is (w : World) (l : List Int) (hl : l.length = 8) (ho : Oct l) :
    Calls Tryd.prog 95 #[.agg (u8s l).toArray] w fun e w' => e = .returned (.bool (flagOf l)) ∧ Below w.heap.size w w' := by
  have hc : (w.alloc (.cells (u8s l).toArray 52)).cell? ⟨w.heap.size, 2, none⟩ = some (.int .u8 (l.getD 2 0)) := by
    rw [(Blk.new w 52 (u8s l).toArray).cell]
    simp [List.getD, show 2 < l.length by omega]
  have HL := Lib.hid ((Below.refl w.heap.size w).alloc (Nat.le_refl _) (.cells (u8s l).toArray 52))
  have hx := ho.getD 2
  have ha := and1_8 _ hx.1 hx.2
  have HF : Hid (flagOf l = decide (l.getD 2 0 % 2 = 1)) := Lib.hid rfl
  generalize flagOf l = F at *
  generalize l.getD 2 0 = x at *
  rcases (show x % 2 = 0 ∨ x % 2 = 1 by omega) with h | h
  · rw [h] at ha HF
    clear h
    go_enter Tryd.func95, Tryd.ntmps95
    go_wp2
    go_ret
    exact ⟨by rw [HF.out]; rfl, HL.out⟩
  · rw [h] at ha HF
    clear h
    go_enter Tryd.func95, Tryd.ntmps95
    go_wp2
    go_ret
    exact ⟨by rw [HF.out]; rfl, HL.out⟩
theorem seg_cell (l : List Int) (k m j : Nat) (hk : k + m ≤ l.length) (hj : j < m) : (seg l k m)[j]'(by rw [seg_len l k m hk]; exact hj) = l.getD (k + j) 0 := by
  simp [seg, List.getD, show k + j < l.length by omega]
set_option maxHeartbeats 2000000 in
set_option maxRecDepth 100000 in
theorem rnum_is' (w : World) (l : List Int) (k m : Nat) (hl : l.length = 8) (ho : Oct l) (hk : k + m ≤ 8) (hm1 : 1 ≤ m) (hm : m ≤ 4) (t : Int) (ht : t = (k + m - 1 : Nat)) :
    Calls Tryd.prog 97 #[.agg (u8s l).toArray, .int .i64 k, .int .i64 t] w fun e w' => e = .returned (.int .u32 (numOf (seg l k m))) ∧ Below w.heap.size w w' := by
  have HB := Lib.hid (Blk.new w 52 (u8s l).toArray)
  have HL := Lib.hid ((Below.refl w.heap.size w).alloc (Nat.le_refl _) (.cells (u8s l).toArray 52))
  have HSL := Lib.hid (seg_len l k m (by omega))
  have HSO := Lib.hid (seg_oct l k m ho)
  subst ht
  have htt : ((k + m - 1 : Nat) : Int) = (k : Int) + m - 1 := by omega
  rw [htt]
  clear htt
  go_enter Tryd.func97, Tryd.ntmps97
  go_wp2
  go_loop [7, 8] (fun s i => ∃ j : Nat, j ≤ m ∧ i = .int .i64 ((k + j : Nat) : Int) ∧ s = .int .u32 (numOf ((seg l k m).take j))) (fun _ i => (k + m - intOf i).toNat)
  case atStart => exact ⟨0, by omega, rfl, rfl⟩
  case round =>
    obtain ⟨j, hj, rfl, rfl⟩ := hrel
    by_cases hlt : j < m
    · have hsl := HSL.out
      have hbd := numOf_bd_take (seg l k m) HSO.out j (by omega)
      have hp := pow256_3 j (by omega)
      have hst : numOf ((seg l k m).take (j + 1)) = numOf ((seg l k m).take j) * 256 + l.getD (k + j) 0 := by
        rw [List.take_succ_eq_append_getElem (by omega), numOf_snoc, seg_cell l k m j (by omega) hlt]
      have hx := ho.getD (k + j)
      have hc : (w.alloc (.cells (u8s l).toArray 52)).cell? ⟨w.heap.size, k + j, none⟩ = some (.int .u8 (l.getD (k + j) 0)) := by
        rw [HB.out.cell]
        simp [List.getD, show k + j < l.length by omega]
      obtain ⟨N2, hN2⟩ : ∃ N2, N2 = numOf ((seg l k m).take (j + 1)) := ⟨_, rfl⟩
      have HN2 := Lib.hid hN2
      rw [← hN2] at hst
      clear hN2
      generalize numOf ((seg l k m).take j) = N at *
      generalize l.getD (k + j) 0 = x at *
      have hN : N < 16777216 := by omega
      have hN0 := hbd.1
      have hle : ((k + j : Nat) : Int) ≤ (k : Int) + m - 1 := by omega
      have hq8 : ((k + j : Nat) : Int) < 8 := by omega
      have HI : Hid (((k + j : Nat) : Int) + 1 = ((k + (j + 1) : Nat) : Int)) := Lib.hid (by omega)
      have HE : Hid ((N * 256 % 4294967296 + x % 4294967296) % 4294967296 = N2) := Lib.hid (by omega)
      have HE2 : Hid (N * 256 + x = N2) := Lib.hid (by omega)
      have HM : Hid (((k : Int) + m - ((k + (j + 1) : Nat) : Int)).toNat < ((k : Int) + m - ((k + j : Nat) : Int)).toNat) := Lib.hid (by omega)
      clear hst hbd hp hsl
      generalize k + j = q at *
      go_wp2
      exact ⟨⟨j + 1, by omega, by simp only [Value.int.injEq, true_and]; exact HI.out, by rw [← HN2.out]; simp only [Value.int.injEq, true_and]; first | exact HE.out | exact HE2.out⟩, by simp only [intOf]; rw [HI.out]; exact HM.out⟩
    · obtain rfl : j = m := by omega
      have hsl := HSL.out
      rw [List.take_of_length_le (by omega)]
      have hgt : ¬ ((k + j : Nat) : Int) ≤ (k : Int) + j - 1 := by omega
      clear hsl
      generalize k + j = q at *
      go_wp2
      go_ret
      exact ⟨rfl, HL.out⟩
end Go.Proofs.YtkaimdcepnhkdaaDoor
