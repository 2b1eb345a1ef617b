/-
  CommMakes: the walk.
-/
import Derived.Test.YtkaimdcepnhkdaaDoorComE
import Derived.Test.YtkaimdcepnhkdaaDoorComK
namespace Go.Proofs.YtkaimdcepnhkdaaDoor
open Go.RowKit
set_option linter.unusedSimpArgs false
set_option linter.unusedVariables false

theorem tgt_oct (a n : Int) : Oct (tgt a n) := by
  have o2 : ∀ x : Int, Oct (be 2 x) := be_oct 2
  have o4 : ∀ x : Int, Oct (be 4 x) := be_oct 4
  unfold tgt
  split
  all_goals
    intro x hx
    rcases List.mem_append.1 hx with hx | hx
    · rcases List.mem_append.1 hx with hx | hx
      · simp at hx; omega
      · first | exact o2 _ x hx | exact o4 _ x hx
    · first | exact o2 _ x hx | exact o4 _ x hx
theorem fl_bd (b : Bool) : 0 ≤ fl b ∧ fl b < 256 := by cases b <;> decide
theorem mob_oct (b : Bool) (n : Int) : Oct (mob b n) := by
  have hf := fl_bd b
  intro x hx
  rcases List.mem_append.1 hx with hx | hx
  · simp at hx; omega
  · exact be_oct _ _ x hx
theorem lab_oct (b : Bool) (n : Int) : Oct (lab b n) := by
  have hf := fl_bd b
  intro x hx
  rcases List.mem_append.1 hx with hx | hx
  · simp at hx; omega
  · exact be_oct _ _ x hx
theorem enc_oct (k : Int) : Oct (enc k) := by
  intro x hx
  rcases List.mem_append.1 hx with hx | hx
  · simp at hx; omega
  · exact be_oct _ _ x hx
theorem withM_oct (x y : Int) (m : List Int) (hx : 0 ≤ x ∧ x < 256) (hy : 0 ≤ y ∧ y < 256) (ho : Oct m) : Oct (withM x y m) := by
  intro z hz
  rcases List.mem_cons.1 hz with rfl | hz
  · exact hx
  · rcases List.mem_cons.1 hz with rfl | hz
    · exact hy
    · exact ho z hz
theorem z8_oct : Oct z8 := by intro x h; simp [z8] at h; omega
theorem commE_of (o : Option (List Int)) (h : ∀ l, o = some l → l.length = 8 ∧ Oct l) : ∃ l e, commE o = .tuple #[.agg (u8s l).toArray, .int .i64 e] ∧ l.length = 8 ∧ Oct l := by
  cases o with
  | none => exact ⟨z8, 2, rfl, rfl, z8_oct⟩
  | some l => exact ⟨l, 0, rfl, (h l rfl).1, (h l rfl).2⟩
theorem mtO_ok (a n : Int) (l : List Int) (h : mtO a n = some l) : l.length = 8 ∧ Oct l := by
  unfold mtO at h
  split at h
  · cases h; exact ⟨tgt_len a n, tgt_oct a n⟩
  · split at h
    · cases h; exact ⟨tgt_len a n, tgt_oct a n⟩
    · cases h
theorem mlO_ok (b : Bool) (n : Int) (l : List Int) (h : mlO b n = some l) : l.length = 8 ∧ Oct l := by
  unfold mlO at h
  split at h
  · cases h; exact ⟨lab_len b n, lab_oct b n⟩
  · cases h
theorem comm_eql (l l' : List Int) (hl : l.length = 8) (hl' : l'.length = 8) (ho : Oct l) (ho' : Oct l') (b : Bool) (hb : decide (l = l') = b) (w : World) :
    (binOp .eql 52 (.agg (u8s l).toArray) (.agg (u8s l').toArray)).run Tryd.prog w = .ok (.bool b) w :=
  run_eql_u8s (P := Tryd.prog) (t := 52) (e := 5) (n := 8) (by kernel_rfl) Tryd.underlying52 Tryd.underlying5 (by kernel_rfl) (by kernel_rfl) l l' hl hl' ho ho' b hb w
theorem comm_neq (l l' : List Int) (hl : l.length = 8) (hl' : l'.length = 8) (ho : Oct l) (ho' : Oct l') (b : Bool) (hb : (!decide (l = l')) = b) (w : World) :
    (binOp .neq 52 (.agg (u8s l).toArray) (.agg (u8s l').toArray)).run Tryd.prog w = .ok (.bool b) w :=
  run_neq_u8s (P := Tryd.prog) (t := 52) (e := 5) (n := 8) (by kernel_rfl) Tryd.underlying52 Tryd.underlying5 (by kernel_rfl) (by kernel_rfl) l l' hl hl' ho ho' b hb w
theorem comm_eq (l : List Int) (hl : l.length = 8) (ho : Oct l) (w : World) : (binOp .eql 52 (.agg (u8s l).toArray) (.agg (u8s l).toArray)).run Tryd.prog w = .ok (.bool true) w := comm_eql l l hl hl ho ho true (by simp) w
theorem comm_ne (l : List Int) (hl : l.length = 8) (ho : Oct l) (w : World) : (binOp .neq 52 (.agg (u8s l).toArray) (.agg (u8s l).toArray)).run Tryd.prog w = .ok (.bool false) w := comm_neq l l hl hl ho ho false (by simp) w
/-- The card, and what lies below. -/
structure CM (w0 w : World) (m : List Int) : Prop where
  mac : Blk w w0.heap.size 49 (u8s m).toArray
  low : Below w0.heap.size w0 w
  env : Env w
theorem CM.below {w0 w w' : World} {m : List Int} (h : CM w0 w m) (hB : Below w.heap.size w w') : CM w0 w' m := ⟨h.mac.below hB h.mac.lt, h.low.trans (hB.mono h.low.size), h.env.below hB⟩
set_option maxHeartbeats 8000000 in
set_option maxRecDepth 100000 in
theorem commMakes_walk (w : World) (E : Env w) (a n : Int) (fg : Bool) (m : List Int) (k : Int) (ha : 0 ≤ a ∧ a ≤ 4294967295) (hn : 0 ≤ n ∧ n ≤ 4294967295) (hm : m.length = 6) (om : Oct m) (hk : 0 ≤ k ∧ k ≤ 65535) :
    Calls Tryd.prog 5 #[.int .u32 a, .int .u32 n, .bool fg, .agg (u8s m).toArray, .int .u16 k] w fun e w' => e = .returned (.bool true) ∧ Below w.heap.size w w' := by
  have hl0 := (Below.refl w.heap.size w).alloc (Nat.le_refl _) (.cells (u8s m).toArray 49)
  have HC : Hid (CM w (w.alloc (.cells (u8s m).toArray 49)) m) := Lib.hid ⟨Blk.new w 49 _, hl0, E.below hl0⟩
  obtain ⟨l1, e1, q1, z1, o1⟩ := commE_of (mtO a n) (mtO_ok a n)
  obtain ⟨l2, e2, q2, z2, o2⟩ := commE_of (mlO fg n) (mlO_ok fg n)
  have Q1 := Lib.hid q1
  have Q2 := Lib.hid q2
  have N1 := comm_ne l1 z1 o1
  have N2 := comm_ne l2 z2 o2
  clear q1 q2 hl0
  go_enter Tryd.func5, Tryd.ntmps5
  go_wp2_with fail
  refine (mt_is _ a n ha.1 (by omega) hn.1 (by omega)).mono ?_
  rintro e w1 ⟨rfl, hB⟩
  rw [Q1.out]
  have hC := HC.out.below hB
  obtain ⟨b1, s0, s1⟩ := new_comm hC.low l1
  have HN1 := Lib.hid (Blk.new w1 52 zc8)
  have HC1 := Lib.hid (hC.below s1)
  have HA1 := Lib.hid b1
  clear hB hC b1 s0 s1 HC
  go_wp2_with (refine comm_store rfl _ _ rfl w1.heap.size l1 z1 rfl rfl 52 zc8 HN1.out rfl ?_)
  refine (rmt_is _ a n ha.1 (by omega) hn.1 (by omega)).mono ?_
  rintro e w2 ⟨rfl, hB⟩
  rw [Q1.out]
  have hC := HC1.out.below hB
  obtain ⟨b1, s0, s1⟩ := new_comm hC.low l1
  have HN2 := Lib.hid (Blk.new w2 52 zc8)
  have HC2 := Lib.hid (hC.below s1)
  have hA1 := HA1.out.below hB HA1.out.lt
  have HA2 := Lib.hid (hA1.below s1 hA1.lt)
  have HB2 := Lib.hid b1
  clear hB hC b1 s0 s1 HC1 HA1 hA1 HN1
  go_wp2_with (refine comm_store rfl _ _ rfl w2.heap.size l1 z1 rfl rfl 52 zc8 HN2.out rfl ?_)
  refine (ml_is' _ fg n hn.1 (by omega)).mono ?_
  rintro e w3 ⟨rfl, hB⟩
  rw [Q2.out]
  have hC := HC2.out.below hB
  obtain ⟨b1, s0, s1⟩ := new_comm hC.low l2
  have HN3 := Lib.hid (Blk.new w3 52 zc8)
  have HC3 := Lib.hid (hC.below s1)
  have hA1 := HA2.out.below hB HA2.out.lt
  have HA3 := Lib.hid (hA1.below s1 hA1.lt)
  have hB1 := HB2.out.below hB HB2.out.lt
  have HB3 := Lib.hid (hB1.below s1 hB1.lt)
  have HD3 := Lib.hid b1
  clear hB hC b1 s0 s1 HC2 HA2 hA1 HN2 HB2 hB1
  go_wp2_with (refine comm_store rfl _ _ rfl w3.heap.size l2 z2 rfl rfl 52 zc8 HN3.out rfl ?_)
  refine (rml_is _ fg n hn.1 (by omega)).mono ?_
  rintro e w4 ⟨rfl, hB⟩
  rw [Q2.out]
  have hC := HC3.out.below hB
  obtain ⟨b1, s0, s1⟩ := new_comm hC.low l2
  have HN4 := Lib.hid (Blk.new w4 52 zc8)
  have HC4 := Lib.hid (hC.below s1)
  have hA1 := HA3.out.below hB HA3.out.lt
  have HA4 := Lib.hid (hA1.below s1 hA1.lt)
  have hB1 := HB3.out.below hB HB3.out.lt
  have HB4 := Lib.hid (hB1.below s1 hB1.lt)
  have hD1 := HD3.out.below hB HD3.out.lt
  have HD4 := Lib.hid (hD1.below s1 hD1.lt)
  have HE4 := Lib.hid b1
  clear hB hC b1 s0 s1 HC3 HA3 hA1 HN3 HB3 hB1 HD3 hD1
  go_wp2_with (first
    | (refine comm_store rfl _ _ rfl w4.heap.size l2 z2 rfl rfl 52 zc8 HN4.out rfl ?_)
    | (refine comm_fetch rfl _ rfl w1.heap.size 0 l1 z1 rfl HA4.out.range ?_)
    | (refine comm_fetch rfl _ rfl w2.heap.size 0 l1 z1 rfl HB4.out.range ?_)
    | (refine comm_fetch rfl _ rfl w3.heap.size 0 l2 z2 rfl HD4.out.range ?_)
    | (refine comm_fetch rfl _ rfl w4.heap.size 0 l2 z2 rfl HE4.out.range ?_))
  clear HA4 HB4 HD4 HE4 HN4 N1 N2 Q1 Q2
  generalize (w4.alloc (.cells zc8 52)).setRow w4.heap.size (u8s l2).toArray = w5 at *
  have M1 := comm_eq (mob fg n) (mob_len fg n) (mob_oct fg n)
  have M2 := comm_eq (withM 6 2 m) (withM_len 6 2 m hm) (withM_oct 6 2 m (by omega) (by omega) om)
  have M3 := comm_eq (withM 6 3 m) (withM_len 6 3 m hm) (withM_oct 6 3 m (by omega) (by omega) om)
  have M4 := comm_eq (enc k) (enc_len k) (enc_oct k)
  refine wp_region_held_drew (S := fun w' => CM w w' m) (by kernel_rfl) (⟨HC4.out.mac, below_drewN HC4.out.low 1, HC4.out.env.drewN 1⟩) (fun hS => ?_)
  refine wpAnyH_take (i := 0) (oi := ⟨some 61, _, _, _, _, _⟩) (v := ?_) rfl (by kernel_rfl) (by kernel_rfl) (by kernel_rfl) (fun _ _ _ h => h) (Or.inl ⟨by rfl, ?_⟩) hS ?_
  rotate_left
  · intro wq hq
    first | (go_simp; done) | (go_simp; rfl)
  try simp only [Act.put, List.setIfInBounds_toArray, List.set_cons_zero, List.set_cons_succ]
  refine wpAnyH_take (i := 1) (oi := ⟨some 62, _, _, _, _, _⟩) (v := ?_) rfl (by kernel_rfl) (by kernel_rfl) (by kernel_rfl) (fun _ _ _ h => h) (Or.inl ⟨by rfl, ?_⟩) hS ?_
  rotate_left
  · intro wq hq
    first | (go_simp; done) | (go_simp; rfl)
  try simp only [Act.put, List.setIfInBounds_toArray, List.set_cons_zero, List.set_cons_succ]
  refine wpAnyH_take (i := 3) (oi := ⟨some 64, _, _, _, _, _⟩) (v := ?_) rfl (by kernel_rfl) (by kernel_rfl) (by kernel_rfl) (fun _ _ _ h => h) (Or.inl ⟨by rfl, ?_⟩) hS ?_
  rotate_left
  · intro wq hq
    first | (go_simp; done) | (go_simp; rfl)
  try simp only [Act.put, List.setIfInBounds_toArray, List.set_cons_zero, List.set_cons_succ]
  refine wpAnyH_take (i := 4) (oi := ⟨some 65, _, _, _, _, _⟩) (v := ?_) rfl (by kernel_rfl) (by kernel_rfl) (by kernel_rfl) (fun _ _ _ h => h) (Or.inl ⟨by rfl, ?_⟩) hS ?_
  rotate_left
  · intro wq hq
    first | (go_simp; done) | (go_simp; rfl)
  try simp only [Act.put, List.setIfInBounds_toArray, List.set_cons_zero, List.set_cons_succ]
  refine wpAnyH_ready (rs := [2]) (by kernel_rfl) (by simp) ?_
  refine AllReadyH.cons (o := ⟨some 63, _, _, _, _, _⟩) rfl (fun K hK => ?_) AllReadyH.nil
  rw [if_pos (by rfl)]
  go_wp2_with fail
  refine (mm_is _ fg n hn.1 (by omega)).mono ?_
  rintro e u1 ⟨rfl, hB⟩
  have hS1 := hS.below hB
  refine hK.out _ _ (hS1) (fun hS => ?_)
  clear hK K
  try simp only [Act.put, List.setIfInBounds_toArray, List.set_cons_zero, List.set_cons_succ]
  refine wpAnyH_ready (rs := [5]) (by kernel_rfl) (by simp) ?_
  refine AllReadyH.cons (o := ⟨some 66, _, _, _, _, _⟩) rfl (fun K hK => ?_) AllReadyH.nil
  rw [if_pos (by rfl)]
  go_wp2_with fail
  refine (rmm_is _ fg n hn.1 (by omega)).mono ?_
  rintro e u2 ⟨rfl, hB⟩
  have hS2 := hS1.below hB
  refine hK.out _ _ (hS2) (fun hS => ?_)
  clear hK K
  try simp only [Act.put, List.setIfInBounds_toArray, List.set_cons_zero, List.set_cons_succ]
  refine wpAnyH_take (i := 6) (oi := ⟨some 67, _, _, _, _, _⟩) (v := ?_) rfl (by kernel_rfl) (by kernel_rfl) (by kernel_rfl) (fun _ _ _ h => h) (Or.inl ⟨by rfl, ?_⟩) hS ?_
  rotate_left
  · intro wq hq
    first | (go_simp; done) | (go_simp; rfl)
  try simp only [Act.put, List.setIfInBounds_toArray, List.set_cons_zero, List.set_cons_succ]
  refine wpAnyH_take (i := 7) (oi := ⟨some 68, _, _, _, _, _⟩) (v := ?_) rfl (by kernel_rfl) (by kernel_rfl) (by kernel_rfl) (fun _ _ _ h => h) (Or.inl ⟨by rfl, ?_⟩) hS ?_
  rotate_left
  · intro wq hq
    first | (go_simp; done) | (go_simp; rfl)
  try simp only [Act.put, List.setIfInBounds_toArray, List.set_cons_zero, List.set_cons_succ]
  refine wpAnyH_take (i := 8) (oi := ⟨some 69, _, _, _, _, _⟩) rfl (by kernel_rfl) (by kernel_rfl) (by kernel_rfl) (fun _ _ _ h => h) (yieldsIf_load_mid (by rfl) 49 _ rfl _ _ rfl (u8s m) _ (fun wq hq => hq.mac.range) Tryd.underlying49 rfl (by simpa using mac6_size m hm)) hS ?_
  try simp only [Act.put, List.setIfInBounds_toArray, List.set_cons_zero, List.set_cons_succ]
  refine wpAnyH_take (i := 10) (oi := ⟨some 71, _, _, _, _, _⟩) rfl (by kernel_rfl) (by kernel_rfl) (by kernel_rfl) (fun _ _ _ h => h) (yieldsIf_load_mid (by rfl) 49 _ rfl _ _ rfl (u8s m) _ (fun wq hq => hq.mac.range) Tryd.underlying49 rfl (by simpa using mac6_size m hm)) hS ?_
  try simp only [Act.put, List.setIfInBounds_toArray, List.set_cons_zero, List.set_cons_succ]
  refine wpAnyH_ready (rs := [9]) (by kernel_rfl) (by simp) ?_
  refine AllReadyH.cons (o := ⟨some 70, _, _, _, _, _⟩) rfl (fun K hK => ?_) AllReadyH.nil
  rw [if_pos (by rfl)]
  go_wp2_with fail
  refine (mi_is _ m hm).mono ?_
  rintro e u3 ⟨rfl, hB⟩
  have hS3 := hS2.below hB
  refine hK.out _ _ (hS3) (fun hS => ?_)
  clear hK K
  try simp only [Act.put, List.setIfInBounds_toArray, List.set_cons_zero, List.set_cons_succ]
  refine wpAnyH_ready (rs := [11]) (by kernel_rfl) (by simp) ?_
  refine AllReadyH.cons (o := ⟨some 72, _, _, _, _, _⟩) rfl (fun K hK => ?_) AllReadyH.nil
  rw [if_pos (by rfl)]
  go_wp2_with fail
  refine (rmi_is _ m hm).mono ?_
  rintro e u4 ⟨rfl, hB⟩
  have hS4 := hS3.below hB
  refine hK.out _ _ (hS4) (fun hS => ?_)
  clear hK K
  try simp only [Act.put, List.setIfInBounds_toArray, List.set_cons_zero, List.set_cons_succ]
  refine wpAnyH_take (i := 12) (oi := ⟨some 73, _, _, _, _, _⟩) (v := ?_) rfl (by kernel_rfl) (by kernel_rfl) (by kernel_rfl) (fun _ _ _ h => h) (Or.inl ⟨by rfl, ?_⟩) hS ?_
  rotate_left
  · intro wq hq
    first | (go_simp; done) | (go_simp; rfl)
  try simp only [Act.put, List.setIfInBounds_toArray, List.set_cons_zero, List.set_cons_succ]
  refine wpAnyH_take (i := 13) (oi := ⟨some 74, _, _, _, _, _⟩) (v := ?_) rfl (by kernel_rfl) (by kernel_rfl) (by kernel_rfl) (fun _ _ _ h => h) (Or.inl ⟨by rfl, ?_⟩) hS ?_
  rotate_left
  · intro wq hq
    first | (go_simp; done) | (go_simp; rfl)
  try simp only [Act.put, List.setIfInBounds_toArray, List.set_cons_zero, List.set_cons_succ]
  refine wpAnyH_take (i := 14) (oi := ⟨some 75, _, _, _, _, _⟩) (v := ?_) rfl (by kernel_rfl) (by kernel_rfl) (by kernel_rfl) (fun _ _ _ h => h) (Or.inl ⟨by rfl, ?_⟩) hS ?_
  rotate_left
  · intro wq hq
    first | (go_simp; done) | (go_simp; rfl)
  try simp only [Act.put, List.setIfInBounds_toArray, List.set_cons_zero, List.set_cons_succ]
  refine wpAnyH_take (i := 15) (oi := ⟨some 76, _, _, _, _, _⟩) rfl (by kernel_rfl) (by kernel_rfl) (by kernel_rfl) (fun _ _ _ h => h) (yieldsIf_load_mid (by rfl) 49 _ rfl _ _ rfl (u8s m) _ (fun wq hq => hq.mac.range) Tryd.underlying49 rfl (by simpa using mac6_size m hm)) hS ?_
  try simp only [Act.put, List.setIfInBounds_toArray, List.set_cons_zero, List.set_cons_succ]
  refine wpAnyH_take (i := 17) (oi := ⟨some 78, _, _, _, _, _⟩) rfl (by kernel_rfl) (by kernel_rfl) (by kernel_rfl) (fun _ _ _ h => h) (yieldsIf_load_mid (by rfl) 49 _ rfl _ _ rfl (u8s m) _ (fun wq hq => hq.mac.range) Tryd.underlying49 rfl (by simpa using mac6_size m hm)) hS ?_
  try simp only [Act.put, List.setIfInBounds_toArray, List.set_cons_zero, List.set_cons_succ]
  refine wpAnyH_ready (rs := [16]) (by kernel_rfl) (by simp) ?_
  refine AllReadyH.cons (o := ⟨some 77, _, _, _, _, _⟩) rfl (fun K hK => ?_) AllReadyH.nil
  rw [if_pos (by rfl)]
  go_wp2_with fail
  refine (mr_is _ m hm).mono ?_
  rintro e u5 ⟨rfl, hB⟩
  have hS5 := hS4.below hB
  refine hK.out _ _ (hS5) (fun hS => ?_)
  clear hK K
  try simp only [Act.put, List.setIfInBounds_toArray, List.set_cons_zero, List.set_cons_succ]
  refine wpAnyH_ready (rs := [18]) (by kernel_rfl) (by simp) ?_
  refine AllReadyH.cons (o := ⟨some 79, _, _, _, _, _⟩) rfl (fun K hK => ?_) AllReadyH.nil
  rw [if_pos (by rfl)]
  go_wp2_with fail
  refine (rmr_is _ m hm).mono ?_
  rintro e u6 ⟨rfl, hB⟩
  have hS6 := hS5.below hB
  refine hK.out _ _ (hS6) (fun hS => ?_)
  clear hK K
  try simp only [Act.put, List.setIfInBounds_toArray, List.set_cons_zero, List.set_cons_succ]
  refine wpAnyH_take (i := 19) (oi := ⟨some 80, _, _, _, _, _⟩) (v := ?_) rfl (by kernel_rfl) (by kernel_rfl) (by kernel_rfl) (fun _ _ _ h => h) (Or.inl ⟨by rfl, ?_⟩) hS ?_
  rotate_left
  · intro wq hq
    first | (go_simp; done) | (go_simp; rfl)
  try simp only [Act.put, List.setIfInBounds_toArray, List.set_cons_zero, List.set_cons_succ]
  refine wpAnyH_take (i := 20) (oi := ⟨some 81, _, _, _, _, _⟩) (v := ?_) rfl (by kernel_rfl) (by kernel_rfl) (by kernel_rfl) (fun _ _ _ h => h) (Or.inl ⟨by rfl, ?_⟩) hS ?_
  rotate_left
  · intro wq hq
    first | (go_simp; done) | (go_simp; rfl)
  try simp only [Act.put, List.setIfInBounds_toArray, List.set_cons_zero, List.set_cons_succ]
  refine wpAnyH_take (i := 21) (oi := ⟨some 82, _, _, _, _, _⟩) (v := ?_) rfl (by kernel_rfl) (by kernel_rfl) (by kernel_rfl) (fun _ _ _ h => h) (Or.inl ⟨by rfl, ?_⟩) hS ?_
  rotate_left
  · intro wq hq
    first | (go_simp; done) | (go_simp; rfl)
  try simp only [Act.put, List.setIfInBounds_toArray, List.set_cons_zero, List.set_cons_succ]
  refine wpAnyH_take (i := 22) (oi := ⟨some 83, _, _, _, _, _⟩) (v := ?_) rfl (by kernel_rfl) (by kernel_rfl) (by kernel_rfl) (fun _ _ _ h => h) (Or.inl ⟨by rfl, ?_⟩) hS ?_
  rotate_left
  · intro wq hq
    first | (go_simp; done) | (go_simp; rfl)
  try simp only [Act.put, List.setIfInBounds_toArray, List.set_cons_zero, List.set_cons_succ]
  refine wpAnyH_take (i := 24) (oi := ⟨some 85, _, _, _, _, _⟩) (v := ?_) rfl (by kernel_rfl) (by kernel_rfl) (by kernel_rfl) (fun _ _ _ h => h) (Or.inl ⟨by rfl, ?_⟩) hS ?_
  rotate_left
  · intro wq hq
    first | (go_simp; done) | (go_simp; rfl)
  try simp only [Act.put, List.setIfInBounds_toArray, List.set_cons_zero, List.set_cons_succ]
  refine wpAnyH_ready (rs := [23]) (by kernel_rfl) (by simp) ?_
  refine AllReadyH.cons (o := ⟨some 84, _, _, _, _, _⟩) rfl (fun K hK => ?_) AllReadyH.nil
  rw [if_pos (by rfl)]
  go_wp2_with fail
  refine (me_is _ k hk.1 (by omega)).mono ?_
  rintro e u7 ⟨rfl, hB⟩
  have hS7 := hS6.below hB
  refine hK.out _ _ (hS7) (fun hS => ?_)
  clear hK K
  try simp only [Act.put, List.setIfInBounds_toArray, List.set_cons_zero, List.set_cons_succ]
  refine wpAnyH_ready (rs := [25]) (by kernel_rfl) (by simp) ?_
  refine AllReadyH.cons (o := ⟨some 86, _, _, _, _, _⟩) rfl (fun K hK => ?_) AllReadyH.nil
  rw [if_pos (by rfl)]
  go_wp2_with fail
  refine (rme_is _ k hk.1 (by omega)).mono ?_
  rintro e u8 ⟨rfl, hB⟩
  have hS8 := hS7.below hB
  refine hK.out _ _ (hS8) (fun hS => ?_)
  clear hK K
  try simp only [Act.put, List.setIfInBounds_toArray, List.set_cons_zero, List.set_cons_succ]
  refine wpAnyH_take (i := 26) (oi := ⟨some 87, _, _, _, _, _⟩) (v := ?_) rfl (by kernel_rfl) (by kernel_rfl) (by kernel_rfl) (fun _ _ _ h => h) (Or.inl ⟨by rfl, ?_⟩) hS ?_
  rotate_left
  · intro wq hq
    first | (go_simp; done) | (go_simp; rfl)
  try simp only [Act.put, List.setIfInBounds_toArray, List.set_cons_zero, List.set_cons_succ]
  refine wpAnyH_take (i := 27) (oi := ⟨some 88, _, _, _, _, _⟩) (v := ?_) rfl (by kernel_rfl) (by kernel_rfl) (by kernel_rfl) (fun _ _ _ h => h) (Or.inl ⟨by rfl, ?_⟩) hS ?_
  rotate_left
  · intro wq hq
    first | (go_simp; done) | (go_simp; rfl)
  try simp only [Act.put, List.setIfInBounds_toArray, List.set_cons_zero, List.set_cons_succ]
  refine wpAnyH_take (i := 28) (oi := ⟨some 89, _, _, _, _, _⟩) (v := ?_) rfl (by kernel_rfl) (by kernel_rfl) (by kernel_rfl) (fun _ _ _ h => h) (Or.inl ⟨by rfl, ?_⟩) hS ?_
  rotate_left
  · intro wq hq
    first | (go_simp; done) | (go_simp; rfl)
  try simp only [Act.put, List.setIfInBounds_toArray, List.set_cons_zero, List.set_cons_succ]
  refine wpAnyH_ready (rs := [29]) (by kernel_rfl) (by simp) ?_
  refine AllReadyH.cons (o := ⟨some 90, _, _, _, _, _⟩) rfl (fun K hK => ?_) AllReadyH.nil
  rw [if_pos (by rfl)]
  go_wp2_with fail
  refine (alive4_is _ hS8.env).mono ?_
  rintro e u9 ⟨rfl, hB⟩
  have hS9 := hS8.below hB
  refine hK.out _ _ (hS9) (fun hS => ?_)
  clear hK K
  try simp only [Act.put, List.setIfInBounds_toArray, List.set_cons_zero, List.set_cons_succ]
  refine wpAnyH_take (i := 30) (oi := ⟨some 91, _, _, _, _, _⟩) (v := ?_) rfl (by kernel_rfl) (by kernel_rfl) (by kernel_rfl) (fun _ _ _ h => h) (Or.inl ⟨by rfl, ?_⟩) hS ?_
  rotate_left
  · intro wq hq
    first | (go_simp; done) | (go_simp; rfl)
  try simp only [Act.put, List.setIfInBounds_toArray, List.set_cons_zero, List.set_cons_succ]
  refine wpAnyH_take (i := 31) (oi := ⟨some 10, _, _, _, _, _⟩) (v := ?_) rfl (by kernel_rfl) (by kernel_rfl) (by kernel_rfl) (fun _ _ _ h => h) (Or.inl ⟨by rfl, ?_⟩) hS ?_
  rotate_left
  · intro wq hq
    first | (go_simp; done) | (go_simp; rfl)
  try simp only [Act.put, List.setIfInBounds_toArray, List.set_cons_zero, List.set_cons_succ]
  refine wpAnyH_done (by kernel_rfl) ?_ _
  go_wp2
  go_ret
  exact ⟨rfl, hS9.low⟩
end Go.Proofs.YtkaimdcepnhkdaaDoor
