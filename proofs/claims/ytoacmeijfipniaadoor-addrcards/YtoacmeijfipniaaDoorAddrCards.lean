/-
  AddrCards: the walk.
-/
import Derived.Test.YtoacmeijfipniaaDoorCarF
import Derived.Deep.RegionHeld3
namespace Go.Proofs.YtoacmeijfipniaaDoor
open Go.RowKit
set_option linter.unusedSimpArgs false
set_option linter.unusedVariables false

theorem nam_parts (n : Nat) (s : ByteArray) : ∃ l err, namE n (prs s n) = .tuple #[.agg (u8s l).toArray, .int .i64 err] ∧ l.length = n ∧ Oct l := by
  cases h : prs s n with
  | none => exact ⟨List.replicate n 0, 4, rfl, by simp, fun x hx => by have := (List.mem_replicate.1 hx).2; omega⟩
  | some l => exact ⟨l, 0, rfl, (prs_bd h).1, (prs_bd h).2⟩
/-- Where everything lies. -/
structure StC (w wx : World) (b1 b2 b3 b4 : Nat) (lm lx la lc : List Int) : Prop where
  m : Blk wx w.heap.size 23 (u8s lm).toArray
  x : Blk wx (w.heap.size + 1) 25 (u8s lx).toArray
  a : Blk wx b1 23 (u8s la).toArray
  b : Blk wx b2 23 (u8s la).toArray
  c : Blk wx b3 25 (u8s lc).toArray
  d : Blk wx b4 25 (u8s lc).toArray
  low : Below w.heap.size w wx
theorem StC.on {w wx wy : World} {b1 b2 b3 b4 : Nat} {m x a c : List Int} (h : StC w wx b1 b2 b3 b4 m x a c) (hb : Below wx.heap.size wx wy) : StC w wy b1 b2 b3 b4 m x a c :=
  ⟨h.m.below hb h.m.lt, h.x.below hb h.x.lt, h.a.below hb h.a.lt, h.b.below hb h.b.lt, h.c.below hb h.c.lt, h.d.below hb h.d.lt, h.low.trans (hb.mono h.low.size)⟩
set_option maxHeartbeats 16000000 in
set_option maxRecDepth 100000 in
theorem addrCards_walk (w : World) (E : Env w) (m x : List Int) (s : ByteArray) (hm : m.length = 6) (om : Oct m) (hx : x.length = 10) (ox : Oct x) :
    Calls Tryd.prog 3 #[.agg (u8s m).toArray, .agg (u8s x).toArray, .string s] w fun e w' => e = .returned (.bool true) ∧ Below w.heap.size w w' := by
  obtain ⟨a, ea, hna, hal, oa⟩ := nam_parts 6 s
  obtain ⟨c, ec, hnc, hcl, oc⟩ := nam_parts 10 s
  have P1 : Hid (∀ w, Calls Tryd.prog 10 #[.string s] w fun e w' => e = .returned (.tuple #[.agg (u8s a).toArray, .int .i64 ea]) ∧ Below w.heap.size w w') := Lib.hid (fun w => (pmac_is w s).mono fun e w' h => by have := h.1; rw [hna] at this; exact ⟨this, h.2⟩)
  have P2 : Hid (∀ w, Calls Tryd.prog 11 #[.string s] w fun e w' => e = .returned (.tuple #[.agg (u8s a).toArray, .int .i64 ea]) ∧ Below w.heap.size w w') := Lib.hid (fun w => (rmac_is w s).mono fun e w' h => by have := h.1; rw [hna] at this; exact ⟨this, h.2⟩)
  have P3 : Hid (∀ w, Calls Tryd.prog 12 #[.string s] w fun e w' => e = .returned (.tuple #[.agg (u8s c).toArray, .int .i64 ec]) ∧ Below w.heap.size w w') := Lib.hid (fun w => (pesi_is w s).mono fun e w' h => by have := h.1; rw [hnc] at this; exact ⟨this, h.2⟩)
  have P4 : Hid (∀ w, Calls Tryd.prog 13 #[.string s] w fun e w' => e = .returned (.tuple #[.agg (u8s c).toArray, .int .i64 ec]) ∧ Below w.heap.size w w') := Lib.hid (fun w => (resi_is w s).mono fun e w' h => by have := h.1; rw [hnc] at this; exact ⟨this, h.2⟩)
  have T1 := Lib.hid (fun w => mact_is w m hm om)
  have T2 := Lib.hid (fun w => rmact_is w m hm om)
  have T3 := Lib.hid (fun w => esit_is w x hx ox)
  have T4 := Lib.hid (fun w => resit_is w x hx ox)
  generalize strOfNums (prK m 6) = sm at *
  generalize strOfNums (prK x 10) = sx at *
  clear hna hnc
  have hM := (Blk.new w 23 (u8s m).toArray).alloc (.cells (u8s x).toArray 25)
  have hX := Blk.new (w.alloc (.cells (u8s m).toArray 23)) 25 (u8s x).toArray
  rw [show (w.alloc (.cells (u8s m).toArray 23)).heap.size = w.heap.size + 1 by simp] at hX
  have HM := Lib.hid hM
  have HX := Lib.hid hX
  have HL : Hid (Below w.heap.size w ((w.alloc (.cells (u8s m).toArray 23)).alloc (.cells (u8s x).toArray 25))) := Lib.hid (((Below.refl w.heap.size w).alloc (Nat.le_refl _) _).alloc (by simp) _)
  clear hM hX
  go_enter Tryd.func3, Tryd.ntmps3
  go_wp2_with fail
  refine (P1.out _).mono ?_
  rintro e w1 ⟨rfl, hB⟩
  have HM1 := Lib.hid (HM.out.below hB HM.out.lt)
  have HX1 := Lib.hid (HX.out.below hB HX.out.lt)
  have HL1 := Lib.hid (HL.out.trans (hB.mono HL.out.size))
  clear hB HM HX HL P1
  have hq1 : Below w1.heap.size w1 ((w1.alloc (.cells zmac 23)).setRow w1.heap.size (u8s a).toArray) := ((Below.refl _ w1).alloc (Nat.le_refl _) _).trans (below_setRow _ _ _ (Nat.le_refl _))
  have HMS1 := Lib.hid (HM1.out.below hq1 HM1.out.lt)
  have HXS1 := Lib.hid (HX1.out.below hq1 HX1.out.lt)
  have HAS1 := Lib.hid (Blk.setRow (Blk.new w1 23 zmac) (u8s a).toArray)
  have HLS1 := Lib.hid (HL1.out.trans (hq1.mono HL1.out.size))
  clear hq1 HM1 HX1 HL1
  go_wp2_with (refine mac_store rfl _ _ rfl w1.heap.size a hal rfl rfl 23 zmac (Blk.new w1 23 zmac) rfl ?_)
  refine (P2.out _).mono ?_
  rintro e w2 ⟨rfl, hB⟩
  have HM2 := Lib.hid (HMS1.out.below hB HMS1.out.lt)
  have HX2 := Lib.hid (HXS1.out.below hB HXS1.out.lt)
  have HA2 := Lib.hid (HAS1.out.below hB HAS1.out.lt)
  have HL2 := Lib.hid (HLS1.out.trans (hB.mono HLS1.out.size))
  clear hB HLS1 P2 HMS1 HXS1 HAS1
  have hq2 : Below w2.heap.size w2 ((w2.alloc (.cells zmac 23)).setRow w2.heap.size (u8s a).toArray) := ((Below.refl _ w2).alloc (Nat.le_refl _) _).trans (below_setRow _ _ _ (Nat.le_refl _))
  have HMS2 := Lib.hid (HM2.out.below hq2 HM2.out.lt)
  have HXS2 := Lib.hid (HX2.out.below hq2 HX2.out.lt)
  have HAS2 := Lib.hid (HA2.out.below hq2 HA2.out.lt)
  have HBS2 := Lib.hid (Blk.setRow (Blk.new w2 23 zmac) (u8s a).toArray)
  have HLS2 := Lib.hid (HL2.out.trans (hq2.mono HL2.out.size))
  clear hq2 HM2 HX2 HA2 HL2
  go_wp2_with (refine mac_store rfl _ _ rfl w2.heap.size a hal rfl rfl 23 zmac (Blk.new w2 23 zmac) rfl ?_)
  refine (P3.out _).mono ?_
  rintro e w3 ⟨rfl, hB⟩
  have HM3 := Lib.hid (HMS2.out.below hB HMS2.out.lt)
  have HX3 := Lib.hid (HXS2.out.below hB HXS2.out.lt)
  have HA3 := Lib.hid (HAS2.out.below hB HAS2.out.lt)
  have HB3 := Lib.hid (HBS2.out.below hB HBS2.out.lt)
  have HL3 := Lib.hid (HLS2.out.trans (hB.mono HLS2.out.size))
  clear hB HLS2 P3 HMS2 HXS2 HAS2 HBS2
  have hq3 : Below w3.heap.size w3 ((w3.alloc (.cells zesi 25)).setRow w3.heap.size (u8s c).toArray) := ((Below.refl _ w3).alloc (Nat.le_refl _) _).trans (below_setRow _ _ _ (Nat.le_refl _))
  have HMS3 := Lib.hid (HM3.out.below hq3 HM3.out.lt)
  have HXS3 := Lib.hid (HX3.out.below hq3 HX3.out.lt)
  have HAS3 := Lib.hid (HA3.out.below hq3 HA3.out.lt)
  have HBS3 := Lib.hid (HB3.out.below hq3 HB3.out.lt)
  have HCS3 := Lib.hid (Blk.setRow (Blk.new w3 25 zesi) (u8s c).toArray)
  have HLS3 := Lib.hid (HL3.out.trans (hq3.mono HL3.out.size))
  clear hq3 HM3 HX3 HA3 HB3 HL3
  go_wp2_with (refine esi_store rfl _ _ rfl w3.heap.size c hcl rfl rfl 25 zesi (Blk.new w3 25 zesi) rfl ?_)
  refine (P4.out _).mono ?_
  rintro e w4 ⟨rfl, hB⟩
  have HM4 := Lib.hid (HMS3.out.below hB HMS3.out.lt)
  have HX4 := Lib.hid (HXS3.out.below hB HXS3.out.lt)
  have HA4 := Lib.hid (HAS3.out.below hB HAS3.out.lt)
  have HB4 := Lib.hid (HBS3.out.below hB HBS3.out.lt)
  have HC4 := Lib.hid (HCS3.out.below hB HCS3.out.lt)
  have HL4 := Lib.hid (HLS3.out.trans (hB.mono HLS3.out.size))
  clear hB HLS3 P4 HMS3 HXS3 HAS3 HBS3 HCS3
  have hq4 : Below w4.heap.size w4 ((w4.alloc (.cells zesi 25)).setRow w4.heap.size (u8s c).toArray) := ((Below.refl _ w4).alloc (Nat.le_refl _) _).trans (below_setRow _ _ _ (Nat.le_refl _))
  have HMS4 := Lib.hid (HM4.out.below hq4 HM4.out.lt)
  have HXS4 := Lib.hid (HX4.out.below hq4 HX4.out.lt)
  have HAS4 := Lib.hid (HA4.out.below hq4 HA4.out.lt)
  have HBS4 := Lib.hid (HB4.out.below hq4 HB4.out.lt)
  have HCS4 := Lib.hid (HC4.out.below hq4 HC4.out.lt)
  have HDS4 := Lib.hid (Blk.setRow (Blk.new w4 25 zesi) (u8s c).toArray)
  have HLS4 := Lib.hid (HL4.out.trans (hq4.mono HL4.out.size))
  clear hq4 HM4 HX4 HA4 HB4 HC4 HL4
  go_wp2_with (refine esi_store rfl _ _ rfl w4.heap.size c hcl rfl rfl 25 zesi (Blk.new w4 25 zesi) rfl ?_)
  have HS := Lib.hid (⟨HMS4.out, HXS4.out, HAS4.out, HBS4.out, HCS4.out, HDS4.out, HLS4.out⟩ : StC w _ w1.heap.size w2.heap.size w3.heap.size w4.heap.size m x a c)
  clear HMS4 HXS4 HAS4 HBS4 HCS4 HDS4 HLS4
  have q1 : ∀ W, (binOp .eql 23 (.agg (u8s a).toArray) (.agg (u8s a).toArray)).run Tryd.prog W = .ok (.bool true) W := fun W => run_eql_u8s (P := Tryd.prog) (t := 23) (e := 5) (n := 6) (by kernel_rfl) Tryd.underlying23 Tryd.underlying5 (by kernel_rfl) (by kernel_rfl) a a hal hal oa oa true (by simp) W
  have q2 : ∀ W, (binOp .eql 25 (.agg (u8s c).toArray) (.agg (u8s c).toArray)).run Tryd.prog W = .ok (.bool true) W := fun W => run_eql_u8s (P := Tryd.prog) (t := 25) (e := 5) (n := 10) (by kernel_rfl) Tryd.underlying25 Tryd.underlying5 (by kernel_rfl) (by kernel_rfl) c c hcl hcl oc oc true (by simp) W
  generalize (w4.alloc (.cells zesi 25)).setRow w4.heap.size (u8s c).toArray = w5 at *
  refine wp_region_held_drew (S := fun w' => StC w w' w1.heap.size w2.heap.size w3.heap.size w4.heap.size m x a c) (by kernel_rfl) (HS.out.on (below_drewN (Below.refl _ _) 1)) (fun hS => ?_)
  clear HS
  refine wpAnyH_take (i := 0) (oi := ⟨some 35, _, _, _, _, _⟩) rfl (by kernel_rfl) (by kernel_rfl) (by kernel_rfl) (fun _ _ _ h => h) (yieldsIf_load_mid (by rfl) 23 _ rfl _ _ rfl (u8s m) _ (fun wq hq => hq.m.range) Tryd.underlying23 rfl (by simpa using mac_size m hm)) hS ?_
  try simp only [Act.put, List.setIfInBounds_toArray, List.set_cons_zero, List.set_cons_succ]
  refine wpAnyH_take (i := 2) (oi := ⟨some 37, _, _, _, _, _⟩) rfl (by kernel_rfl) (by kernel_rfl) (by kernel_rfl) (fun _ _ _ h => h) (yieldsIf_load_mid (by rfl) 23 _ rfl _ _ rfl (u8s m) _ (fun wq hq => hq.m.range) Tryd.underlying23 rfl (by simpa using mac_size m hm)) hS ?_
  try simp only [Act.put, List.setIfInBounds_toArray, List.set_cons_zero, List.set_cons_succ]
  refine wpAnyH_ready (rs := [1]) (by kernel_rfl) (by simp) ?_
  refine AllReadyH.cons (o := ⟨some 36, _, _, _, _, _⟩) rfl (fun K hK => ?_) AllReadyH.nil
  rw [if_pos (by rfl)]
  go_wp2_with fail
  refine (T1.out _).mono ?_
  rintro e v36 ⟨rfl, hB⟩
  have hS36 := hS.on hB
  clear hB hS
  refine hK.out _ _ (hS36) (fun hS => ?_)
  clear hK K
  try simp only [Act.put, List.setIfInBounds_toArray, List.set_cons_zero, List.set_cons_succ]
  clear hS36
  refine wpAnyH_ready (rs := [3]) (by kernel_rfl) (by simp) ?_
  refine AllReadyH.cons (o := ⟨some 38, _, _, _, _, _⟩) rfl (fun K hK => ?_) AllReadyH.nil
  rw [if_pos (by rfl)]
  go_wp2_with fail
  refine (T2.out _).mono ?_
  rintro e v38 ⟨rfl, hB⟩
  have hS38 := hS.on hB
  clear hB hS
  refine hK.out _ _ (hS38) (fun hS => ?_)
  clear hK K
  try simp only [Act.put, List.setIfInBounds_toArray, List.set_cons_zero, List.set_cons_succ]
  clear hS38
  refine wpAnyH_take (i := 4) (oi := ⟨some 39, _, _, _, _, _⟩) (v := ?_) rfl (by kernel_rfl) (by kernel_rfl) (by kernel_rfl) (fun _ _ _ h => h) (Or.inl ⟨by rfl, ?_⟩) hS ?_
  rotate_left
  · intro wq hq
    first | (go_simp; done) | (go_simp; rfl)
  try simp only [Act.put, List.setIfInBounds_toArray, List.set_cons_zero, List.set_cons_succ]
  refine wpAnyH_take (i := 5) (oi := ⟨some 40, _, _, _, _, _⟩) (v := ?_) rfl (by kernel_rfl) (by kernel_rfl) (by kernel_rfl) (fun _ _ _ h => h) (Or.inl ⟨by rfl, ?_⟩) hS ?_
  rotate_left
  · intro wq hq
    first | (go_simp; done) | (go_simp; rfl)
  try simp only [Act.put, List.setIfInBounds_toArray, List.set_cons_zero, List.set_cons_succ]
  refine wpAnyH_take (i := 6) (oi := ⟨some 41, _, _, _, _, _⟩) rfl (by kernel_rfl) (by kernel_rfl) (by kernel_rfl) (fun _ _ _ h => h) (yieldsIf_load_mid (by rfl) 25 _ rfl _ _ rfl (u8s x) _ (fun wq hq => hq.x.range) Tryd.underlying25 rfl (by simpa using esi_size x hx)) hS ?_
  try simp only [Act.put, List.setIfInBounds_toArray, List.set_cons_zero, List.set_cons_succ]
  refine wpAnyH_take (i := 8) (oi := ⟨some 43, _, _, _, _, _⟩) rfl (by kernel_rfl) (by kernel_rfl) (by kernel_rfl) (fun _ _ _ h => h) (yieldsIf_load_mid (by rfl) 25 _ rfl _ _ rfl (u8s x) _ (fun wq hq => hq.x.range) Tryd.underlying25 rfl (by simpa using esi_size x hx)) hS ?_
  try simp only [Act.put, List.setIfInBounds_toArray, List.set_cons_zero, List.set_cons_succ]
  refine wpAnyH_ready (rs := [7]) (by kernel_rfl) (by simp) ?_
  refine AllReadyH.cons (o := ⟨some 42, _, _, _, _, _⟩) rfl (fun K hK => ?_) AllReadyH.nil
  rw [if_pos (by rfl)]
  go_wp2_with fail
  refine (T3.out _).mono ?_
  rintro e v42 ⟨rfl, hB⟩
  have hS42 := hS.on hB
  clear hB hS
  refine hK.out _ _ (hS42) (fun hS => ?_)
  clear hK K
  try simp only [Act.put, List.setIfInBounds_toArray, List.set_cons_zero, List.set_cons_succ]
  clear hS42
  refine wpAnyH_ready (rs := [9]) (by kernel_rfl) (by simp) ?_
  refine AllReadyH.cons (o := ⟨some 44, _, _, _, _, _⟩) rfl (fun K hK => ?_) AllReadyH.nil
  rw [if_pos (by rfl)]
  go_wp2_with fail
  refine (T4.out _).mono ?_
  rintro e v44 ⟨rfl, hB⟩
  have hS44 := hS.on hB
  clear hB hS
  refine hK.out _ _ (hS44) (fun hS => ?_)
  clear hK K
  try simp only [Act.put, List.setIfInBounds_toArray, List.set_cons_zero, List.set_cons_succ]
  clear hS44
  refine wpAnyH_take (i := 10) (oi := ⟨some 45, _, _, _, _, _⟩) (v := ?_) rfl (by kernel_rfl) (by kernel_rfl) (by kernel_rfl) (fun _ _ _ h => h) (Or.inl ⟨by rfl, ?_⟩) hS ?_
  rotate_left
  · intro wq hq
    first | (go_simp; done) | (go_simp; rfl)
  try simp only [Act.put, List.setIfInBounds_toArray, List.set_cons_zero, List.set_cons_succ]
  refine wpAnyH_take (i := 11) (oi := ⟨some 46, _, _, _, _, _⟩) (v := ?_) rfl (by kernel_rfl) (by kernel_rfl) (by kernel_rfl) (fun _ _ _ h => h) (Or.inl ⟨by rfl, ?_⟩) hS ?_
  rotate_left
  · intro wq hq
    first | (go_simp; done) | (go_simp; rfl)
  try simp only [Act.put, List.setIfInBounds_toArray, List.set_cons_zero, List.set_cons_succ]
  refine wpAnyH_take (i := 12) (oi := ⟨some 47, _, _, _, _, _⟩) (v := ?_) rfl (by kernel_rfl) (by kernel_rfl) (by kernel_rfl) (fun _ _ _ h => h) (Or.inl ⟨by rfl, ?_⟩) hS ?_
  rotate_left
  · intro wq hq
    first | (go_simp; done) | (go_simp; rfl)
  try simp only [Act.put, List.setIfInBounds_toArray, List.set_cons_zero, List.set_cons_succ]
  refine wpAnyH_take (i := 13) (oi := ⟨some 48, _, _, _, _, _⟩) rfl (by kernel_rfl) (by kernel_rfl) (by kernel_rfl) (fun _ _ _ h => h) (yieldsIf_load_mid (by rfl) 23 _ rfl _ _ rfl (u8s a) _ (fun wq hq => hq.a.range) Tryd.underlying23 rfl (by simpa using mac_size a hal)) hS ?_
  try simp only [Act.put, List.setIfInBounds_toArray, List.set_cons_zero, List.set_cons_succ]
  refine wpAnyH_take (i := 14) (oi := ⟨some 49, _, _, _, _, _⟩) rfl (by kernel_rfl) (by kernel_rfl) (by kernel_rfl) (fun _ _ _ h => h) (yieldsIf_load_mid (by rfl) 23 _ rfl _ _ rfl (u8s a) _ (fun wq hq => hq.b.range) Tryd.underlying23 rfl (by simpa using mac_size a hal)) hS ?_
  try simp only [Act.put, List.setIfInBounds_toArray, List.set_cons_zero, List.set_cons_succ]
  refine wpAnyH_take (i := 15) (oi := ⟨some 50, _, _, _, _, _⟩) (v := ?_) rfl (by kernel_rfl) (by kernel_rfl) (by kernel_rfl) (fun _ _ _ h => h) (Or.inl ⟨by rfl, ?_⟩) hS ?_
  rotate_left
  · intro wq hq
    first | (go_simp; done) | (go_simp; rfl)
  try simp only [Act.put, List.setIfInBounds_toArray, List.set_cons_zero, List.set_cons_succ]
  refine wpAnyH_take (i := 16) (oi := ⟨some 51, _, _, _, _, _⟩) (v := ?_) rfl (by kernel_rfl) (by kernel_rfl) (by kernel_rfl) (fun _ _ _ h => h) (Or.inl ⟨by rfl, ?_⟩) hS ?_
  rotate_left
  · intro wq hq
    first | (go_simp; done) | (go_simp; rfl)
  try simp only [Act.put, List.setIfInBounds_toArray, List.set_cons_zero, List.set_cons_succ]
  refine wpAnyH_take (i := 17) (oi := ⟨some 52, _, _, _, _, _⟩) (v := ?_) rfl (by kernel_rfl) (by kernel_rfl) (by kernel_rfl) (fun _ _ _ h => h) (Or.inl ⟨by rfl, ?_⟩) hS ?_
  rotate_left
  · intro wq hq
    first | (go_simp; done) | (go_simp; rfl)
  try simp only [Act.put, List.setIfInBounds_toArray, List.set_cons_zero, List.set_cons_succ]
  refine wpAnyH_take (i := 18) (oi := ⟨some 53, _, _, _, _, _⟩) (v := ?_) rfl (by kernel_rfl) (by kernel_rfl) (by kernel_rfl) (fun _ _ _ h => h) (Or.inl ⟨by rfl, ?_⟩) hS ?_
  rotate_left
  · intro wq hq
    first | (go_simp; done) | (go_simp; rfl)
  try simp only [Act.put, List.setIfInBounds_toArray, List.set_cons_zero, List.set_cons_succ]
  refine wpAnyH_take (i := 19) (oi := ⟨some 54, _, _, _, _, _⟩) (v := ?_) rfl (by kernel_rfl) (by kernel_rfl) (by kernel_rfl) (fun _ _ _ h => h) (Or.inl ⟨by rfl, ?_⟩) hS ?_
  rotate_left
  · intro wq hq
    first | (go_simp; done) | (go_simp; rfl)
  try simp only [Act.put, List.setIfInBounds_toArray, List.set_cons_zero, List.set_cons_succ]
  refine wpAnyH_take (i := 20) (oi := ⟨some 55, _, _, _, _, _⟩) (v := ?_) rfl (by kernel_rfl) (by kernel_rfl) (by kernel_rfl) (fun _ _ _ h => h) (Or.inl ⟨by rfl, ?_⟩) hS ?_
  rotate_left
  · intro wq hq
    first | (go_simp; done) | (go_simp; rfl)
  try simp only [Act.put, List.setIfInBounds_toArray, List.set_cons_zero, List.set_cons_succ]
  refine wpAnyH_take (i := 21) (oi := ⟨some 56, _, _, _, _, _⟩) (v := ?_) rfl (by kernel_rfl) (by kernel_rfl) (by kernel_rfl) (fun _ _ _ h => h) (Or.inl ⟨by rfl, ?_⟩) hS ?_
  rotate_left
  · intro wq hq
    first | (go_simp; done) | (go_simp; rfl)
  try simp only [Act.put, List.setIfInBounds_toArray, List.set_cons_zero, List.set_cons_succ]
  refine wpAnyH_take (i := 22) (oi := ⟨some 57, _, _, _, _, _⟩) (v := ?_) rfl (by kernel_rfl) (by kernel_rfl) (by kernel_rfl) (fun _ _ _ h => h) (Or.inl ⟨by rfl, ?_⟩) hS ?_
  rotate_left
  · intro wq hq
    first | (go_simp; done) | (go_simp; rfl)
  try simp only [Act.put, List.setIfInBounds_toArray, List.set_cons_zero, List.set_cons_succ]
  refine wpAnyH_take (i := 23) (oi := ⟨some 58, _, _, _, _, _⟩) rfl (by kernel_rfl) (by kernel_rfl) (by kernel_rfl) (fun _ _ _ h => h) (yieldsIf_load_mid (by rfl) 25 _ rfl _ _ rfl (u8s c) _ (fun wq hq => hq.c.range) Tryd.underlying25 rfl (by simpa using esi_size c hcl)) hS ?_
  try simp only [Act.put, List.setIfInBounds_toArray, List.set_cons_zero, List.set_cons_succ]
  refine wpAnyH_take (i := 24) (oi := ⟨some 59, _, _, _, _, _⟩) rfl (by kernel_rfl) (by kernel_rfl) (by kernel_rfl) (fun _ _ _ h => h) (yieldsIf_load_mid (by rfl) 25 _ rfl _ _ rfl (u8s c) _ (fun wq hq => hq.d.range) Tryd.underlying25 rfl (by simpa using esi_size c hcl)) hS ?_
  try simp only [Act.put, List.setIfInBounds_toArray, List.set_cons_zero, List.set_cons_succ]
  refine wpAnyH_take (i := 25) (oi := ⟨some 60, _, _, _, _, _⟩) (v := ?_) rfl (by kernel_rfl) (by kernel_rfl) (by kernel_rfl) (fun _ _ _ h => h) (Or.inl ⟨by rfl, ?_⟩) hS ?_
  rotate_left
  · intro wq hq
    first | (go_simp; done) | (go_simp; rfl)
  try simp only [Act.put, List.setIfInBounds_toArray, List.set_cons_zero, List.set_cons_succ]
  refine wpAnyH_take (i := 26) (oi := ⟨some 61, _, _, _, _, _⟩) (v := ?_) rfl (by kernel_rfl) (by kernel_rfl) (by kernel_rfl) (fun _ _ _ h => h) (Or.inl ⟨by rfl, ?_⟩) hS ?_
  rotate_left
  · intro wq hq
    first | (go_simp; done) | (go_simp; rfl)
  try simp only [Act.put, List.setIfInBounds_toArray, List.set_cons_zero, List.set_cons_succ]
  refine wpAnyH_take (i := 27) (oi := ⟨some 62, _, _, _, _, _⟩) (v := ?_) rfl (by kernel_rfl) (by kernel_rfl) (by kernel_rfl) (fun _ _ _ h => h) (Or.inl ⟨by rfl, ?_⟩) hS ?_
  rotate_left
  · intro wq hq
    first | (go_simp; done) | (go_simp; rfl)
  try simp only [Act.put, List.setIfInBounds_toArray, List.set_cons_zero, List.set_cons_succ]
  refine wpAnyH_take (i := 28) (oi := ⟨some 63, _, _, _, _, _⟩) (v := ?_) rfl (by kernel_rfl) (by kernel_rfl) (by kernel_rfl) (fun _ _ _ h => h) (Or.inl ⟨by rfl, ?_⟩) hS ?_
  rotate_left
  · intro wq hq
    first | (go_simp; done) | (go_simp; rfl)
  try simp only [Act.put, List.setIfInBounds_toArray, List.set_cons_zero, List.set_cons_succ]
  refine wpAnyH_take (i := 29) (oi := ⟨some 64, _, _, _, _, _⟩) (v := ?_) rfl (by kernel_rfl) (by kernel_rfl) (by kernel_rfl) (fun _ _ _ h => h) (Or.inl ⟨by rfl, ?_⟩) hS ?_
  rotate_left
  · intro wq hq
    first | (go_simp; done) | (go_simp; rfl)
  try simp only [Act.put, List.setIfInBounds_toArray, List.set_cons_zero, List.set_cons_succ]
  refine wpAnyH_take (i := 30) (oi := ⟨some 65, _, _, _, _, _⟩) (v := ?_) rfl (by kernel_rfl) (by kernel_rfl) (by kernel_rfl) (fun _ _ _ h => h) (Or.inl ⟨by rfl, ?_⟩) hS ?_
  rotate_left
  · intro wq hq
    first | (go_simp; done) | (go_simp; rfl)
  try simp only [Act.put, List.setIfInBounds_toArray, List.set_cons_zero, List.set_cons_succ]
  refine wpAnyH_take (i := 31) (oi := ⟨some 66, _, _, _, _, _⟩) (v := ?_) rfl (by kernel_rfl) (by kernel_rfl) (by kernel_rfl) (fun _ _ _ h => h) (Or.inl ⟨by rfl, ?_⟩) hS ?_
  rotate_left
  · intro wq hq
    first | (go_simp; done) | (go_simp; rfl)
  try simp only [Act.put, List.setIfInBounds_toArray, List.set_cons_zero, List.set_cons_succ]
  refine wpAnyH_take (i := 32) (oi := ⟨some 67, _, _, _, _, _⟩) (v := ?_) rfl (by kernel_rfl) (by kernel_rfl) (by kernel_rfl) (fun _ _ _ h => h) (Or.inl ⟨by rfl, ?_⟩) hS ?_
  rotate_left
  · intro wq hq
    first | (go_simp; done) | (go_simp; rfl)
  try simp only [Act.put, List.setIfInBounds_toArray, List.set_cons_zero, List.set_cons_succ]
  refine wpAnyH_ready (rs := [33]) (by kernel_rfl) (by simp) ?_
  refine AllReadyH.cons (o := ⟨some 68, _, _, _, _, _⟩) rfl (fun K hK => ?_) AllReadyH.nil
  rw [if_pos (by rfl)]
  go_wp2_with fail
  refine (alive_is _ (E.below hS.low)).mono ?_
  rintro e v68 ⟨rfl, hB⟩
  have hS68 := hS.on hB
  clear hB hS
  refine hK.out _ _ (hS68) (fun hS => ?_)
  clear hK K
  try simp only [Act.put, List.setIfInBounds_toArray, List.set_cons_zero, List.set_cons_succ]
  clear hS68
  refine wpAnyH_take (i := 34) (oi := ⟨some 69, _, _, _, _, _⟩) (v := ?_) rfl (by kernel_rfl) (by kernel_rfl) (by kernel_rfl) (fun _ _ _ h => h) (Or.inl ⟨by rfl, ?_⟩) hS ?_
  rotate_left
  · intro wq hq
    first | (go_simp; done) | (go_simp; rfl)
  try simp only [Act.put, List.setIfInBounds_toArray, List.set_cons_zero, List.set_cons_succ]
  refine wpAnyH_take (i := 35) (oi := ⟨some 6, _, _, _, _, _⟩) (v := ?_) rfl (by kernel_rfl) (by kernel_rfl) (by kernel_rfl) (fun _ _ _ h => h) (Or.inl ⟨by rfl, ?_⟩) hS ?_
  rotate_left
  · intro wq hq
    first | (go_simp; done) | (go_simp; rfl)
  try simp only [Act.put, List.setIfInBounds_toArray, List.set_cons_zero, List.set_cons_succ]
  refine wpAnyH_done (by kernel_rfl) ?_ _
  have HF := Lib.hid hS.low
  clear hS
  go_wp2
  go_ret
  exact ⟨rfl, HF.out⟩
end Go.Proofs.YtoacmeijfipniaaDoor
