/-
  Layer 4 (comm): communities with a card are made.
-/
import Derived.Test.YtkaimdcepnhkdaaDoorComC
namespace Go.Proofs.YtkaimdcepnhkdaaDoor
open Go.RowKit
set_option linter.unusedSimpArgs false
set_option linter.unusedVariables false

theorem src8' {w : World} {g : Nat} {t : TypeId} {l : List Int} (h : Blk w g t (u8s l).toArray) : ∀ (j : Nat) (v : Value), (u8s l)[j]? = some v → w.cell? ((⟨g, 0, none⟩ : Addr).add j) = some v := by
  intro j v hv
  have e : (⟨g, 0, none⟩ : Addr).add j = ⟨g, j, none⟩ := by unfold Addr.add; split <;> simp_all
  rw [e, h.cell]
  simpa using hv
def withM (x y : Int) (m : List Int) : List Int := x :: y :: m
theorem withM_len (x y : Int) (m : List Int) (h : m.length = 6) : (withM x y m).length = 8 := by simp [withM, h]
set_option maxRecDepth 100000 in
/-- 'copy(c[2:], m[:])'. -/
theorem copy_mac (w : World) (g g2 : Nat) (x y : Int) (m : List Int) (hm : m.length = 6) (hb : Blk w g 52 (u8s [x, y, 0, 0, 0, 0, 0, 0]).toArray) (hs : Blk w g2 49 (u8s m).toArray) (ty : TypeId) :
    (Builtin.copy_ #[79, 79] ty #[.slice (some ⟨g, 2, none⟩) 6 6, .slice (some ⟨g2, 0, none⟩) 6 6]).run Tryd.prog w = .ok (.int .i64 6) (w.setRow g (u8s (withM x y m)).toArray) := by
  have h := run_copy_row (P := Tryd.prog) w 79 79 ty 5 g 2 6 6 ⟨g2, 0, none⟩ 6 6 (u8s [x, y, 0, 0, 0, 0, 0, 0]).toArray 52 (u8s m) Tryd.underlying79 (by kernel_rfl) hb (by simp [hm]) (src8' hs) (by simp [hm]) (u8s_one1 m)
  rw [show (u8s m).length = 6 by simp [hm]] at h
  refine h.trans ?_
  congr 2
  simp [withM, hm]
theorem Blk.drew' {w : World} {g : Nat} {t : TypeId} {cs : Array Value} (h : Blk w g t cs) (n : Nat) : Blk (w.drewN n) g t cs := h
set_option maxHeartbeats 2000000 in
set_option maxRecDepth 100000 in
theorem mkm_is (w : World) (h : Int) (x y : Int) (m : List Int) (hm : m.length = 6) (h0 : 0 ≤ h) (h1 : h < 4294967296) (hp : put8 z8 0 2 h = [x, y, 0, 0, 0, 0, 0, 0]) :
    Calls Tryd.prog 91 #[.int .u32 h, .agg (u8s m).toArray] w fun e w' => e = .returned (.agg (u8s (withM x y m)).toArray) ∧ Below w.heap.size w w' := by
  have HP := Lib.hid hp
  clear hp
  have hM0 := (Blk.new w 49 (u8s m).toArray).alloc (.cells zc8 52)
  have hR0 := Blk.new (w.alloc (.cells (u8s m).toArray 49)) 52 zc8
  rw [size_a1] at hR0
  have HM0 := Lib.hid hM0
  have HR0 := Lib.hid hR0
  have HL0 : Hid (Below w.heap.size w ((w.alloc (.cells (u8s m).toArray 49)).alloc (.cells zc8 52))) := Lib.hid (((Below.refl w.heap.size w).alloc (Nat.le_refl _) _).alloc (by simp) _)
  clear hM0 hR0
  go_enter Tryd.func91, Tryd.ntmps91
  go_wp2_with fail
  refine (beg_is _ h h0 h1).mono ?_
  rintro e w1 ⟨rfl, hB⟩
  rw [HP.out]
  rw [size_a2] at hB
  have hz := hB.size
  rw [size_a2] at hz
  have HM1 := Lib.hid (((HM0.out.below hB (by omega)).alloc (.cells zc8 52)).below (below_setRow _ w1.heap.size (u8s [x, y, 0, 0, 0, 0, 0, 0]).toArray (Nat.le_refl _)) (by omega))
  have HR1 := Lib.hid (((HR0.out.below hB (by omega)).alloc (.cells zc8 52)).below (below_setRow _ w1.heap.size (u8s [x, y, 0, 0, 0, 0, 0, 0]).toArray (Nat.le_refl _)) (by omega))
  have HC1 := Lib.hid (Blk.setRow (Blk.new w1 52 zc8) (u8s [x, y, 0, 0, 0, 0, 0, 0]).toArray)
  have HL1 := Lib.hid (((HL0.out.trans (hB.mono (by omega))).alloc (by omega) (.cells zc8 52)).trans (below_setRow _ w1.heap.size (u8s [x, y, 0, 0, 0, 0, 0, 0]).toArray (by omega)))
  have HN := Lib.hid (Blk.new w1 52 zc8)
  clear hB HM0 HR0 HL0 HP
  go_wp2_with (refine comm_store rfl _ _ rfl w1.heap.size [x, y, 0, 0, 0, 0, 0, 0] rfl rfl rfl 52 zc8 HN.out rfl ?_)
  generalize (w1.alloc (.cells zc8 52)).setRow w1.heap.size (u8s [x, y, 0, 0, 0, 0, 0, 0]).toArray = w2 at *
  generalize w1.heap.size = g at *
  clear HN
  have hcp := copy_mac w2.drew g w.heap.size x y m hm HC1.out HM1.out 3
  have HR3 : Hid (Blk (w2.drew.setRow g (u8s (withM x y m)).toArray) (w.heap.size + 1) 52 zc8) := Lib.hid ((show Blk w2.drew (w.heap.size + 1) 52 zc8 from HR1.out).below (below_setRow _ g _ (Nat.le_refl _)) (by omega))
  have HC3 : Hid (Blk (w2.drew.setRow g (u8s (withM x y m)).toArray) g 52 (u8s (withM x y m)).toArray) := Lib.hid (Blk.setRow (show Blk w2.drew g 52 _ from HC1.out) _)
  have HL3 : Hid (Below w.heap.size w (w2.drew.setRow g (u8s (withM x y m)).toArray)) := Lib.hid ((below_drewN HL1.out 1).trans (below_setRow _ g _ (by omega)))
  clear HR1 HM1 HC1
  refine wp_region_held_drew (S := fun w' => True) (by kernel_rfl) (trivial) (fun hS => ?_)
  refine wpAnyH_take (i := 0) (oi := ⟨some 8, _, _, _, _, _⟩) (v := ?_) rfl (by kernel_rfl) (by kernel_rfl) (by kernel_rfl) (fun _ _ _ h => h) (Or.inl ⟨by rfl, ?_⟩) hS ?_
  rotate_left
  · intro wq hq
    first | (go_simp; done) | (go_simp; rfl)
  try simp only [Act.put, List.setIfInBounds_toArray, List.set_cons_zero, List.set_cons_succ]
  refine wpAnyH_take (i := 1) (oi := ⟨some 9, _, _, _, _, _⟩) (v := ?_) rfl (by kernel_rfl) (by kernel_rfl) (by kernel_rfl) (fun _ _ _ h => h) (Or.inl ⟨by rfl, ?_⟩) hS ?_
  rotate_left
  · intro wq hq
    first | (go_simp; done) | (go_simp; rfl)
  try simp only [Act.put, List.setIfInBounds_toArray, List.set_cons_zero, List.set_cons_succ]
  refine wpAnyH_ready (rs := [2]) (by kernel_rfl) (by simp) ?_
  refine AllReadyH.cons (o := ⟨some 10, _, _, _, _, _⟩) rfl (fun K hK => ?_) AllReadyH.nil
  rw [if_pos (by rfl)]
  go_wp2
  refine hK.out _ _ trivial (fun hS => ?_)
  clear hK K hcp
  try simp only [Act.put, List.setIfInBounds_toArray, List.set_cons_zero, List.set_cons_succ]
  refine wpAnyH_done (by kernel_rfl) ?_ _
  generalize w2.drew.setRow g (u8s (withM x y m)).toArray = w3 at *
  clear hS
  go_wp2_with (first
    | (refine comm_fetch rfl _ rfl g 0 (withM x y m) (withM_len x y m hm) rfl HC3.out.range ?_)
    | (refine comm_store rfl _ _ rfl (w.heap.size + 1) (withM x y m) (withM_len x y m hm) rfl rfl 52 zc8 HR3.out rfl ?_))
  exact bodyPost_ret (comm_res rfl _ _ (w.heap.size + 1) 52 (withM x y m) (withM_len x y m hm) rfl (Blk.setRow HR3.out _)) rfl ⟨rfl, HL3.out.trans (below_setRow _ _ _ (by omega))⟩
theorem p_imp : put8 z8 0 2 1538 = [6, 2, 0, 0, 0, 0, 0, 0] := by decide
theorem p_rtr : put8 z8 0 2 1539 = [6, 3, 0, 0, 0, 0, 0, 0] := by decide
set_option maxHeartbeats 2000000 in
set_option maxRecDepth 100000 in
theorem mi_is (w : World) (m : List Int) (hm : m.length = 6) :
    Calls Tryd.prog 42 #[.agg (u8s m).toArray] w fun e w' => e = .returned (.agg (u8s (withM 6 2 m)).toArray) ∧ Below w.heap.size w w' := by
  have HM0 := Lib.hid ((Blk.new w 49 (u8s m).toArray).alloc (.cells zc8 52))
  have hR0 := Blk.new (w.alloc (.cells (u8s m).toArray 49)) 52 zc8
  rw [size_a1] at hR0
  have HR0 := Lib.hid hR0
  have HL0 : Hid (Below w.heap.size w ((w.alloc (.cells (u8s m).toArray 49)).alloc (.cells zc8 52))) := Lib.hid (((Below.refl w.heap.size w).alloc (Nat.le_refl _) _).alloc (by simp) _)
  clear hR0
  go_enter Tryd.func42, Tryd.ntmps42
  go_wp2_with (refine mac6_fetch rfl _ rfl w.heap.size 0 m hm rfl HM0.out.range ?_)
  refine (mkm_is _ 1538 6 2 m hm (by decide) (by decide) p_imp).mono ?_
  rintro e w1 ⟨rfl, hB⟩
  rw [size_a2] at hB
  have HR1 := Lib.hid (HR0.out.below hB (by omega))
  have HL1 := Lib.hid (HL0.out.trans (hB.mono (by omega)))
  clear hB HM0 HR0 HL0
  go_wp2_with (refine comm_store rfl _ _ rfl (w.heap.size + 1) (withM 6 2 m) (withM_len 6 2 m hm) rfl rfl 52 zc8 HR1.out rfl ?_)
  exact bodyPost_ret (comm_res rfl _ _ (w.heap.size + 1) 52 (withM 6 2 m) (withM_len 6 2 m hm) rfl (Blk.setRow HR1.out _)) rfl ⟨rfl, HL1.out.trans (below_setRow _ _ _ (by omega))⟩
set_option maxHeartbeats 2000000 in
set_option maxRecDepth 100000 in
theorem mr_is (w : World) (m : List Int) (hm : m.length = 6) :
    Calls Tryd.prog 44 #[.agg (u8s m).toArray] w fun e w' => e = .returned (.agg (u8s (withM 6 3 m)).toArray) ∧ Below w.heap.size w w' := by
  have HM0 := Lib.hid ((Blk.new w 49 (u8s m).toArray).alloc (.cells zc8 52))
  have hR0 := Blk.new (w.alloc (.cells (u8s m).toArray 49)) 52 zc8
  rw [size_a1] at hR0
  have HR0 := Lib.hid hR0
  have HL0 : Hid (Below w.heap.size w ((w.alloc (.cells (u8s m).toArray 49)).alloc (.cells zc8 52))) := Lib.hid (((Below.refl w.heap.size w).alloc (Nat.le_refl _) _).alloc (by simp) _)
  clear hR0
  go_enter Tryd.func44, Tryd.ntmps44
  go_wp2_with (refine mac6_fetch rfl _ rfl w.heap.size 0 m hm rfl HM0.out.range ?_)
  refine (mkm_is _ 1539 6 3 m hm (by decide) (by decide) p_rtr).mono ?_
  rintro e w1 ⟨rfl, hB⟩
  rw [size_a2] at hB
  have HR1 := Lib.hid (HR0.out.below hB (by omega))
  have HL1 := Lib.hid (HL0.out.trans (hB.mono (by omega)))
  clear hB HM0 HR0 HL0
  go_wp2_with (refine comm_store rfl _ _ rfl (w.heap.size + 1) (withM 6 3 m) (withM_len 6 3 m hm) rfl rfl 52 zc8 HR1.out rfl ?_)
  exact bodyPost_ret (comm_res rfl _ _ (w.heap.size + 1) 52 (withM 6 3 m) (withM_len 6 3 m hm) rfl (Blk.setRow HR1.out _)) rfl ⟨rfl, HL1.out.trans (below_setRow _ _ _ (by omega))⟩
end Go.Proofs.YtkaimdcepnhkdaaDoor
