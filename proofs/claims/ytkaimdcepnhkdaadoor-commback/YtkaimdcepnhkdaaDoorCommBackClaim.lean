/-
  CommBack: for every input the law returns true, and each argument reads behind the call as it read before; the library's variables as the program's text lays them.
-/
import Derived.Test.YtkaimdcepnhkdaaDoorMK
import Derived.Test.YtkaimdcepnhkdaaDoorTie
import Derived.Test.YtkaimdcepnhkdaaDoorCards
import Derived.Test.YtkaimdcepnhkdaaDoorMX
import Derived.WalkKit
import Derived.OpenShut
import Derived.ShutString
import Derived.ChangeOld
import Derived.Below
import Derived.LaidOnce
import Derived.SevenTiedAt
namespace Go.Proofs.YtkaimdcepnhkdaaDoor
open Go.RowKit
set_option linter.unusedSimpArgs false
set_option linter.unusedVariables false

set_option maxHeartbeats 2000000 in
set_option maxRecDepth 100000 in
theorem cb_11 (w : World) (E : Env w) (a n : Int) (fg : Bool) (m : List Int) (k : Int) (ha : 0 ≤ a ∧ a ≤ 4294967295) (hn : 0 ≤ n ∧ n ≤ 4294967295) (hm : m.length = 6) (om : Oct m) (hk : 0 ≤ k ∧ k ≤ 65535) (ca : a ≤ 65535) (cl : n ≤ 16777215) :
    Calls Tryd.prog 8 #[.int .u32 a, .int .u32 n, .bool fg, .agg (u8s m).toArray, .int .u16 k] w fun e w' => e = .returned (.bool true) ∧ Below w.heap.size w w' := by
  have hl0 := (Below.refl w.heap.size w).alloc (Nat.le_refl _) (.cells (u8s m).toArray 49)
  have HC : Hid (CM w (w.alloc (.cells (u8s m).toArray 49)) m) := Lib.hid ⟨Blk.new w 49 _, hl0, E.below hl0⟩
  have HO : Hid (mtO a n = some (tgt a n)) := Lib.hid (by unfold mtO; rw [if_pos ca])
  have HR := Lib.hid (rd_tgt4 a n ha.1 ca hn.1 hn.2)
  have ta : (a < 65536) := by omega
  have HL : Hid (mlO fg n = some (lab fg n)) := Lib.hid (by unfold mlO; rw [if_pos cl])
  have HM := Lib.hid (rd_lab fg n hn.1 cl)
  have HE := Lib.hid E
  have hke : k % 4294967296 = k := Int.emod_eq_of_lt hk.1 (by omega)
  clear hl0
  go_enter Tryd.func8, Tryd.ntmps8
  go_wp2_with fail
  refine (mt_at _ a n ha.1 (by omega) hn.1 (by omega) (tgt a n) HO.out).mono ?_
  rintro e w1 ⟨rfl, hB⟩
  have hC := HC.out.below hB
  obtain ⟨b1, s0, s1⟩ := new_comm hC.low (tgt a n)
  have HN1 := Lib.hid (Blk.new w1 52 zc8)
  have HC1 := Lib.hid (hC.below s1)
  have HA1 := Lib.hid b1
  clear hB hC b1 s0 s1 HC
  go_wp2_with (first
    | (refine comm_store rfl _ _ rfl w1.heap.size (tgt a n) (tgt_len a n) rfl rfl 52 zc8 HN1.out rfl ?_)
    | (refine comm_fetch rfl _ rfl w1.heap.size 0 (tgt a n) (tgt_len a n) rfl HA1.out.range ?_))
  refine (rd_isA _ (tgt a n) (tgt_len a n) (tgt_oct a n) ⟨1, 0, a, n, false, z6⟩ HR.out).mono ?_
  rintro e w2 ⟨rfl, hB⟩
  have hC := HC1.out.below hB
  obtain ⟨b1, s0, s1⟩ := new_fd hC.low ⟨1, 0, a, n, false, z6⟩
  have HN2 := Lib.hid (Blk.new w2 63 zfd)
  have HC2 := Lib.hid (hC.below s1)
  have c0 := (FdCell b1).1
  have c1 := (FdCell b1).2.1
  have c2 := (FdCell b1).2.2.1
  have c3 := (FdCell b1).2.2.2.1
  have c4 := (FdCell b1).2.2.2.2
  simp only at c0 c1 c2 c3 c4
  clear hB hC b1 s0 s1 HC1 HA1 HN1
  go_wp2_with (refine fdA_store rfl _ _ rfl w2.heap.size ⟨1, 0, a, n, false, z6⟩ rfl rfl rfl 63 zfd HN2.out rfl ?_)
  clear c0 c1 c2 c3 c4
  refine (ml_at _ fg n hn.1 (by omega) (lab fg n) HL.out).mono ?_
  rintro e w3 ⟨rfl, hB⟩
  have hC := HC2.out.below hB
  obtain ⟨b1, s0, s1⟩ := new_comm hC.low (lab fg n)
  have HN3 := Lib.hid (Blk.new w3 52 zc8)
  have HC3 := Lib.hid (hC.below s1)
  have HA3 := Lib.hid b1
  clear hB hC b1 s0 s1 HC2
  go_wp2_with (first
    | (refine comm_store rfl _ _ rfl w3.heap.size (lab fg n) (lab_len fg n) rfl rfl 52 zc8 HN3.out rfl ?_)
    | (refine comm_fetch rfl _ rfl w3.heap.size 0 (lab fg n) (lab_len fg n) rfl HA3.out.range ?_))
  refine (rd_isA _ (lab fg n) (lab_len fg n) (lab_oct fg n) ⟨3, 0, 0, n, fg, z6⟩ HM.out).mono ?_
  rintro e w4 ⟨rfl, hB⟩
  have hC := HC3.out.below hB
  obtain ⟨b1, s0, s1⟩ := new_fd hC.low ⟨3, 0, 0, n, fg, z6⟩
  have HN4 := Lib.hid (Blk.new w4 63 zfd)
  have HC4 := Lib.hid (hC.below s1)
  have c0 := (FdCell b1).1
  have c1 := (FdCell b1).2.1
  have c2 := (FdCell b1).2.2.1
  have c3 := (FdCell b1).2.2.2.1
  have c4 := (FdCell b1).2.2.2.2
  simp only at c0 c1 c2 c3 c4
  clear hB hC b1 s0 s1 HC3 HA3 HN3
  go_wp2_with (refine fdA_store rfl _ _ rfl w4.heap.size ⟨3, 0, 0, n, fg, z6⟩ rfl rfl rfl 63 zfd HN4.out rfl ?_)
  clear c0 c1 c2 c3 c4
  refine wp_region_held_drew (S := fun w' => CM w w' m) (by kernel_rfl) (⟨HC4.out.mac, below_drewN HC4.out.low 1, HC4.out.env.drewN 1⟩) (fun hS => ?_)
  refine wpAnyH_take (i := 0) (oi := ⟨some 85, _, _, _, _, _⟩) (v := ?_) rfl (by kernel_rfl) (by kernel_rfl) (by kernel_rfl) (fun _ _ _ h => h) (Or.inl ⟨by rfl, ?_⟩) hS ?_
  rotate_left
  · intro wq hq
    first | (go_simp; done) | (go_simp; rfl)
  try simp only [Act.put, List.setIfInBounds_toArray, List.set_cons_zero, List.set_cons_succ]
  refine wpAnyH_take (i := 1) (oi := ⟨some 86, _, _, _, _, _⟩) (v := ?_) rfl (by kernel_rfl) (by kernel_rfl) (by kernel_rfl) (fun _ _ _ h => h) (Or.inl ⟨by rfl, ?_⟩) hS ?_
  rotate_left
  · intro wq hq
    first | (go_simp; done) | (go_simp; rfl)
  try simp only [Act.put, List.setIfInBounds_toArray, List.set_cons_zero, List.set_cons_succ]
  refine wpAnyH_take (i := 4) (oi := ⟨some 89, _, _, _, _, _⟩) rfl (by kernel_rfl) (by kernel_rfl) (by kernel_rfl) (fun _ _ _ h => h) (yieldsIf_load_mid (by rfl) 49 _ rfl _ _ rfl (u8s m) _ (fun wq hq => hq.mac.range) Tryd.underlying49 rfl (by simpa using mac6_size m hm)) hS ?_
  try simp only [Act.put, List.setIfInBounds_toArray, List.set_cons_zero, List.set_cons_succ]
  refine wpAnyH_take (i := 7) (oi := ⟨some 92, _, _, _, _, _⟩) rfl (by kernel_rfl) (by kernel_rfl) (by kernel_rfl) (fun _ _ _ h => h) (yieldsIf_load_mid (by rfl) 49 _ rfl _ _ rfl (u8s m) _ (fun wq hq => hq.mac.range) Tryd.underlying49 rfl (by simpa using mac6_size m hm)) hS ?_
  try simp only [Act.put, List.setIfInBounds_toArray, List.set_cons_zero, List.set_cons_succ]
  refine wpAnyH_take (i := 10) (oi := ⟨some 95, _, _, _, _, _⟩) (v := ?_) rfl (by kernel_rfl) (by kernel_rfl) (by kernel_rfl) (fun _ _ _ h => h) (Or.inl ⟨by rfl, ?_⟩) hS ?_
  rotate_left
  · intro wq hq
    first | (go_simp; done) | (go_simp; rfl)
  try simp only [Act.put, List.setIfInBounds_toArray, List.set_cons_zero, List.set_cons_succ]
  refine wpAnyH_start (fun A L a w1 => ∃ (c2 c3 c5 c6 c8 c9 c11 c12 : Bool) (p0 p1 p2 p3 : Option (Nat × Array Value)) (s17 s18 s19 s20 : Bool), L = #[true, true, c2, c3, true, c5, c6, true, c8, c9, true, c11, c12, p0.isSome, p1.isSome, p2.isSome, p3.isSome, s17, s18, s19, s20] ∧ a = ((((((((((((A.put (some 87) (bif c2 then (.agg (u8s (mob fg n)).toArray) else undef)).put (some 88) (bif c3 then (.agg (fdA ⟨2, 0, 0, n, fg, z6⟩)) else undef)).put (some 90) (bif c5 then (.agg (u8s (withM 6 2 m)).toArray) else undef)).put (some 91) (bif c6 then (.agg (fdA ⟨4, 0, 0, 0, false, m⟩)) else undef)).put (some 93) (bif c8 then (.agg (u8s (withM 6 3 m)).toArray) else undef)).put (some 94) (bif c9 then (.agg (fdA ⟨5, 0, 0, 0, false, m⟩)) else undef)).put (some 96) (bif c11 then (.agg (u8s (enc k)).toArray) else undef)).put (some 97) (bif c12 then (.agg (fdA ⟨6, 0, 0, k, false, z6⟩)) else undef)).put (some 17) (pv p0)).put (some 18) (pv p1)).put (some 19) (pv p2)).put (some 20) (pv p3)) ∧ CM w w1 m ∧ VarsAt w1 (w.heap.size + 1) 63 [p0, p1, p2, p3] ∧ ((∀ x, p0 = some x → x.2 = bif s17 then fdA ⟨2, 0, 0, n, fg, z6⟩ else zfd) ∧ (s17 = true → p0.isSome = true)) ∧ ((∀ x, p1 = some x → x.2 = bif s18 then fdA ⟨4, 0, 0, 0, false, m⟩ else zfd) ∧ (s18 = true → p1.isSome = true)) ∧ ((∀ x, p2 = some x → x.2 = bif s19 then fdA ⟨5, 0, 0, 0, false, m⟩ else zfd) ∧ (s19 = true → p2.isSome = true)) ∧ ((∀ x, p3 = some x → x.2 = bif s20 then fdA ⟨6, 0, 0, k, false, z6⟩ else zfd) ∧ (s20 = true → p3.isSome = true))) ?_ (Nat.le_of_ble_eq_true (by kernel_rfl)) ?_ ?_ ?_
  · exact ⟨false, false, false, false, false, false, false, false, none, none, none, none, false, false, false, false, by kernel_rfl, by kernel_rfl, hS, ⟨fun i x hx => by rcases i with _ | _ | _ | _ | i <;> simp at hx, fun i j x y _ hx _ => by rcases i with _ | _ | _ | _ | i <;> simp at hx⟩, ⟨(fun x h => by cases h), fun h => by cases h⟩, ⟨(fun x h => by cases h), fun h => by cases h⟩, ⟨(fun x h => by cases h), fun h => by cases h⟩, ⟨(fun x h => by cases h), fun h => by cases h⟩⟩
  · rintro L a' w1 ⟨c2, c3, c5, c6, c8, c9, c11, c12, p0, p1, p2, p3, s17, s18, s19, s20, rfl, rfl, hC, hV, h0, h1, h2, h3⟩
    exact hC
  · rintro L a' w1 ⟨c2, c3, c5, c6, c8, c9, c11, c12, p0, p1, p2, p3, s17, s18, s19, s20, rfl, rfl, hC, hV, h0, h1, h2, h3⟩ hr
    obtain rfl : c2 = true := by
      cases c2 with
      | true => rfl
      | false => exact (ready_no hr 2 (show 2 < 21 by decide) _ rfl rfl (by kernel_rfl)).elim
    obtain rfl : c3 = true := by
      cases c3 with
      | true => rfl
      | false => exact (ready_no hr 3 (show 3 < 21 by decide) _ rfl rfl (by kernel_rfl)).elim
    obtain rfl : c5 = true := by
      cases c5 with
      | true => rfl
      | false => exact (ready_no hr 5 (show 5 < 21 by decide) _ rfl rfl (by kernel_rfl)).elim
    obtain rfl : c6 = true := by
      cases c6 with
      | true => rfl
      | false => exact (ready_no hr 6 (show 6 < 21 by decide) _ rfl rfl (by kernel_rfl)).elim
    obtain rfl : c8 = true := by
      cases c8 with
      | true => rfl
      | false => exact (ready_no hr 8 (show 8 < 21 by decide) _ rfl rfl (by kernel_rfl)).elim
    obtain rfl : c9 = true := by
      cases c9 with
      | true => rfl
      | false => exact (ready_no hr 9 (show 9 < 21 by decide) _ rfl rfl (by kernel_rfl)).elim
    obtain rfl : c11 = true := by
      cases c11 with
      | true => rfl
      | false => exact (ready_no hr 11 (show 11 < 21 by decide) _ rfl rfl (by kernel_rfl)).elim
    obtain rfl : c12 = true := by
      cases c12 with
      | true => rfl
      | false => exact (ready_no hr 12 (show 12 < 21 by decide) _ rfl rfl (by kernel_rfl)).elim
    obtain ⟨⟨g0, e0⟩, rfl⟩ : ∃ x, p0 = some x := by
      cases p0 with
      | some x => exact ⟨x, rfl⟩
      | none => exact (ready_no hr 13 (show 13 < 21 by decide) _ rfl rfl (by kernel_rfl)).elim
    obtain ⟨⟨g1, e1⟩, rfl⟩ : ∃ x, p1 = some x := by
      cases p1 with
      | some x => exact ⟨x, rfl⟩
      | none => exact (ready_no hr 14 (show 14 < 21 by decide) _ rfl rfl (by kernel_rfl)).elim
    obtain ⟨⟨g2, e2⟩, rfl⟩ : ∃ x, p2 = some x := by
      cases p2 with
      | some x => exact ⟨x, rfl⟩
      | none => exact (ready_no hr 15 (show 15 < 21 by decide) _ rfl rfl (by kernel_rfl)).elim
    obtain ⟨⟨g3, e3⟩, rfl⟩ : ∃ x, p3 = some x := by
      cases p3 with
      | some x => exact ⟨x, rfl⟩
      | none => exact (ready_no hr 16 (show 16 < 21 by decide) _ rfl rfl (by kernel_rfl)).elim
    obtain rfl : s17 = true := by
      cases s17 with
      | true => rfl
      | false => exact (ready_no hr 17 (show 17 < 21 by decide) _ rfl rfl (by kernel_rfl)).elim
    obtain rfl : s18 = true := by
      cases s18 with
      | true => rfl
      | false => exact (ready_no hr 18 (show 18 < 21 by decide) _ rfl rfl (by kernel_rfl)).elim
    obtain rfl : s19 = true := by
      cases s19 with
      | true => rfl
      | false => exact (ready_no hr 19 (show 19 < 21 by decide) _ rfl rfl (by kernel_rfl)).elim
    obtain rfl : s20 = true := by
      cases s20 with
      | true => rfl
      | false => exact (ready_no hr 20 (show 20 < 21 by decide) _ rfl rfl (by kernel_rfl)).elim
    obtain rfl : e0 = fdA ⟨2, 0, 0, n, fg, z6⟩ := h0.1 _ rfl
    have b0 := (hV.blk 0 _ rfl).2
    obtain rfl : e1 = fdA ⟨4, 0, 0, 0, false, m⟩ := h1.1 _ rfl
    have b1 := (hV.blk 1 _ rfl).2
    obtain rfl : e2 = fdA ⟨5, 0, 0, 0, false, m⟩ := h2.1 _ rfl
    have b2 := (hV.blk 2 _ rfl).2
    obtain rfl : e3 = fdA ⟨6, 0, 0, k, false, z6⟩ := h3.1 _ rfl
    have b3 := (hV.blk 3 _ rfl).2
    have d00 : w1.cell? ⟨g0, 0, none⟩ = some (.int .i64 2) := (FdCell b0).1
    have d03 : w1.cell? ⟨g0, 3, none⟩ = some (.int .u32 n) := (FdCell b0).2.2.2.1
    have d04 : w1.cell? ⟨g0, 4, none⟩ = some (.bool fg) := (FdCell b0).2.2.2.2
    have d10 : w1.cell? ⟨g1, 0, none⟩ = some (.int .i64 4) := (FdCell b1).1
    have d20 : w1.cell? ⟨g2, 0, none⟩ = some (.int .i64 5) := (FdCell b2).1
    have d30 : w1.cell? ⟨g3, 0, none⟩ = some (.int .i64 6) := (FdCell b3).1
    have d33 : w1.cell? ⟨g3, 3, none⟩ = some (.int .u32 k) := (FdCell b3).2.2.2.1
    have HM1 : Hid (w1.rangeAt g1 5 (u8s m)) := Lib.hid (FdMac b1)
    have HM2 : Hid (w1.rangeAt g2 5 (u8s m)) := Lib.hid (FdMac b2)
    have HC9 := Lib.hid hC
    have hme := mac_eq m hm om
    clear hr hV h0 h1 h2 h3 b0 b1 b2 b3 hC
    simp only [cond_true, pv, Act.put, List.setIfInBounds_toArray, List.set_cons_zero, List.set_cons_succ]
    go_wp2_with (first
      | (refine mac6_fetch rfl _ rfl g1 5 m hm rfl HM1.out ?_)
      | (refine mac6_fetch rfl _ rfl g2 5 m hm rfl HM2.out ?_)
      | (refine mac6_fetch rfl _ rfl w.heap.size 0 m hm rfl HC9.out.mac.range ?_))
    refine (alive4_is _ HC9.out.env).mono ?_
    rintro e w9 ⟨rfl, hB⟩
    go_wp2
    go_ret
    exact ⟨rfl, (HC9.out.below hB).low⟩
  · rintro L a' w1 ⟨c2, c3, c5, c6, c8, c9, c11, c12, p0, p1, p2, p3, s17, s18, s19, s20, rfl, rfl, hC, hV, h0, h1, h2, h3⟩ i hi
    obtain ⟨hi1, hi2, hi3⟩ := ready_mem hi
    clear hi
    have hi4 : i = 0 ∨ i = 1 ∨ i = 2 ∨ i = 3 ∨ i = 4 ∨ i = 5 ∨ i = 6 ∨ i = 7 ∨ i = 8 ∨ i = 9 ∨ i = 10 ∨ i = 11 ∨ i = 12 ∨ i = 13 ∨ i = 14 ∨ i = 15 ∨ i = 16 ∨ i = 17 ∨ i = 18 ∨ i = 19 ∨ i = 20 := by
      have : i < 21 := hi1
      omega
    clear hi1
    rcases hi4 with rfl | rfl | rfl | rfl | rfl | rfl | rfl | rfl | rfl | rfl | rfl | rfl | rfl | rfl | rfl | rfl | rfl | rfl | rfl | rfl | rfl
    · exact Bool.noConfusion (show true = false from hi2)
    · exact Bool.noConfusion (show true = false from hi2)
    · obtain rfl : c2 = false := hi2
      refine wpOp_call rfl rfl _ _ (by kernel_rfl) (mm_is _ fg n hn.1 (by omega)) (fun w2 hB => ?_)
      exact ⟨true, c3, c5, c6, c8, c9, c11, c12, p0, p1, p2, p3, s17, s18, s19, s20, by kernel_rfl, by kernel_rfl, hC.below hB, hV.below hB, h0, h1, h2, h3⟩
    · obtain rfl : c3 = false := hi2
      obtain rfl : c2 = true := hi3 _ rfl 0 _ rfl rfl
      refine wpOp_call rfl rfl _ _ (by kernel_rfl) (rd_isA _ (mob fg n) (mob_len fg n) (mob_oct fg n) ⟨2, 0, 0, n, fg, z6⟩ (rd_mob fg n hn.1 hn.2)) (fun w2 hB => ?_)
      exact ⟨true, true, c5, c6, c8, c9, c11, c12, p0, p1, p2, p3, s17, s18, s19, s20, by kernel_rfl, by kernel_rfl, hC.below hB, hV.below hB, h0, h1, h2, h3⟩
    · exact Bool.noConfusion (show true = false from hi2)
    · obtain rfl : c5 = false := hi2
      obtain rfl : c3 = true := hi3 _ rfl 1 _ rfl rfl
      refine wpOp_call rfl rfl _ _ (by kernel_rfl) (mi_is _ m hm) (fun w2 hB => ?_)
      exact ⟨c2, true, true, c6, c8, c9, c11, c12, p0, p1, p2, p3, s17, s18, s19, s20, by kernel_rfl, by kernel_rfl, hC.below hB, hV.below hB, h0, h1, h2, h3⟩
    · obtain rfl : c6 = false := hi2
      obtain rfl : c5 = true := hi3 _ rfl 0 _ rfl rfl
      refine wpOp_call rfl rfl _ _ (by kernel_rfl) (rd_isA _ (withM 6 2 m) (withM_len 6 2 m hm) (withM_oct 6 2 m (by omega) (by omega) om) ⟨4, 0, 0, 0, false, m⟩ (rd_imp m hm)) (fun w2 hB => ?_)
      exact ⟨c2, c3, true, true, c8, c9, c11, c12, p0, p1, p2, p3, s17, s18, s19, s20, by kernel_rfl, by kernel_rfl, hC.below hB, hV.below hB, h0, h1, h2, h3⟩
    · exact Bool.noConfusion (show true = false from hi2)
    · obtain rfl : c8 = false := hi2
      obtain rfl : c6 = true := hi3 _ rfl 1 _ rfl rfl
      refine wpOp_call rfl rfl _ _ (by kernel_rfl) (mr_is _ m hm) (fun w2 hB => ?_)
      exact ⟨c2, c3, c5, true, true, c9, c11, c12, p0, p1, p2, p3, s17, s18, s19, s20, by kernel_rfl, by kernel_rfl, hC.below hB, hV.below hB, h0, h1, h2, h3⟩
    · obtain rfl : c9 = false := hi2
      obtain rfl : c8 = true := hi3 _ rfl 0 _ rfl rfl
      refine wpOp_call rfl rfl _ _ (by kernel_rfl) (rd_isA _ (withM 6 3 m) (withM_len 6 3 m hm) (withM_oct 6 3 m (by omega) (by omega) om) ⟨5, 0, 0, 0, false, m⟩ (rd_rtr m hm)) (fun w2 hB => ?_)
      exact ⟨c2, c3, c5, c6, true, true, c11, c12, p0, p1, p2, p3, s17, s18, s19, s20, by kernel_rfl, by kernel_rfl, hC.below hB, hV.below hB, h0, h1, h2, h3⟩
    · exact Bool.noConfusion (show true = false from hi2)
    · obtain rfl : c11 = false := hi2
      obtain rfl : c9 = true := hi3 _ rfl 1 _ rfl rfl
      refine wpOp_call rfl rfl _ _ (by kernel_rfl) (me_is _ k hk.1 (by omega)) (fun w2 hB => ?_)
      exact ⟨c2, c3, c5, c6, c8, true, true, c12, p0, p1, p2, p3, s17, s18, s19, s20, by kernel_rfl, by kernel_rfl, hC.below hB, hV.below hB, h0, h1, h2, h3⟩
    · obtain rfl : c12 = false := hi2
      obtain rfl : c11 = true := hi3 _ rfl 0 _ rfl rfl
      refine wpOp_call rfl rfl _ _ (by kernel_rfl) (rd_isA _ (enc k) (enc_len k) (enc_oct k) ⟨6, 0, 0, k, false, z6⟩ (rd_enc k hk.1 hk.2)) (fun w2 hB => ?_)
      exact ⟨c2, c3, c5, c6, c8, c9, true, true, p0, p1, p2, p3, s17, s18, s19, s20, by kernel_rfl, by kernel_rfl, hC.below hB, hV.below hB, h0, h1, h2, h3⟩
    · obtain rfl : p0 = none := by
        cases p0 with
        | none => rfl
        | some x => exact Bool.noConfusion (show true = false from hi2)
      obtain rfl : s17 = false := by
        cases s17 with
        | false => rfl
        | true => exact Bool.noConfusion (show false = true from h0.2 rfl)
      have hA : Below w1.heap.size w1 (w1.alloc (.cells zfd 63)) := (Below.refl _ _).alloc (Nat.le_refl _) _
      have hz := hC.mac.lt
      refine wpOp_value rfl rfl (.pointer (some ⟨w1.heap.size, 0, none⟩)) (w1.alloc (.cells zfd 63)) (by kernel_rfl) ?_
      exact ⟨c2, c3, c5, c6, c8, c9, c11, c12, some (w1.heap.size, zfd), p1, p2, p3, false, s18, s19, s20, by kernel_rfl, by kernel_rfl, hC.below hA, hV.alloc (by omega) 0 zfd, ⟨fun x h => by cases h; rfl, fun h => by cases h⟩, h1, h2, h3⟩
    · obtain rfl : p1 = none := by
        cases p1 with
        | none => rfl
        | some x => exact Bool.noConfusion (show true = false from hi2)
      obtain rfl : s18 = false := by
        cases s18 with
        | false => rfl
        | true => exact Bool.noConfusion (show false = true from h1.2 rfl)
      have hA : Below w1.heap.size w1 (w1.alloc (.cells zfd 63)) := (Below.refl _ _).alloc (Nat.le_refl _) _
      have hz := hC.mac.lt
      refine wpOp_value rfl rfl (.pointer (some ⟨w1.heap.size, 0, none⟩)) (w1.alloc (.cells zfd 63)) (by kernel_rfl) ?_
      exact ⟨c2, c3, c5, c6, c8, c9, c11, c12, p0, some (w1.heap.size, zfd), p2, p3, s17, false, s19, s20, by kernel_rfl, by kernel_rfl, hC.below hA, hV.alloc (by omega) 1 zfd, h0, ⟨fun x h => by cases h; rfl, fun h => by cases h⟩, h2, h3⟩
    · obtain rfl : p2 = none := by
        cases p2 with
        | none => rfl
        | some x => exact Bool.noConfusion (show true = false from hi2)
      obtain rfl : s19 = false := by
        cases s19 with
        | false => rfl
        | true => exact Bool.noConfusion (show false = true from h2.2 rfl)
      have hA : Below w1.heap.size w1 (w1.alloc (.cells zfd 63)) := (Below.refl _ _).alloc (Nat.le_refl _) _
      have hz := hC.mac.lt
      refine wpOp_value rfl rfl (.pointer (some ⟨w1.heap.size, 0, none⟩)) (w1.alloc (.cells zfd 63)) (by kernel_rfl) ?_
      exact ⟨c2, c3, c5, c6, c8, c9, c11, c12, p0, p1, some (w1.heap.size, zfd), p3, s17, s18, false, s20, by kernel_rfl, by kernel_rfl, hC.below hA, hV.alloc (by omega) 2 zfd, h0, h1, ⟨fun x h => by cases h; rfl, fun h => by cases h⟩, h3⟩
    · obtain rfl : p3 = none := by
        cases p3 with
        | none => rfl
        | some x => exact Bool.noConfusion (show true = false from hi2)
      obtain rfl : s20 = false := by
        cases s20 with
        | false => rfl
        | true => exact Bool.noConfusion (show false = true from h3.2 rfl)
      have hA : Below w1.heap.size w1 (w1.alloc (.cells zfd 63)) := (Below.refl _ _).alloc (Nat.le_refl _) _
      have hz := hC.mac.lt
      refine wpOp_value rfl rfl (.pointer (some ⟨w1.heap.size, 0, none⟩)) (w1.alloc (.cells zfd 63)) (by kernel_rfl) ?_
      exact ⟨c2, c3, c5, c6, c8, c9, c11, c12, p0, p1, p2, some (w1.heap.size, zfd), s17, s18, s19, false, by kernel_rfl, by kernel_rfl, hC.below hA, hV.alloc (by omega) 3 zfd, h0, h1, h2, ⟨fun x h => by cases h; rfl, fun h => by cases h⟩⟩
    · obtain rfl : s17 = false := hi2
      obtain ⟨⟨g, cs⟩, rfl⟩ : ∃ x, p0 = some x := Option.isSome_iff_exists.1 (show p0.isSome = true from hi3 _ rfl 0 _ rfl rfl)
      obtain rfl : c3 = true := hi3 _ rfl 1 _ rfl rfl
      obtain rfl : cs = zfd := h0.1 _ rfl
      have hb := hV.blk 0 (g, zfd) rfl
      have hg : w.heap.size + 1 ≤ g := hb.1
      have hlow : Below w.heap.size w (w1.setRow g (fdA ⟨2, 0, 0, n, fg, z6⟩)) := hC.low.trans (below_setRow _ _ _ (by omega))
      have hf : (⟨2, 0, 0, n, fg, z6⟩ : Fd).mac.length = 6 := rfl
      refine wpOp_fdA rfl rfl (.tmp 17) (.tmp 88) rfl g ⟨2, 0, 0, n, fg, z6⟩ hf (by kernel_rfl) (by kernel_rfl) zfd hb.2 rfl ?_
      exact ⟨c2, true, c5, c6, c8, c9, c11, c12, some (g, fdA ⟨2, 0, 0, n, fg, z6⟩), p1, p2, p3, true, s18, s19, s20, by kernel_rfl, by kernel_rfl, ⟨hC.mac.setRow_ne _ (by omega), hlow, HE.out.below hlow⟩, hV.set 0 g zfd (fdA ⟨2, 0, 0, n, fg, z6⟩) rfl, ⟨fun x h => by cases h; rfl, fun _ => rfl⟩, h1, h2, h3⟩
    · obtain rfl : s18 = false := hi2
      obtain ⟨⟨g, cs⟩, rfl⟩ : ∃ x, p1 = some x := Option.isSome_iff_exists.1 (show p1.isSome = true from hi3 _ rfl 0 _ rfl rfl)
      obtain rfl : c6 = true := hi3 _ rfl 1 _ rfl rfl
      obtain rfl : cs = zfd := h1.1 _ rfl
      have hb := hV.blk 1 (g, zfd) rfl
      have hg : w.heap.size + 1 ≤ g := hb.1
      have hlow : Below w.heap.size w (w1.setRow g (fdA ⟨4, 0, 0, 0, false, m⟩)) := hC.low.trans (below_setRow _ _ _ (by omega))
      have hf : (⟨4, 0, 0, 0, false, m⟩ : Fd).mac.length = 6 := hm
      refine wpOp_fdA rfl rfl (.tmp 18) (.tmp 91) rfl g ⟨4, 0, 0, 0, false, m⟩ hf (by kernel_rfl) (by kernel_rfl) zfd hb.2 rfl ?_
      exact ⟨c2, c3, c5, true, c8, c9, c11, c12, p0, some (g, fdA ⟨4, 0, 0, 0, false, m⟩), p2, p3, s17, true, s19, s20, by kernel_rfl, by kernel_rfl, ⟨hC.mac.setRow_ne _ (by omega), hlow, HE.out.below hlow⟩, hV.set 1 g zfd (fdA ⟨4, 0, 0, 0, false, m⟩) rfl, h0, ⟨fun x h => by cases h; rfl, fun _ => rfl⟩, h2, h3⟩
    · obtain rfl : s19 = false := hi2
      obtain ⟨⟨g, cs⟩, rfl⟩ : ∃ x, p2 = some x := Option.isSome_iff_exists.1 (show p2.isSome = true from hi3 _ rfl 0 _ rfl rfl)
      obtain rfl : c9 = true := hi3 _ rfl 1 _ rfl rfl
      obtain rfl : cs = zfd := h2.1 _ rfl
      have hb := hV.blk 2 (g, zfd) rfl
      have hg : w.heap.size + 1 ≤ g := hb.1
      have hlow : Below w.heap.size w (w1.setRow g (fdA ⟨5, 0, 0, 0, false, m⟩)) := hC.low.trans (below_setRow _ _ _ (by omega))
      have hf : (⟨5, 0, 0, 0, false, m⟩ : Fd).mac.length = 6 := hm
      refine wpOp_fdA rfl rfl (.tmp 19) (.tmp 94) rfl g ⟨5, 0, 0, 0, false, m⟩ hf (by kernel_rfl) (by kernel_rfl) zfd hb.2 rfl ?_
      exact ⟨c2, c3, c5, c6, c8, true, c11, c12, p0, p1, some (g, fdA ⟨5, 0, 0, 0, false, m⟩), p3, s17, s18, true, s20, by kernel_rfl, by kernel_rfl, ⟨hC.mac.setRow_ne _ (by omega), hlow, HE.out.below hlow⟩, hV.set 2 g zfd (fdA ⟨5, 0, 0, 0, false, m⟩) rfl, h0, h1, ⟨fun x h => by cases h; rfl, fun _ => rfl⟩, h3⟩
    · obtain rfl : s20 = false := hi2
      obtain ⟨⟨g, cs⟩, rfl⟩ : ∃ x, p3 = some x := Option.isSome_iff_exists.1 (show p3.isSome = true from hi3 _ rfl 0 _ rfl rfl)
      obtain rfl : c12 = true := hi3 _ rfl 1 _ rfl rfl
      obtain rfl : cs = zfd := h3.1 _ rfl
      have hb := hV.blk 3 (g, zfd) rfl
      have hg : w.heap.size + 1 ≤ g := hb.1
      have hlow : Below w.heap.size w (w1.setRow g (fdA ⟨6, 0, 0, k, false, z6⟩)) := hC.low.trans (below_setRow _ _ _ (by omega))
      have hf : (⟨6, 0, 0, k, false, z6⟩ : Fd).mac.length = 6 := rfl
      refine wpOp_fdA rfl rfl (.tmp 20) (.tmp 97) rfl g ⟨6, 0, 0, k, false, z6⟩ hf (by kernel_rfl) (by kernel_rfl) zfd hb.2 rfl ?_
      exact ⟨c2, c3, c5, c6, c8, c9, c11, true, p0, p1, p2, some (g, fdA ⟨6, 0, 0, k, false, z6⟩), s17, s18, s19, true, by kernel_rfl, by kernel_rfl, ⟨hC.mac.setRow_ne _ (by omega), hlow, HE.out.below hlow⟩, hV.set 3 g zfd (fdA ⟨6, 0, 0, k, false, z6⟩) rfl, h0, h1, h2, ⟨fun x h => by cases h; rfl, fun _ => rfl⟩⟩
end Go.Proofs.YtkaimdcepnhkdaaDoor
namespace Go.Proofs.YtkaimdcepnhkdaaDoor
open Go.RowKit
set_option linter.unusedSimpArgs false
set_option linter.unusedVariables false

set_option maxHeartbeats 2000000 in
set_option maxRecDepth 100000 in
theorem cb_12 (w : World) (E : Env w) (a n : Int) (fg : Bool) (m : List Int) (k : Int) (ha : 0 ≤ a ∧ a ≤ 4294967295) (hn : 0 ≤ n ∧ n ≤ 4294967295) (hm : m.length = 6) (om : Oct m) (hk : 0 ≤ k ∧ k ≤ 65535) (ca : a ≤ 65535) (cl : ¬ n ≤ 16777215) :
    Calls Tryd.prog 8 #[.int .u32 a, .int .u32 n, .bool fg, .agg (u8s m).toArray, .int .u16 k] w fun e w' => e = .returned (.bool true) ∧ Below w.heap.size w w' := by
  have hl0 := (Below.refl w.heap.size w).alloc (Nat.le_refl _) (.cells (u8s m).toArray 49)
  have HC : Hid (CM w (w.alloc (.cells (u8s m).toArray 49)) m) := Lib.hid ⟨Blk.new w 49 _, hl0, E.below hl0⟩
  have HO : Hid (mtO a n = some (tgt a n)) := Lib.hid (by unfold mtO; rw [if_pos ca])
  have HR := Lib.hid (rd_tgt4 a n ha.1 ca hn.1 hn.2)
  have ta : (a < 65536) := by omega
  have HL : Hid (mlO fg n = none) := Lib.hid (by unfold mlO; rw [if_neg cl])
  have HE := Lib.hid E
  have hke : k % 4294967296 = k := Int.emod_eq_of_lt hk.1 (by omega)
  clear hl0
  go_enter Tryd.func8, Tryd.ntmps8
  go_wp2_with fail
  refine (mt_at _ a n ha.1 (by omega) hn.1 (by omega) (tgt a n) HO.out).mono ?_
  rintro e w1 ⟨rfl, hB⟩
  have hC := HC.out.below hB
  obtain ⟨b1, s0, s1⟩ := new_comm hC.low (tgt a n)
  have HN1 := Lib.hid (Blk.new w1 52 zc8)
  have HC1 := Lib.hid (hC.below s1)
  have HA1 := Lib.hid b1
  clear hB hC b1 s0 s1 HC
  go_wp2_with (first
    | (refine comm_store rfl _ _ rfl w1.heap.size (tgt a n) (tgt_len a n) rfl rfl 52 zc8 HN1.out rfl ?_)
    | (refine comm_fetch rfl _ rfl w1.heap.size 0 (tgt a n) (tgt_len a n) rfl HA1.out.range ?_))
  refine (rd_isA _ (tgt a n) (tgt_len a n) (tgt_oct a n) ⟨1, 0, a, n, false, z6⟩ HR.out).mono ?_
  rintro e w2 ⟨rfl, hB⟩
  have hC := HC1.out.below hB
  obtain ⟨b1, s0, s1⟩ := new_fd hC.low ⟨1, 0, a, n, false, z6⟩
  have HN2 := Lib.hid (Blk.new w2 63 zfd)
  have HC2 := Lib.hid (hC.below s1)
  have c0 := (FdCell b1).1
  have c1 := (FdCell b1).2.1
  have c2 := (FdCell b1).2.2.1
  have c3 := (FdCell b1).2.2.2.1
  have c4 := (FdCell b1).2.2.2.2
  simp only at c0 c1 c2 c3 c4
  clear hB hC b1 s0 s1 HC1 HA1 HN1
  go_wp2_with (refine fdA_store rfl _ _ rfl w2.heap.size ⟨1, 0, a, n, false, z6⟩ rfl rfl rfl 63 zfd HN2.out rfl ?_)
  clear c0 c1 c2 c3 c4
  refine (ml_no _ fg n hn.1 (by omega) HL.out).mono ?_
  rintro e w3 ⟨rfl, hB⟩
  have hC := HC2.out.below hB
  obtain ⟨b1, s0, s1⟩ := new_comm hC.low z8
  have HN3 := Lib.hid (Blk.new w3 52 zc8)
  have HC3 := Lib.hid (hC.below s1)
  clear hB hC b1 s0 s1 HC2
  go_wp2_with (refine comm_store rfl _ _ rfl w3.heap.size z8 rfl rfl rfl 52 zc8 HN3.out rfl ?_)
  refine wp_region_held_drew (S := fun w' => CM w w' m) (by kernel_rfl) (⟨HC3.out.mac, below_drewN HC3.out.low 1, HC3.out.env.drewN 1⟩) (fun hS => ?_)
  refine wpAnyH_take (i := 0) (oi := ⟨some 85, _, _, _, _, _⟩) (v := ?_) rfl (by kernel_rfl) (by kernel_rfl) (by kernel_rfl) (fun _ _ _ h => h) (Or.inl ⟨by rfl, ?_⟩) hS ?_
  rotate_left
  · intro wq hq
    first | (go_simp; done) | (go_simp; rfl)
  try simp only [Act.put, List.setIfInBounds_toArray, List.set_cons_zero, List.set_cons_succ]
  refine wpAnyH_take (i := 1) (oi := ⟨some 86, _, _, _, _, _⟩) (v := ?_) rfl (by kernel_rfl) (by kernel_rfl) (by kernel_rfl) (fun _ _ _ h => h) (Or.inl ⟨by rfl, ?_⟩) hS ?_
  rotate_left
  · intro wq hq
    first | (go_simp; done) | (go_simp; rfl)
  try simp only [Act.put, List.setIfInBounds_toArray, List.set_cons_zero, List.set_cons_succ]
  refine wpAnyH_take (i := 4) (oi := ⟨some 89, _, _, _, _, _⟩) rfl (by kernel_rfl) (by kernel_rfl) (by kernel_rfl) (fun _ _ _ h => h) (yieldsIf_load_mid (by rfl) 49 _ rfl _ _ rfl (u8s m) _ (fun wq hq => hq.mac.range) Tryd.underlying49 rfl (by simpa using mac6_size m hm)) hS ?_
  try simp only [Act.put, List.setIfInBounds_toArray, List.set_cons_zero, List.set_cons_succ]
  refine wpAnyH_take (i := 7) (oi := ⟨some 92, _, _, _, _, _⟩) rfl (by kernel_rfl) (by kernel_rfl) (by kernel_rfl) (fun _ _ _ h => h) (yieldsIf_load_mid (by rfl) 49 _ rfl _ _ rfl (u8s m) _ (fun wq hq => hq.mac.range) Tryd.underlying49 rfl (by simpa using mac6_size m hm)) hS ?_
  try simp only [Act.put, List.setIfInBounds_toArray, List.set_cons_zero, List.set_cons_succ]
  refine wpAnyH_take (i := 10) (oi := ⟨some 95, _, _, _, _, _⟩) (v := ?_) rfl (by kernel_rfl) (by kernel_rfl) (by kernel_rfl) (fun _ _ _ h => h) (Or.inl ⟨by rfl, ?_⟩) hS ?_
  rotate_left
  · intro wq hq
    first | (go_simp; done) | (go_simp; rfl)
  try simp only [Act.put, List.setIfInBounds_toArray, List.set_cons_zero, List.set_cons_succ]
  refine wpAnyH_start (fun A L a w1 => ∃ (c2 c3 c5 c6 c8 c9 c11 c12 : Bool) (p0 p1 p2 p3 : Option (Nat × Array Value)) (s17 s18 s19 s20 : Bool), L = #[true, true, c2, c3, true, c5, c6, true, c8, c9, true, c11, c12, p0.isSome, p1.isSome, p2.isSome, p3.isSome, s17, s18, s19, s20] ∧ a = ((((((((((((A.put (some 87) (bif c2 then (.agg (u8s (mob fg n)).toArray) else undef)).put (some 88) (bif c3 then (.agg (fdA ⟨2, 0, 0, n, fg, z6⟩)) else undef)).put (some 90) (bif c5 then (.agg (u8s (withM 6 2 m)).toArray) else undef)).put (some 91) (bif c6 then (.agg (fdA ⟨4, 0, 0, 0, false, m⟩)) else undef)).put (some 93) (bif c8 then (.agg (u8s (withM 6 3 m)).toArray) else undef)).put (some 94) (bif c9 then (.agg (fdA ⟨5, 0, 0, 0, false, m⟩)) else undef)).put (some 96) (bif c11 then (.agg (u8s (enc k)).toArray) else undef)).put (some 97) (bif c12 then (.agg (fdA ⟨6, 0, 0, k, false, z6⟩)) else undef)).put (some 17) (pv p0)).put (some 18) (pv p1)).put (some 19) (pv p2)).put (some 20) (pv p3)) ∧ CM w w1 m ∧ VarsAt w1 (w.heap.size + 1) 63 [p0, p1, p2, p3] ∧ ((∀ x, p0 = some x → x.2 = bif s17 then fdA ⟨2, 0, 0, n, fg, z6⟩ else zfd) ∧ (s17 = true → p0.isSome = true)) ∧ ((∀ x, p1 = some x → x.2 = bif s18 then fdA ⟨4, 0, 0, 0, false, m⟩ else zfd) ∧ (s18 = true → p1.isSome = true)) ∧ ((∀ x, p2 = some x → x.2 = bif s19 then fdA ⟨5, 0, 0, 0, false, m⟩ else zfd) ∧ (s19 = true → p2.isSome = true)) ∧ ((∀ x, p3 = some x → x.2 = bif s20 then fdA ⟨6, 0, 0, k, false, z6⟩ else zfd) ∧ (s20 = true → p3.isSome = true))) ?_ (Nat.le_of_ble_eq_true (by kernel_rfl)) ?_ ?_ ?_
  · exact ⟨false, false, false, false, false, false, false, false, none, none, none, none, false, false, false, false, by kernel_rfl, by kernel_rfl, hS, ⟨fun i x hx => by rcases i with _ | _ | _ | _ | i <;> simp at hx, fun i j x y _ hx _ => by rcases i with _ | _ | _ | _ | i <;> simp at hx⟩, ⟨(fun x h => by cases h), fun h => by cases h⟩, ⟨(fun x h => by cases h), fun h => by cases h⟩, ⟨(fun x h => by cases h), fun h => by cases h⟩, ⟨(fun x h => by cases h), fun h => by cases h⟩⟩
  · rintro L a' w1 ⟨c2, c3, c5, c6, c8, c9, c11, c12, p0, p1, p2, p3, s17, s18, s19, s20, rfl, rfl, hC, hV, h0, h1, h2, h3⟩
    exact hC
  · rintro L a' w1 ⟨c2, c3, c5, c6, c8, c9, c11, c12, p0, p1, p2, p3, s17, s18, s19, s20, rfl, rfl, hC, hV, h0, h1, h2, h3⟩ hr
    obtain rfl : c2 = true := by
      cases c2 with
      | true => rfl
      | false => exact (ready_no hr 2 (show 2 < 21 by decide) _ rfl rfl (by kernel_rfl)).elim
    obtain rfl : c3 = true := by
      cases c3 with
      | true => rfl
      | false => exact (ready_no hr 3 (show 3 < 21 by decide) _ rfl rfl (by kernel_rfl)).elim
    obtain rfl : c5 = true := by
      cases c5 with
      | true => rfl
      | false => exact (ready_no hr 5 (show 5 < 21 by decide) _ rfl rfl (by kernel_rfl)).elim
    obtain rfl : c6 = true := by
      cases c6 with
      | true => rfl
      | false => exact (ready_no hr 6 (show 6 < 21 by decide) _ rfl rfl (by kernel_rfl)).elim
    obtain rfl : c8 = true := by
      cases c8 with
      | true => rfl
      | false => exact (ready_no hr 8 (show 8 < 21 by decide) _ rfl rfl (by kernel_rfl)).elim
    obtain rfl : c9 = true := by
      cases c9 with
      | true => rfl
      | false => exact (ready_no hr 9 (show 9 < 21 by decide) _ rfl rfl (by kernel_rfl)).elim
    obtain rfl : c11 = true := by
      cases c11 with
      | true => rfl
      | false => exact (ready_no hr 11 (show 11 < 21 by decide) _ rfl rfl (by kernel_rfl)).elim
    obtain rfl : c12 = true := by
      cases c12 with
      | true => rfl
      | false => exact (ready_no hr 12 (show 12 < 21 by decide) _ rfl rfl (by kernel_rfl)).elim
    obtain ⟨⟨g0, e0⟩, rfl⟩ : ∃ x, p0 = some x := by
      cases p0 with
      | some x => exact ⟨x, rfl⟩
      | none => exact (ready_no hr 13 (show 13 < 21 by decide) _ rfl rfl (by kernel_rfl)).elim
    obtain ⟨⟨g1, e1⟩, rfl⟩ : ∃ x, p1 = some x := by
      cases p1 with
      | some x => exact ⟨x, rfl⟩
      | none => exact (ready_no hr 14 (show 14 < 21 by decide) _ rfl rfl (by kernel_rfl)).elim
    obtain ⟨⟨g2, e2⟩, rfl⟩ : ∃ x, p2 = some x := by
      cases p2 with
      | some x => exact ⟨x, rfl⟩
      | none => exact (ready_no hr 15 (show 15 < 21 by decide) _ rfl rfl (by kernel_rfl)).elim
    obtain ⟨⟨g3, e3⟩, rfl⟩ : ∃ x, p3 = some x := by
      cases p3 with
      | some x => exact ⟨x, rfl⟩
      | none => exact (ready_no hr 16 (show 16 < 21 by decide) _ rfl rfl (by kernel_rfl)).elim
    obtain rfl : s17 = true := by
      cases s17 with
      | true => rfl
      | false => exact (ready_no hr 17 (show 17 < 21 by decide) _ rfl rfl (by kernel_rfl)).elim
    obtain rfl : s18 = true := by
      cases s18 with
      | true => rfl
      | false => exact (ready_no hr 18 (show 18 < 21 by decide) _ rfl rfl (by kernel_rfl)).elim
    obtain rfl : s19 = true := by
      cases s19 with
      | true => rfl
      | false => exact (ready_no hr 19 (show 19 < 21 by decide) _ rfl rfl (by kernel_rfl)).elim
    obtain rfl : s20 = true := by
      cases s20 with
      | true => rfl
      | false => exact (ready_no hr 20 (show 20 < 21 by decide) _ rfl rfl (by kernel_rfl)).elim
    obtain rfl : e0 = fdA ⟨2, 0, 0, n, fg, z6⟩ := h0.1 _ rfl
    have b0 := (hV.blk 0 _ rfl).2
    obtain rfl : e1 = fdA ⟨4, 0, 0, 0, false, m⟩ := h1.1 _ rfl
    have b1 := (hV.blk 1 _ rfl).2
    obtain rfl : e2 = fdA ⟨5, 0, 0, 0, false, m⟩ := h2.1 _ rfl
    have b2 := (hV.blk 2 _ rfl).2
    obtain rfl : e3 = fdA ⟨6, 0, 0, k, false, z6⟩ := h3.1 _ rfl
    have b3 := (hV.blk 3 _ rfl).2
    have d00 : w1.cell? ⟨g0, 0, none⟩ = some (.int .i64 2) := (FdCell b0).1
    have d03 : w1.cell? ⟨g0, 3, none⟩ = some (.int .u32 n) := (FdCell b0).2.2.2.1
    have d04 : w1.cell? ⟨g0, 4, none⟩ = some (.bool fg) := (FdCell b0).2.2.2.2
    have d10 : w1.cell? ⟨g1, 0, none⟩ = some (.int .i64 4) := (FdCell b1).1
    have d20 : w1.cell? ⟨g2, 0, none⟩ = some (.int .i64 5) := (FdCell b2).1
    have d30 : w1.cell? ⟨g3, 0, none⟩ = some (.int .i64 6) := (FdCell b3).1
    have d33 : w1.cell? ⟨g3, 3, none⟩ = some (.int .u32 k) := (FdCell b3).2.2.2.1
    have HM1 : Hid (w1.rangeAt g1 5 (u8s m)) := Lib.hid (FdMac b1)
    have HM2 : Hid (w1.rangeAt g2 5 (u8s m)) := Lib.hid (FdMac b2)
    have HC9 := Lib.hid hC
    have hme := mac_eq m hm om
    clear hr hV h0 h1 h2 h3 b0 b1 b2 b3 hC
    simp only [cond_true, pv, Act.put, List.setIfInBounds_toArray, List.set_cons_zero, List.set_cons_succ]
    go_wp2_with (first
      | (refine mac6_fetch rfl _ rfl g1 5 m hm rfl HM1.out ?_)
      | (refine mac6_fetch rfl _ rfl g2 5 m hm rfl HM2.out ?_)
      | (refine mac6_fetch rfl _ rfl w.heap.size 0 m hm rfl HC9.out.mac.range ?_))
    refine (alive4_is _ HC9.out.env).mono ?_
    rintro e w9 ⟨rfl, hB⟩
    go_wp2
    go_ret
    exact ⟨rfl, (HC9.out.below hB).low⟩
  · rintro L a' w1 ⟨c2, c3, c5, c6, c8, c9, c11, c12, p0, p1, p2, p3, s17, s18, s19, s20, rfl, rfl, hC, hV, h0, h1, h2, h3⟩ i hi
    obtain ⟨hi1, hi2, hi3⟩ := ready_mem hi
    clear hi
    have hi4 : i = 0 ∨ i = 1 ∨ i = 2 ∨ i = 3 ∨ i = 4 ∨ i = 5 ∨ i = 6 ∨ i = 7 ∨ i = 8 ∨ i = 9 ∨ i = 10 ∨ i = 11 ∨ i = 12 ∨ i = 13 ∨ i = 14 ∨ i = 15 ∨ i = 16 ∨ i = 17 ∨ i = 18 ∨ i = 19 ∨ i = 20 := by
      have : i < 21 := hi1
      omega
    clear hi1
    rcases hi4 with rfl | rfl | rfl | rfl | rfl | rfl | rfl | rfl | rfl | rfl | rfl | rfl | rfl | rfl | rfl | rfl | rfl | rfl | rfl | rfl | rfl
    · exact Bool.noConfusion (show true = false from hi2)
    · exact Bool.noConfusion (show true = false from hi2)
    · obtain rfl : c2 = false := hi2
      refine wpOp_call rfl rfl _ _ (by kernel_rfl) (mm_is _ fg n hn.1 (by omega)) (fun w2 hB => ?_)
      exact ⟨true, c3, c5, c6, c8, c9, c11, c12, p0, p1, p2, p3, s17, s18, s19, s20, by kernel_rfl, by kernel_rfl, hC.below hB, hV.below hB, h0, h1, h2, h3⟩
    · obtain rfl : c3 = false := hi2
      obtain rfl : c2 = true := hi3 _ rfl 0 _ rfl rfl
      refine wpOp_call rfl rfl _ _ (by kernel_rfl) (rd_isA _ (mob fg n) (mob_len fg n) (mob_oct fg n) ⟨2, 0, 0, n, fg, z6⟩ (rd_mob fg n hn.1 hn.2)) (fun w2 hB => ?_)
      exact ⟨true, true, c5, c6, c8, c9, c11, c12, p0, p1, p2, p3, s17, s18, s19, s20, by kernel_rfl, by kernel_rfl, hC.below hB, hV.below hB, h0, h1, h2, h3⟩
    · exact Bool.noConfusion (show true = false from hi2)
    · obtain rfl : c5 = false := hi2
      obtain rfl : c3 = true := hi3 _ rfl 1 _ rfl rfl
      refine wpOp_call rfl rfl _ _ (by kernel_rfl) (mi_is _ m hm) (fun w2 hB => ?_)
      exact ⟨c2, true, true, c6, c8, c9, c11, c12, p0, p1, p2, p3, s17, s18, s19, s20, by kernel_rfl, by kernel_rfl, hC.below hB, hV.below hB, h0, h1, h2, h3⟩
    · obtain rfl : c6 = false := hi2
      obtain rfl : c5 = true := hi3 _ rfl 0 _ rfl rfl
      refine wpOp_call rfl rfl _ _ (by kernel_rfl) (rd_isA _ (withM 6 2 m) (withM_len 6 2 m hm) (withM_oct 6 2 m (by omega) (by omega) om) ⟨4, 0, 0, 0, false, m⟩ (rd_imp m hm)) (fun w2 hB => ?_)
      exact ⟨c2, c3, true, true, c8, c9, c11, c12, p0, p1, p2, p3, s17, s18, s19, s20, by kernel_rfl, by kernel_rfl, hC.below hB, hV.below hB, h0, h1, h2, h3⟩
    · exact Bool.noConfusion (show true = false from hi2)
    · obtain rfl : c8 = false := hi2
      obtain rfl : c6 = true := hi3 _ rfl 1 _ rfl rfl
      refine wpOp_call rfl rfl _ _ (by kernel_rfl) (mr_is _ m hm) (fun w2 hB => ?_)
      exact ⟨c2, c3, c5, true, true, c9, c11, c12, p0, p1, p2, p3, s17, s18, s19, s20, by kernel_rfl, by kernel_rfl, hC.below hB, hV.below hB, h0, h1, h2, h3⟩
    · obtain rfl : c9 = false := hi2
      obtain rfl : c8 = true := hi3 _ rfl 0 _ rfl rfl
      refine wpOp_call rfl rfl _ _ (by kernel_rfl) (rd_isA _ (withM 6 3 m) (withM_len 6 3 m hm) (withM_oct 6 3 m (by omega) (by omega) om) ⟨5, 0, 0, 0, false, m⟩ (rd_rtr m hm)) (fun w2 hB => ?_)
      exact ⟨c2, c3, c5, c6, true, true, c11, c12, p0, p1, p2, p3, s17, s18, s19, s20, by kernel_rfl, by kernel_rfl, hC.below hB, hV.below hB, h0, h1, h2, h3⟩
    · exact Bool.noConfusion (show true = false from hi2)
    · obtain rfl : c11 = false := hi2
      obtain rfl : c9 = true := hi3 _ rfl 1 _ rfl rfl
      refine wpOp_call rfl rfl _ _ (by kernel_rfl) (me_is _ k hk.1 (by omega)) (fun w2 hB => ?_)
      exact ⟨c2, c3, c5, c6, c8, true, true, c12, p0, p1, p2, p3, s17, s18, s19, s20, by kernel_rfl, by kernel_rfl, hC.below hB, hV.below hB, h0, h1, h2, h3⟩
    · obtain rfl : c12 = false := hi2
      obtain rfl : c11 = true := hi3 _ rfl 0 _ rfl rfl
      refine wpOp_call rfl rfl _ _ (by kernel_rfl) (rd_isA _ (enc k) (enc_len k) (enc_oct k) ⟨6, 0, 0, k, false, z6⟩ (rd_enc k hk.1 hk.2)) (fun w2 hB => ?_)
      exact ⟨c2, c3, c5, c6, c8, c9, true, true, p0, p1, p2, p3, s17, s18, s19, s20, by kernel_rfl, by kernel_rfl, hC.below hB, hV.below hB, h0, h1, h2, h3⟩
    · obtain rfl : p0 = none := by
        cases p0 with
        | none => rfl
        | some x => exact Bool.noConfusion (show true = false from hi2)
      obtain rfl : s17 = false := by
        cases s17 with
        | false => rfl
        | true => exact Bool.noConfusion (show false = true from h0.2 rfl)
      have hA : Below w1.heap.size w1 (w1.alloc (.cells zfd 63)) := (Below.refl _ _).alloc (Nat.le_refl _) _
      have hz := hC.mac.lt
      refine wpOp_value rfl rfl (.pointer (some ⟨w1.heap.size, 0, none⟩)) (w1.alloc (.cells zfd 63)) (by kernel_rfl) ?_
      exact ⟨c2, c3, c5, c6, c8, c9, c11, c12, some (w1.heap.size, zfd), p1, p2, p3, false, s18, s19, s20, by kernel_rfl, by kernel_rfl, hC.below hA, hV.alloc (by omega) 0 zfd, ⟨fun x h => by cases h; rfl, fun h => by cases h⟩, h1, h2, h3⟩
    · obtain rfl : p1 = none := by
        cases p1 with
        | none => rfl
        | some x => exact Bool.noConfusion (show true = false from hi2)
      obtain rfl : s18 = false := by
        cases s18 with
        | false => rfl
        | true => exact Bool.noConfusion (show false = true from h1.2 rfl)
      have hA : Below w1.heap.size w1 (w1.alloc (.cells zfd 63)) := (Below.refl _ _).alloc (Nat.le_refl _) _
      have hz := hC.mac.lt
      refine wpOp_value rfl rfl (.pointer (some ⟨w1.heap.size, 0, none⟩)) (w1.alloc (.cells zfd 63)) (by kernel_rfl) ?_
      exact ⟨c2, c3, c5, c6, c8, c9, c11, c12, p0, some (w1.heap.size, zfd), p2, p3, s17, false, s19, s20, by kernel_rfl, by kernel_rfl, hC.below hA, hV.alloc (by omega) 1 zfd, h0, ⟨fun x h => by cases h; rfl, fun h => by cases h⟩, h2, h3⟩
    · obtain rfl : p2 = none := by
        cases p2 with
        | none => rfl
        | some x => exact Bool.noConfusion (show true = false from hi2)
      obtain rfl : s19 = false := by
        cases s19 with
        | false => rfl
        | true => exact Bool.noConfusion (show false = true from h2.2 rfl)
      have hA : Below w1.heap.size w1 (w1.alloc (.cells zfd 63)) := (Below.refl _ _).alloc (Nat.le_refl _) _
      have hz := hC.mac.lt
      refine wpOp_value rfl rfl (.pointer (some ⟨w1.heap.size, 0, none⟩)) (w1.alloc (.cells zfd 63)) (by kernel_rfl) ?_
      exact ⟨c2, c3, c5, c6, c8, c9, c11, c12, p0, p1, some (w1.heap.size, zfd), p3, s17, s18, false, s20, by kernel_rfl, by kernel_rfl, hC.below hA, hV.alloc (by omega) 2 zfd, h0, h1, ⟨fun x h => by cases h; rfl, fun h => by cases h⟩, h3⟩
    · obtain rfl : p3 = none := by
        cases p3 with
        | none => rfl
        | some x => exact Bool.noConfusion (show true = false from hi2)
      obtain rfl : s20 = false := by
        cases s20 with
        | false => rfl
        | true => exact Bool.noConfusion (show false = true from h3.2 rfl)
      have hA : Below w1.heap.size w1 (w1.alloc (.cells zfd 63)) := (Below.refl _ _).alloc (Nat.le_refl _) _
      have hz := hC.mac.lt
      refine wpOp_value rfl rfl (.pointer (some ⟨w1.heap.size, 0, none⟩)) (w1.alloc (.cells zfd 63)) (by kernel_rfl) ?_
      exact ⟨c2, c3, c5, c6, c8, c9, c11, c12, p0, p1, p2, some (w1.heap.size, zfd), s17, s18, s19, false, by kernel_rfl, by kernel_rfl, hC.below hA, hV.alloc (by omega) 3 zfd, h0, h1, h2, ⟨fun x h => by cases h; rfl, fun h => by cases h⟩⟩
    · obtain rfl : s17 = false := hi2
      obtain ⟨⟨g, cs⟩, rfl⟩ : ∃ x, p0 = some x := Option.isSome_iff_exists.1 (show p0.isSome = true from hi3 _ rfl 0 _ rfl rfl)
      obtain rfl : c3 = true := hi3 _ rfl 1 _ rfl rfl
      obtain rfl : cs = zfd := h0.1 _ rfl
      have hb := hV.blk 0 (g, zfd) rfl
      have hg : w.heap.size + 1 ≤ g := hb.1
      have hlow : Below w.heap.size w (w1.setRow g (fdA ⟨2, 0, 0, n, fg, z6⟩)) := hC.low.trans (below_setRow _ _ _ (by omega))
      have hf : (⟨2, 0, 0, n, fg, z6⟩ : Fd).mac.length = 6 := rfl
      refine wpOp_fdA rfl rfl (.tmp 17) (.tmp 88) rfl g ⟨2, 0, 0, n, fg, z6⟩ hf (by kernel_rfl) (by kernel_rfl) zfd hb.2 rfl ?_
      exact ⟨c2, true, c5, c6, c8, c9, c11, c12, some (g, fdA ⟨2, 0, 0, n, fg, z6⟩), p1, p2, p3, true, s18, s19, s20, by kernel_rfl, by kernel_rfl, ⟨hC.mac.setRow_ne _ (by omega), hlow, HE.out.below hlow⟩, hV.set 0 g zfd (fdA ⟨2, 0, 0, n, fg, z6⟩) rfl, ⟨fun x h => by cases h; rfl, fun _ => rfl⟩, h1, h2, h3⟩
    · obtain rfl : s18 = false := hi2
      obtain ⟨⟨g, cs⟩, rfl⟩ : ∃ x, p1 = some x := Option.isSome_iff_exists.1 (show p1.isSome = true from hi3 _ rfl 0 _ rfl rfl)
      obtain rfl : c6 = true := hi3 _ rfl 1 _ rfl rfl
      obtain rfl : cs = zfd := h1.1 _ rfl
      have hb := hV.blk 1 (g, zfd) rfl
      have hg : w.heap.size + 1 ≤ g := hb.1
      have hlow : Below w.heap.size w (w1.setRow g (fdA ⟨4, 0, 0, 0, false, m⟩)) := hC.low.trans (below_setRow _ _ _ (by omega))
      have hf : (⟨4, 0, 0, 0, false, m⟩ : Fd).mac.length = 6 := hm
      refine wpOp_fdA rfl rfl (.tmp 18) (.tmp 91) rfl g ⟨4, 0, 0, 0, false, m⟩ hf (by kernel_rfl) (by kernel_rfl) zfd hb.2 rfl ?_
      exact ⟨c2, c3, c5, true, c8, c9, c11, c12, p0, some (g, fdA ⟨4, 0, 0, 0, false, m⟩), p2, p3, s17, true, s19, s20, by kernel_rfl, by kernel_rfl, ⟨hC.mac.setRow_ne _ (by omega), hlow, HE.out.below hlow⟩, hV.set 1 g zfd (fdA ⟨4, 0, 0, 0, false, m⟩) rfl, h0, ⟨fun x h => by cases h; rfl, fun _ => rfl⟩, h2, h3⟩
    · obtain rfl : s19 = false := hi2
      obtain ⟨⟨g, cs⟩, rfl⟩ : ∃ x, p2 = some x := Option.isSome_iff_exists.1 (show p2.isSome = true from hi3 _ rfl 0 _ rfl rfl)
      obtain rfl : c9 = true := hi3 _ rfl 1 _ rfl rfl
      obtain rfl : cs = zfd := h2.1 _ rfl
      have hb := hV.blk 2 (g, zfd) rfl
      have hg : w.heap.size + 1 ≤ g := hb.1
      have hlow : Below w.heap.size w (w1.setRow g (fdA ⟨5, 0, 0, 0, false, m⟩)) := hC.low.trans (below_setRow _ _ _ (by omega))
      have hf : (⟨5, 0, 0, 0, false, m⟩ : Fd).mac.length = 6 := hm
      refine wpOp_fdA rfl rfl (.tmp 19) (.tmp 94) rfl g ⟨5, 0, 0, 0, false, m⟩ hf (by kernel_rfl) (by kernel_rfl) zfd hb.2 rfl ?_
      exact ⟨c2, c3, c5, c6, c8, true, c11, c12, p0, p1, some (g, fdA ⟨5, 0, 0, 0, false, m⟩), p3, s17, s18, true, s20, by kernel_rfl, by kernel_rfl, ⟨hC.mac.setRow_ne _ (by omega), hlow, HE.out.below hlow⟩, hV.set 2 g zfd (fdA ⟨5, 0, 0, 0, false, m⟩) rfl, h0, h1, ⟨fun x h => by cases h; rfl, fun _ => rfl⟩, h3⟩
    · obtain rfl : s20 = false := hi2
      obtain ⟨⟨g, cs⟩, rfl⟩ : ∃ x, p3 = some x := Option.isSome_iff_exists.1 (show p3.isSome = true from hi3 _ rfl 0 _ rfl rfl)
      obtain rfl : c12 = true := hi3 _ rfl 1 _ rfl rfl
      obtain rfl : cs = zfd := h3.1 _ rfl
      have hb := hV.blk 3 (g, zfd) rfl
      have hg : w.heap.size + 1 ≤ g := hb.1
      have hlow : Below w.heap.size w (w1.setRow g (fdA ⟨6, 0, 0, k, false, z6⟩)) := hC.low.trans (below_setRow _ _ _ (by omega))
      have hf : (⟨6, 0, 0, k, false, z6⟩ : Fd).mac.length = 6 := rfl
      refine wpOp_fdA rfl rfl (.tmp 20) (.tmp 97) rfl g ⟨6, 0, 0, k, false, z6⟩ hf (by kernel_rfl) (by kernel_rfl) zfd hb.2 rfl ?_
      exact ⟨c2, c3, c5, c6, c8, c9, c11, true, p0, p1, p2, some (g, fdA ⟨6, 0, 0, k, false, z6⟩), s17, s18, s19, true, by kernel_rfl, by kernel_rfl, ⟨hC.mac.setRow_ne _ (by omega), hlow, HE.out.below hlow⟩, hV.set 3 g zfd (fdA ⟨6, 0, 0, k, false, z6⟩) rfl, h0, h1, h2, ⟨fun x h => by cases h; rfl, fun _ => rfl⟩⟩
end Go.Proofs.YtkaimdcepnhkdaaDoor
namespace Go.Proofs.YtkaimdcepnhkdaaDoor
open Go.RowKit
set_option linter.unusedSimpArgs false
set_option linter.unusedVariables false

set_option maxHeartbeats 2000000 in
set_option maxRecDepth 100000 in
theorem cb_21 (w : World) (E : Env w) (a n : Int) (fg : Bool) (m : List Int) (k : Int) (ha : 0 ≤ a ∧ a ≤ 4294967295) (hn : 0 ≤ n ∧ n ≤ 4294967295) (hm : m.length = 6) (om : Oct m) (hk : 0 ≤ k ∧ k ≤ 65535) (ca : ¬ a ≤ 65535) (cn : n ≤ 65535) (cl : n ≤ 16777215) :
    Calls Tryd.prog 8 #[.int .u32 a, .int .u32 n, .bool fg, .agg (u8s m).toArray, .int .u16 k] w fun e w' => e = .returned (.bool true) ∧ Below w.heap.size w w' := by
  have hl0 := (Below.refl w.heap.size w).alloc (Nat.le_refl _) (.cells (u8s m).toArray 49)
  have HC : Hid (CM w (w.alloc (.cells (u8s m).toArray 49)) m) := Lib.hid ⟨Blk.new w 49 _, hl0, E.below hl0⟩
  have HO : Hid (mtO a n = some (tgt a n)) := Lib.hid (by unfold mtO; rw [if_neg ca, if_pos cn])
  have HR := Lib.hid (rd_tgt6 a n ca ha.2 hn.1 cn)
  have ta : ¬ (a < 65536) := by omega
  have HL : Hid (mlO fg n = some (lab fg n)) := Lib.hid (by unfold mlO; rw [if_pos cl])
  have HM := Lib.hid (rd_lab fg n hn.1 cl)
  have HE := Lib.hid E
  have hke : k % 4294967296 = k := Int.emod_eq_of_lt hk.1 (by omega)
  clear hl0
  go_enter Tryd.func8, Tryd.ntmps8
  go_wp2_with fail
  refine (mt_at _ a n ha.1 (by omega) hn.1 (by omega) (tgt a n) HO.out).mono ?_
  rintro e w1 ⟨rfl, hB⟩
  have hC := HC.out.below hB
  obtain ⟨b1, s0, s1⟩ := new_comm hC.low (tgt a n)
  have HN1 := Lib.hid (Blk.new w1 52 zc8)
  have HC1 := Lib.hid (hC.below s1)
  have HA1 := Lib.hid b1
  clear hB hC b1 s0 s1 HC
  go_wp2_with (first
    | (refine comm_store rfl _ _ rfl w1.heap.size (tgt a n) (tgt_len a n) rfl rfl 52 zc8 HN1.out rfl ?_)
    | (refine comm_fetch rfl _ rfl w1.heap.size 0 (tgt a n) (tgt_len a n) rfl HA1.out.range ?_))
  refine (rd_isA _ (tgt a n) (tgt_len a n) (tgt_oct a n) ⟨1, 2, a, n, false, z6⟩ HR.out).mono ?_
  rintro e w2 ⟨rfl, hB⟩
  have hC := HC1.out.below hB
  obtain ⟨b1, s0, s1⟩ := new_fd hC.low ⟨1, 2, a, n, false, z6⟩
  have HN2 := Lib.hid (Blk.new w2 63 zfd)
  have HC2 := Lib.hid (hC.below s1)
  have c0 := (FdCell b1).1
  have c1 := (FdCell b1).2.1
  have c2 := (FdCell b1).2.2.1
  have c3 := (FdCell b1).2.2.2.1
  have c4 := (FdCell b1).2.2.2.2
  simp only at c0 c1 c2 c3 c4
  clear hB hC b1 s0 s1 HC1 HA1 HN1
  go_wp2_with (refine fdA_store rfl _ _ rfl w2.heap.size ⟨1, 2, a, n, false, z6⟩ rfl rfl rfl 63 zfd HN2.out rfl ?_)
  clear c0 c1 c2 c3 c4
  refine (ml_at _ fg n hn.1 (by omega) (lab fg n) HL.out).mono ?_
  rintro e w3 ⟨rfl, hB⟩
  have hC := HC2.out.below hB
  obtain ⟨b1, s0, s1⟩ := new_comm hC.low (lab fg n)
  have HN3 := Lib.hid (Blk.new w3 52 zc8)
  have HC3 := Lib.hid (hC.below s1)
  have HA3 := Lib.hid b1
  clear hB hC b1 s0 s1 HC2
  go_wp2_with (first
    | (refine comm_store rfl _ _ rfl w3.heap.size (lab fg n) (lab_len fg n) rfl rfl 52 zc8 HN3.out rfl ?_)
    | (refine comm_fetch rfl _ rfl w3.heap.size 0 (lab fg n) (lab_len fg n) rfl HA3.out.range ?_))
  refine (rd_isA _ (lab fg n) (lab_len fg n) (lab_oct fg n) ⟨3, 0, 0, n, fg, z6⟩ HM.out).mono ?_
  rintro e w4 ⟨rfl, hB⟩
  have hC := HC3.out.below hB
  obtain ⟨b1, s0, s1⟩ := new_fd hC.low ⟨3, 0, 0, n, fg, z6⟩
  have HN4 := Lib.hid (Blk.new w4 63 zfd)
  have HC4 := Lib.hid (hC.below s1)
  have c0 := (FdCell b1).1
  have c1 := (FdCell b1).2.1
  have c2 := (FdCell b1).2.2.1
  have c3 := (FdCell b1).2.2.2.1
  have c4 := (FdCell b1).2.2.2.2
  simp only at c0 c1 c2 c3 c4
  clear hB hC b1 s0 s1 HC3 HA3 HN3
  go_wp2_with (refine fdA_store rfl _ _ rfl w4.heap.size ⟨3, 0, 0, n, fg, z6⟩ rfl rfl rfl 63 zfd HN4.out rfl ?_)
  clear c0 c1 c2 c3 c4
  refine wp_region_held_drew (S := fun w' => CM w w' m) (by kernel_rfl) (⟨HC4.out.mac, below_drewN HC4.out.low 1, HC4.out.env.drewN 1⟩) (fun hS => ?_)
  refine wpAnyH_take (i := 0) (oi := ⟨some 85, _, _, _, _, _⟩) (v := ?_) rfl (by kernel_rfl) (by kernel_rfl) (by kernel_rfl) (fun _ _ _ h => h) (Or.inl ⟨by rfl, ?_⟩) hS ?_
  rotate_left
  · intro wq hq
    first | (go_simp; done) | (go_simp; rfl)
  try simp only [Act.put, List.setIfInBounds_toArray, List.set_cons_zero, List.set_cons_succ]
  refine wpAnyH_take (i := 1) (oi := ⟨some 86, _, _, _, _, _⟩) (v := ?_) rfl (by kernel_rfl) (by kernel_rfl) (by kernel_rfl) (fun _ _ _ h => h) (Or.inl ⟨by rfl, ?_⟩) hS ?_
  rotate_left
  · intro wq hq
    first | (go_simp; done) | (go_simp; rfl)
  try simp only [Act.put, List.setIfInBounds_toArray, List.set_cons_zero, List.set_cons_succ]
  refine wpAnyH_take (i := 4) (oi := ⟨some 89, _, _, _, _, _⟩) rfl (by kernel_rfl) (by kernel_rfl) (by kernel_rfl) (fun _ _ _ h => h) (yieldsIf_load_mid (by rfl) 49 _ rfl _ _ rfl (u8s m) _ (fun wq hq => hq.mac.range) Tryd.underlying49 rfl (by simpa using mac6_size m hm)) hS ?_
  try simp only [Act.put, List.setIfInBounds_toArray, List.set_cons_zero, List.set_cons_succ]
  refine wpAnyH_take (i := 7) (oi := ⟨some 92, _, _, _, _, _⟩) rfl (by kernel_rfl) (by kernel_rfl) (by kernel_rfl) (fun _ _ _ h => h) (yieldsIf_load_mid (by rfl) 49 _ rfl _ _ rfl (u8s m) _ (fun wq hq => hq.mac.range) Tryd.underlying49 rfl (by simpa using mac6_size m hm)) hS ?_
  try simp only [Act.put, List.setIfInBounds_toArray, List.set_cons_zero, List.set_cons_succ]
  refine wpAnyH_take (i := 10) (oi := ⟨some 95, _, _, _, _, _⟩) (v := ?_) rfl (by kernel_rfl) (by kernel_rfl) (by kernel_rfl) (fun _ _ _ h => h) (Or.inl ⟨by rfl, ?_⟩) hS ?_
  rotate_left
  · intro wq hq
    first | (go_simp; done) | (go_simp; rfl)
  try simp only [Act.put, List.setIfInBounds_toArray, List.set_cons_zero, List.set_cons_succ]
  refine wpAnyH_start (fun A L a w1 => ∃ (c2 c3 c5 c6 c8 c9 c11 c12 : Bool) (p0 p1 p2 p3 : Option (Nat × Array Value)) (s17 s18 s19 s20 : Bool), L = #[true, true, c2, c3, true, c5, c6, true, c8, c9, true, c11, c12, p0.isSome, p1.isSome, p2.isSome, p3.isSome, s17, s18, s19, s20] ∧ a = ((((((((((((A.put (some 87) (bif c2 then (.agg (u8s (mob fg n)).toArray) else undef)).put (some 88) (bif c3 then (.agg (fdA ⟨2, 0, 0, n, fg, z6⟩)) else undef)).put (some 90) (bif c5 then (.agg (u8s (withM 6 2 m)).toArray) else undef)).put (some 91) (bif c6 then (.agg (fdA ⟨4, 0, 0, 0, false, m⟩)) else undef)).put (some 93) (bif c8 then (.agg (u8s (withM 6 3 m)).toArray) else undef)).put (some 94) (bif c9 then (.agg (fdA ⟨5, 0, 0, 0, false, m⟩)) else undef)).put (some 96) (bif c11 then (.agg (u8s (enc k)).toArray) else undef)).put (some 97) (bif c12 then (.agg (fdA ⟨6, 0, 0, k, false, z6⟩)) else undef)).put (some 17) (pv p0)).put (some 18) (pv p1)).put (some 19) (pv p2)).put (some 20) (pv p3)) ∧ CM w w1 m ∧ VarsAt w1 (w.heap.size + 1) 63 [p0, p1, p2, p3] ∧ ((∀ x, p0 = some x → x.2 = bif s17 then fdA ⟨2, 0, 0, n, fg, z6⟩ else zfd) ∧ (s17 = true → p0.isSome = true)) ∧ ((∀ x, p1 = some x → x.2 = bif s18 then fdA ⟨4, 0, 0, 0, false, m⟩ else zfd) ∧ (s18 = true → p1.isSome = true)) ∧ ((∀ x, p2 = some x → x.2 = bif s19 then fdA ⟨5, 0, 0, 0, false, m⟩ else zfd) ∧ (s19 = true → p2.isSome = true)) ∧ ((∀ x, p3 = some x → x.2 = bif s20 then fdA ⟨6, 0, 0, k, false, z6⟩ else zfd) ∧ (s20 = true → p3.isSome = true))) ?_ (Nat.le_of_ble_eq_true (by kernel_rfl)) ?_ ?_ ?_
  · exact ⟨false, false, false, false, false, false, false, false, none, none, none, none, false, false, false, false, by kernel_rfl, by kernel_rfl, hS, ⟨fun i x hx => by rcases i with _ | _ | _ | _ | i <;> simp at hx, fun i j x y _ hx _ => by rcases i with _ | _ | _ | _ | i <;> simp at hx⟩, ⟨(fun x h => by cases h), fun h => by cases h⟩, ⟨(fun x h => by cases h), fun h => by cases h⟩, ⟨(fun x h => by cases h), fun h => by cases h⟩, ⟨(fun x h => by cases h), fun h => by cases h⟩⟩
  · rintro L a' w1 ⟨c2, c3, c5, c6, c8, c9, c11, c12, p0, p1, p2, p3, s17, s18, s19, s20, rfl, rfl, hC, hV, h0, h1, h2, h3⟩
    exact hC
  · rintro L a' w1 ⟨c2, c3, c5, c6, c8, c9, c11, c12, p0, p1, p2, p3, s17, s18, s19, s20, rfl, rfl, hC, hV, h0, h1, h2, h3⟩ hr
    obtain rfl : c2 = true := by
      cases c2 with
      | true => rfl
      | false => exact (ready_no hr 2 (show 2 < 21 by decide) _ rfl rfl (by kernel_rfl)).elim
    obtain rfl : c3 = true := by
      cases c3 with
      | true => rfl
      | false => exact (ready_no hr 3 (show 3 < 21 by decide) _ rfl rfl (by kernel_rfl)).elim
    obtain rfl : c5 = true := by
      cases c5 with
      | true => rfl
      | false => exact (ready_no hr 5 (show 5 < 21 by decide) _ rfl rfl (by kernel_rfl)).elim
    obtain rfl : c6 = true := by
      cases c6 with
      | true => rfl
      | false => exact (ready_no hr 6 (show 6 < 21 by decide) _ rfl rfl (by kernel_rfl)).elim
    obtain rfl : c8 = true := by
      cases c8 with
      | true => rfl
      | false => exact (ready_no hr 8 (show 8 < 21 by decide) _ rfl rfl (by kernel_rfl)).elim
    obtain rfl : c9 = true := by
      cases c9 with
      | true => rfl
      | false => exact (ready_no hr 9 (show 9 < 21 by decide) _ rfl rfl (by kernel_rfl)).elim
    obtain rfl : c11 = true := by
      cases c11 with
      | true => rfl
      | false => exact (ready_no hr 11 (show 11 < 21 by decide) _ rfl rfl (by kernel_rfl)).elim
    obtain rfl : c12 = true := by
      cases c12 with
      | true => rfl
      | false => exact (ready_no hr 12 (show 12 < 21 by decide) _ rfl rfl (by kernel_rfl)).elim
    obtain ⟨⟨g0, e0⟩, rfl⟩ : ∃ x, p0 = some x := by
      cases p0 with
      | some x => exact ⟨x, rfl⟩
      | none => exact (ready_no hr 13 (show 13 < 21 by decide) _ rfl rfl (by kernel_rfl)).elim
    obtain ⟨⟨g1, e1⟩, rfl⟩ : ∃ x, p1 = some x := by
      cases p1 with
      | some x => exact ⟨x, rfl⟩
      | none => exact (ready_no hr 14 (show 14 < 21 by decide) _ rfl rfl (by kernel_rfl)).elim
    obtain ⟨⟨g2, e2⟩, rfl⟩ : ∃ x, p2 = some x := by
      cases p2 with
      | some x => exact ⟨x, rfl⟩
      | none => exact (ready_no hr 15 (show 15 < 21 by decide) _ rfl rfl (by kernel_rfl)).elim
    obtain ⟨⟨g3, e3⟩, rfl⟩ : ∃ x, p3 = some x := by
      cases p3 with
      | some x => exact ⟨x, rfl⟩
      | none => exact (ready_no hr 16 (show 16 < 21 by decide) _ rfl rfl (by kernel_rfl)).elim
    obtain rfl : s17 = true := by
      cases s17 with
      | true => rfl
      | false => exact (ready_no hr 17 (show 17 < 21 by decide) _ rfl rfl (by kernel_rfl)).elim
    obtain rfl : s18 = true := by
      cases s18 with
      | true => rfl
      | false => exact (ready_no hr 18 (show 18 < 21 by decide) _ rfl rfl (by kernel_rfl)).elim
    obtain rfl : s19 = true := by
      cases s19 with
      | true => rfl
      | false => exact (ready_no hr 19 (show 19 < 21 by decide) _ rfl rfl (by kernel_rfl)).elim
    obtain rfl : s20 = true := by
      cases s20 with
      | true => rfl
      | false => exact (ready_no hr 20 (show 20 < 21 by decide) _ rfl rfl (by kernel_rfl)).elim
    obtain rfl : e0 = fdA ⟨2, 0, 0, n, fg, z6⟩ := h0.1 _ rfl
    have b0 := (hV.blk 0 _ rfl).2
    obtain rfl : e1 = fdA ⟨4, 0, 0, 0, false, m⟩ := h1.1 _ rfl
    have b1 := (hV.blk 1 _ rfl).2
    obtain rfl : e2 = fdA ⟨5, 0, 0, 0, false, m⟩ := h2.1 _ rfl
    have b2 := (hV.blk 2 _ rfl).2
    obtain rfl : e3 = fdA ⟨6, 0, 0, k, false, z6⟩ := h3.1 _ rfl
    have b3 := (hV.blk 3 _ rfl).2
    have d00 : w1.cell? ⟨g0, 0, none⟩ = some (.int .i64 2) := (FdCell b0).1
    have d03 : w1.cell? ⟨g0, 3, none⟩ = some (.int .u32 n) := (FdCell b0).2.2.2.1
    have d04 : w1.cell? ⟨g0, 4, none⟩ = some (.bool fg) := (FdCell b0).2.2.2.2
    have d10 : w1.cell? ⟨g1, 0, none⟩ = some (.int .i64 4) := (FdCell b1).1
    have d20 : w1.cell? ⟨g2, 0, none⟩ = some (.int .i64 5) := (FdCell b2).1
    have d30 : w1.cell? ⟨g3, 0, none⟩ = some (.int .i64 6) := (FdCell b3).1
    have d33 : w1.cell? ⟨g3, 3, none⟩ = some (.int .u32 k) := (FdCell b3).2.2.2.1
    have HM1 : Hid (w1.rangeAt g1 5 (u8s m)) := Lib.hid (FdMac b1)
    have HM2 : Hid (w1.rangeAt g2 5 (u8s m)) := Lib.hid (FdMac b2)
    have HC9 := Lib.hid hC
    have hme := mac_eq m hm om
    clear hr hV h0 h1 h2 h3 b0 b1 b2 b3 hC
    simp only [cond_true, pv, Act.put, List.setIfInBounds_toArray, List.set_cons_zero, List.set_cons_succ]
    go_wp2_with (first
      | (refine mac6_fetch rfl _ rfl g1 5 m hm rfl HM1.out ?_)
      | (refine mac6_fetch rfl _ rfl g2 5 m hm rfl HM2.out ?_)
      | (refine mac6_fetch rfl _ rfl w.heap.size 0 m hm rfl HC9.out.mac.range ?_))
    refine (alive4_is _ HC9.out.env).mono ?_
    rintro e w9 ⟨rfl, hB⟩
    go_wp2
    go_ret
    exact ⟨rfl, (HC9.out.below hB).low⟩
  · rintro L a' w1 ⟨c2, c3, c5, c6, c8, c9, c11, c12, p0, p1, p2, p3, s17, s18, s19, s20, rfl, rfl, hC, hV, h0, h1, h2, h3⟩ i hi
    obtain ⟨hi1, hi2, hi3⟩ := ready_mem hi
    clear hi
    have hi4 : i = 0 ∨ i = 1 ∨ i = 2 ∨ i = 3 ∨ i = 4 ∨ i = 5 ∨ i = 6 ∨ i = 7 ∨ i = 8 ∨ i = 9 ∨ i = 10 ∨ i = 11 ∨ i = 12 ∨ i = 13 ∨ i = 14 ∨ i = 15 ∨ i = 16 ∨ i = 17 ∨ i = 18 ∨ i = 19 ∨ i = 20 := by
      have : i < 21 := hi1
      omega
    clear hi1
    rcases hi4 with rfl | rfl | rfl | rfl | rfl | rfl | rfl | rfl | rfl | rfl | rfl | rfl | rfl | rfl | rfl | rfl | rfl | rfl | rfl | rfl | rfl
    · exact Bool.noConfusion (show true = false from hi2)
    · exact Bool.noConfusion (show true = false from hi2)
    · obtain rfl : c2 = false := hi2
      refine wpOp_call rfl rfl _ _ (by kernel_rfl) (mm_is _ fg n hn.1 (by omega)) (fun w2 hB => ?_)
      exact ⟨true, c3, c5, c6, c8, c9, c11, c12, p0, p1, p2, p3, s17, s18, s19, s20, by kernel_rfl, by kernel_rfl, hC.below hB, hV.below hB, h0, h1, h2, h3⟩
    · obtain rfl : c3 = false := hi2
      obtain rfl : c2 = true := hi3 _ rfl 0 _ rfl rfl
      refine wpOp_call rfl rfl _ _ (by kernel_rfl) (rd_isA _ (mob fg n) (mob_len fg n) (mob_oct fg n) ⟨2, 0, 0, n, fg, z6⟩ (rd_mob fg n hn.1 hn.2)) (fun w2 hB => ?_)
      exact ⟨true, true, c5, c6, c8, c9, c11, c12, p0, p1, p2, p3, s17, s18, s19, s20, by kernel_rfl, by kernel_rfl, hC.below hB, hV.below hB, h0, h1, h2, h3⟩
    · exact Bool.noConfusion (show true = false from hi2)
    · obtain rfl : c5 = false := hi2
      obtain rfl : c3 = true := hi3 _ rfl 1 _ rfl rfl
      refine wpOp_call rfl rfl _ _ (by kernel_rfl) (mi_is _ m hm) (fun w2 hB => ?_)
      exact ⟨c2, true, true, c6, c8, c9, c11, c12, p0, p1, p2, p3, s17, s18, s19, s20, by kernel_rfl, by kernel_rfl, hC.below hB, hV.below hB, h0, h1, h2, h3⟩
    · obtain rfl : c6 = false := hi2
      obtain rfl : c5 = true := hi3 _ rfl 0 _ rfl rfl
      refine wpOp_call rfl rfl _ _ (by kernel_rfl) (rd_isA _ (withM 6 2 m) (withM_len 6 2 m hm) (withM_oct 6 2 m (by omega) (by omega) om) ⟨4, 0, 0, 0, false, m⟩ (rd_imp m hm)) (fun w2 hB => ?_)
      exact ⟨c2, c3, true, true, c8, c9, c11, c12, p0, p1, p2, p3, s17, s18, s19, s20, by kernel_rfl, by kernel_rfl, hC.below hB, hV.below hB, h0, h1, h2, h3⟩
    · exact Bool.noConfusion (show true = false from hi2)
    · obtain rfl : c8 = false := hi2
      obtain rfl : c6 = true := hi3 _ rfl 1 _ rfl rfl
      refine wpOp_call rfl rfl _ _ (by kernel_rfl) (mr_is _ m hm) (fun w2 hB => ?_)
      exact ⟨c2, c3, c5, true, true, c9, c11, c12, p0, p1, p2, p3, s17, s18, s19, s20, by kernel_rfl, by kernel_rfl, hC.below hB, hV.below hB, h0, h1, h2, h3⟩
    · obtain rfl : c9 = false := hi2
      obtain rfl : c8 = true := hi3 _ rfl 0 _ rfl rfl
      refine wpOp_call rfl rfl _ _ (by kernel_rfl) (rd_isA _ (withM 6 3 m) (withM_len 6 3 m hm) (withM_oct 6 3 m (by omega) (by omega) om) ⟨5, 0, 0, 0, false, m⟩ (rd_rtr m hm)) (fun w2 hB => ?_)
      exact ⟨c2, c3, c5, c6, true, true, c11, c12, p0, p1, p2, p3, s17, s18, s19, s20, by kernel_rfl, by kernel_rfl, hC.below hB, hV.below hB, h0, h1, h2, h3⟩
    · exact Bool.noConfusion (show true = false from hi2)
    · obtain rfl : c11 = false := hi2
      obtain rfl : c9 = true := hi3 _ rfl 1 _ rfl rfl
      refine wpOp_call rfl rfl _ _ (by kernel_rfl) (me_is _ k hk.1 (by omega)) (fun w2 hB => ?_)
      exact ⟨c2, c3, c5, c6, c8, true, true, c12, p0, p1, p2, p3, s17, s18, s19, s20, by kernel_rfl, by kernel_rfl, hC.below hB, hV.below hB, h0, h1, h2, h3⟩
    · obtain rfl : c12 = false := hi2
      obtain rfl : c11 = true := hi3 _ rfl 0 _ rfl rfl
      refine wpOp_call rfl rfl _ _ (by kernel_rfl) (rd_isA _ (enc k) (enc_len k) (enc_oct k) ⟨6, 0, 0, k, false, z6⟩ (rd_enc k hk.1 hk.2)) (fun w2 hB => ?_)
      exact ⟨c2, c3, c5, c6, c8, c9, true, true, p0, p1, p2, p3, s17, s18, s19, s20, by kernel_rfl, by kernel_rfl, hC.below hB, hV.below hB, h0, h1, h2, h3⟩
    · obtain rfl : p0 = none := by
        cases p0 with
        | none => rfl
        | some x => exact Bool.noConfusion (show true = false from hi2)
      obtain rfl : s17 = false := by
        cases s17 with
        | false => rfl
        | true => exact Bool.noConfusion (show false = true from h0.2 rfl)
      have hA : Below w1.heap.size w1 (w1.alloc (.cells zfd 63)) := (Below.refl _ _).alloc (Nat.le_refl _) _
      have hz := hC.mac.lt
      refine wpOp_value rfl rfl (.pointer (some ⟨w1.heap.size, 0, none⟩)) (w1.alloc (.cells zfd 63)) (by kernel_rfl) ?_
      exact ⟨c2, c3, c5, c6, c8, c9, c11, c12, some (w1.heap.size, zfd), p1, p2, p3, false, s18, s19, s20, by kernel_rfl, by kernel_rfl, hC.below hA, hV.alloc (by omega) 0 zfd, ⟨fun x h => by cases h; rfl, fun h => by cases h⟩, h1, h2, h3⟩
    · obtain rfl : p1 = none := by
        cases p1 with
        | none => rfl
        | some x => exact Bool.noConfusion (show true = false from hi2)
      obtain rfl : s18 = false := by
        cases s18 with
        | false => rfl
        | true => exact Bool.noConfusion (show false = true from h1.2 rfl)
      have hA : Below w1.heap.size w1 (w1.alloc (.cells zfd 63)) := (Below.refl _ _).alloc (Nat.le_refl _) _
      have hz := hC.mac.lt
      refine wpOp_value rfl rfl (.pointer (some ⟨w1.heap.size, 0, none⟩)) (w1.alloc (.cells zfd 63)) (by kernel_rfl) ?_
      exact ⟨c2, c3, c5, c6, c8, c9, c11, c12, p0, some (w1.heap.size, zfd), p2, p3, s17, false, s19, s20, by kernel_rfl, by kernel_rfl, hC.below hA, hV.alloc (by omega) 1 zfd, h0, ⟨fun x h => by cases h; rfl, fun h => by cases h⟩, h2, h3⟩
    · obtain rfl : p2 = none := by
        cases p2 with
        | none => rfl
        | some x => exact Bool.noConfusion (show true = false from hi2)
      obtain rfl : s19 = false := by
        cases s19 with
        | false => rfl
        | true => exact Bool.noConfusion (show false = true from h2.2 rfl)
      have hA : Below w1.heap.size w1 (w1.alloc (.cells zfd 63)) := (Below.refl _ _).alloc (Nat.le_refl _) _
      have hz := hC.mac.lt
      refine wpOp_value rfl rfl (.pointer (some ⟨w1.heap.size, 0, none⟩)) (w1.alloc (.cells zfd 63)) (by kernel_rfl) ?_
      exact ⟨c2, c3, c5, c6, c8, c9, c11, c12, p0, p1, some (w1.heap.size, zfd), p3, s17, s18, false, s20, by kernel_rfl, by kernel_rfl, hC.below hA, hV.alloc (by omega) 2 zfd, h0, h1, ⟨fun x h => by cases h; rfl, fun h => by cases h⟩, h3⟩
    · obtain rfl : p3 = none := by
        cases p3 with
        | none => rfl
        | some x => exact Bool.noConfusion (show true = false from hi2)
      obtain rfl : s20 = false := by
        cases s20 with
        | false => rfl
        | true => exact Bool.noConfusion (show false = true from h3.2 rfl)
      have hA : Below w1.heap.size w1 (w1.alloc (.cells zfd 63)) := (Below.refl _ _).alloc (Nat.le_refl _) _
      have hz := hC.mac.lt
      refine wpOp_value rfl rfl (.pointer (some ⟨w1.heap.size, 0, none⟩)) (w1.alloc (.cells zfd 63)) (by kernel_rfl) ?_
      exact ⟨c2, c3, c5, c6, c8, c9, c11, c12, p0, p1, p2, some (w1.heap.size, zfd), s17, s18, s19, false, by kernel_rfl, by kernel_rfl, hC.below hA, hV.alloc (by omega) 3 zfd, h0, h1, h2, ⟨fun x h => by cases h; rfl, fun h => by cases h⟩⟩
    · obtain rfl : s17 = false := hi2
      obtain ⟨⟨g, cs⟩, rfl⟩ : ∃ x, p0 = some x := Option.isSome_iff_exists.1 (show p0.isSome = true from hi3 _ rfl 0 _ rfl rfl)
      obtain rfl : c3 = true := hi3 _ rfl 1 _ rfl rfl
      obtain rfl : cs = zfd := h0.1 _ rfl
      have hb := hV.blk 0 (g, zfd) rfl
      have hg : w.heap.size + 1 ≤ g := hb.1
      have hlow : Below w.heap.size w (w1.setRow g (fdA ⟨2, 0, 0, n, fg, z6⟩)) := hC.low.trans (below_setRow _ _ _ (by omega))
      have hf : (⟨2, 0, 0, n, fg, z6⟩ : Fd).mac.length = 6 := rfl
      refine wpOp_fdA rfl rfl (.tmp 17) (.tmp 88) rfl g ⟨2, 0, 0, n, fg, z6⟩ hf (by kernel_rfl) (by kernel_rfl) zfd hb.2 rfl ?_
      exact ⟨c2, true, c5, c6, c8, c9, c11, c12, some (g, fdA ⟨2, 0, 0, n, fg, z6⟩), p1, p2, p3, true, s18, s19, s20, by kernel_rfl, by kernel_rfl, ⟨hC.mac.setRow_ne _ (by omega), hlow, HE.out.below hlow⟩, hV.set 0 g zfd (fdA ⟨2, 0, 0, n, fg, z6⟩) rfl, ⟨fun x h => by cases h; rfl, fun _ => rfl⟩, h1, h2, h3⟩
    · obtain rfl : s18 = false := hi2
      obtain ⟨⟨g, cs⟩, rfl⟩ : ∃ x, p1 = some x := Option.isSome_iff_exists.1 (show p1.isSome = true from hi3 _ rfl 0 _ rfl rfl)
      obtain rfl : c6 = true := hi3 _ rfl 1 _ rfl rfl
      obtain rfl : cs = zfd := h1.1 _ rfl
      have hb := hV.blk 1 (g, zfd) rfl
      have hg : w.heap.size + 1 ≤ g := hb.1
      have hlow : Below w.heap.size w (w1.setRow g (fdA ⟨4, 0, 0, 0, false, m⟩)) := hC.low.trans (below_setRow _ _ _ (by omega))
      have hf : (⟨4, 0, 0, 0, false, m⟩ : Fd).mac.length = 6 := hm
      refine wpOp_fdA rfl rfl (.tmp 18) (.tmp 91) rfl g ⟨4, 0, 0, 0, false, m⟩ hf (by kernel_rfl) (by kernel_rfl) zfd hb.2 rfl ?_
      exact ⟨c2, c3, c5, true, c8, c9, c11, c12, p0, some (g, fdA ⟨4, 0, 0, 0, false, m⟩), p2, p3, s17, true, s19, s20, by kernel_rfl, by kernel_rfl, ⟨hC.mac.setRow_ne _ (by omega), hlow, HE.out.below hlow⟩, hV.set 1 g zfd (fdA ⟨4, 0, 0, 0, false, m⟩) rfl, h0, ⟨fun x h => by cases h; rfl, fun _ => rfl⟩, h2, h3⟩
    · obtain rfl : s19 = false := hi2
      obtain ⟨⟨g, cs⟩, rfl⟩ : ∃ x, p2 = some x := Option.isSome_iff_exists.1 (show p2.isSome = true from hi3 _ rfl 0 _ rfl rfl)
      obtain rfl : c9 = true := hi3 _ rfl 1 _ rfl rfl
      obtain rfl : cs = zfd := h2.1 _ rfl
      have hb := hV.blk 2 (g, zfd) rfl
      have hg : w.heap.size + 1 ≤ g := hb.1
      have hlow : Below w.heap.size w (w1.setRow g (fdA ⟨5, 0, 0, 0, false, m⟩)) := hC.low.trans (below_setRow _ _ _ (by omega))
      have hf : (⟨5, 0, 0, 0, false, m⟩ : Fd).mac.length = 6 := hm
      refine wpOp_fdA rfl rfl (.tmp 19) (.tmp 94) rfl g ⟨5, 0, 0, 0, false, m⟩ hf (by kernel_rfl) (by kernel_rfl) zfd hb.2 rfl ?_
      exact ⟨c2, c3, c5, c6, c8, true, c11, c12, p0, p1, some (g, fdA ⟨5, 0, 0, 0, false, m⟩), p3, s17, s18, true, s20, by kernel_rfl, by kernel_rfl, ⟨hC.mac.setRow_ne _ (by omega), hlow, HE.out.below hlow⟩, hV.set 2 g zfd (fdA ⟨5, 0, 0, 0, false, m⟩) rfl, h0, h1, ⟨fun x h => by cases h; rfl, fun _ => rfl⟩, h3⟩
    · obtain rfl : s20 = false := hi2
      obtain ⟨⟨g, cs⟩, rfl⟩ : ∃ x, p3 = some x := Option.isSome_iff_exists.1 (show p3.isSome = true from hi3 _ rfl 0 _ rfl rfl)
      obtain rfl : c12 = true := hi3 _ rfl 1 _ rfl rfl
      obtain rfl : cs = zfd := h3.1 _ rfl
      have hb := hV.blk 3 (g, zfd) rfl
      have hg : w.heap.size + 1 ≤ g := hb.1
      have hlow : Below w.heap.size w (w1.setRow g (fdA ⟨6, 0, 0, k, false, z6⟩)) := hC.low.trans (below_setRow _ _ _ (by omega))
      have hf : (⟨6, 0, 0, k, false, z6⟩ : Fd).mac.length = 6 := rfl
      refine wpOp_fdA rfl rfl (.tmp 20) (.tmp 97) rfl g ⟨6, 0, 0, k, false, z6⟩ hf (by kernel_rfl) (by kernel_rfl) zfd hb.2 rfl ?_
      exact ⟨c2, c3, c5, c6, c8, c9, c11, true, p0, p1, p2, some (g, fdA ⟨6, 0, 0, k, false, z6⟩), s17, s18, s19, true, by kernel_rfl, by kernel_rfl, ⟨hC.mac.setRow_ne _ (by omega), hlow, HE.out.below hlow⟩, hV.set 3 g zfd (fdA ⟨6, 0, 0, k, false, z6⟩) rfl, h0, h1, h2, ⟨fun x h => by cases h; rfl, fun _ => rfl⟩⟩
end Go.Proofs.YtkaimdcepnhkdaaDoor
namespace Go.Proofs.YtkaimdcepnhkdaaDoor
open Go.RowKit
set_option linter.unusedSimpArgs false
set_option linter.unusedVariables false

set_option maxHeartbeats 2000000 in
set_option maxRecDepth 100000 in
theorem cb_31 (w : World) (E : Env w) (a n : Int) (fg : Bool) (m : List Int) (k : Int) (ha : 0 ≤ a ∧ a ≤ 4294967295) (hn : 0 ≤ n ∧ n ≤ 4294967295) (hm : m.length = 6) (om : Oct m) (hk : 0 ≤ k ∧ k ≤ 65535) (ca : ¬ a ≤ 65535) (cn : ¬ n ≤ 65535) (cl : n ≤ 16777215) :
    Calls Tryd.prog 8 #[.int .u32 a, .int .u32 n, .bool fg, .agg (u8s m).toArray, .int .u16 k] w fun e w' => e = .returned (.bool true) ∧ Below w.heap.size w w' := by
  have hl0 := (Below.refl w.heap.size w).alloc (Nat.le_refl _) (.cells (u8s m).toArray 49)
  have HC : Hid (CM w (w.alloc (.cells (u8s m).toArray 49)) m) := Lib.hid ⟨Blk.new w 49 _, hl0, E.below hl0⟩
  have HO : Hid (mtO a n = none) := Lib.hid (by unfold mtO; rw [if_neg ca, if_neg cn])
  have ta : ¬ (a < 65536) := by omega
  have tn : ¬ (n < 65536) := by omega
  have HL : Hid (mlO fg n = some (lab fg n)) := Lib.hid (by unfold mlO; rw [if_pos cl])
  have HM := Lib.hid (rd_lab fg n hn.1 cl)
  have HE := Lib.hid E
  have hke : k % 4294967296 = k := Int.emod_eq_of_lt hk.1 (by omega)
  clear hl0
  go_enter Tryd.func8, Tryd.ntmps8
  go_wp2_with fail
  refine (mt_no _ a n ha.1 (by omega) hn.1 (by omega) HO.out).mono ?_
  rintro e w1 ⟨rfl, hB⟩
  have hC := HC.out.below hB
  obtain ⟨b1, s0, s1⟩ := new_comm hC.low z8
  have HN1 := Lib.hid (Blk.new w1 52 zc8)
  have HC1 := Lib.hid (hC.below s1)
  clear hB hC b1 s0 s1 HC
  go_wp2_with (refine comm_store rfl _ _ rfl w1.heap.size z8 rfl rfl rfl 52 zc8 HN1.out rfl ?_)
  refine (ml_at _ fg n hn.1 (by omega) (lab fg n) HL.out).mono ?_
  rintro e w3 ⟨rfl, hB⟩
  have hC := HC1.out.below hB
  obtain ⟨b1, s0, s1⟩ := new_comm hC.low (lab fg n)
  have HN3 := Lib.hid (Blk.new w3 52 zc8)
  have HC3 := Lib.hid (hC.below s1)
  have HA3 := Lib.hid b1
  clear hB hC b1 s0 s1 HC1
  go_wp2_with (first
    | (refine comm_store rfl _ _ rfl w3.heap.size (lab fg n) (lab_len fg n) rfl rfl 52 zc8 HN3.out rfl ?_)
    | (refine comm_fetch rfl _ rfl w3.heap.size 0 (lab fg n) (lab_len fg n) rfl HA3.out.range ?_))
  refine (rd_isA _ (lab fg n) (lab_len fg n) (lab_oct fg n) ⟨3, 0, 0, n, fg, z6⟩ HM.out).mono ?_
  rintro e w4 ⟨rfl, hB⟩
  have hC := HC3.out.below hB
  obtain ⟨b1, s0, s1⟩ := new_fd hC.low ⟨3, 0, 0, n, fg, z6⟩
  have HN4 := Lib.hid (Blk.new w4 63 zfd)
  have HC4 := Lib.hid (hC.below s1)
  have c0 := (FdCell b1).1
  have c1 := (FdCell b1).2.1
  have c2 := (FdCell b1).2.2.1
  have c3 := (FdCell b1).2.2.2.1
  have c4 := (FdCell b1).2.2.2.2
  simp only at c0 c1 c2 c3 c4
  clear hB hC b1 s0 s1 HC3 HA3 HN3
  go_wp2_with (refine fdA_store rfl _ _ rfl w4.heap.size ⟨3, 0, 0, n, fg, z6⟩ rfl rfl rfl 63 zfd HN4.out rfl ?_)
  clear c0 c1 c2 c3 c4
  refine wp_region_held_drew (S := fun w' => CM w w' m) (by kernel_rfl) (⟨HC4.out.mac, below_drewN HC4.out.low 1, HC4.out.env.drewN 1⟩) (fun hS => ?_)
  refine wpAnyH_take (i := 0) (oi := ⟨some 85, _, _, _, _, _⟩) (v := ?_) rfl (by kernel_rfl) (by kernel_rfl) (by kernel_rfl) (fun _ _ _ h => h) (Or.inl ⟨by rfl, ?_⟩) hS ?_
  rotate_left
  · intro wq hq
    first | (go_simp; done) | (go_simp; rfl)
  try simp only [Act.put, List.setIfInBounds_toArray, List.set_cons_zero, List.set_cons_succ]
  refine wpAnyH_take (i := 1) (oi := ⟨some 86, _, _, _, _, _⟩) (v := ?_) rfl (by kernel_rfl) (by kernel_rfl) (by kernel_rfl) (fun _ _ _ h => h) (Or.inl ⟨by rfl, ?_⟩) hS ?_
  rotate_left
  · intro wq hq
    first | (go_simp; done) | (go_simp; rfl)
  try simp only [Act.put, List.setIfInBounds_toArray, List.set_cons_zero, List.set_cons_succ]
  refine wpAnyH_take (i := 4) (oi := ⟨some 89, _, _, _, _, _⟩) rfl (by kernel_rfl) (by kernel_rfl) (by kernel_rfl) (fun _ _ _ h => h) (yieldsIf_load_mid (by rfl) 49 _ rfl _ _ rfl (u8s m) _ (fun wq hq => hq.mac.range) Tryd.underlying49 rfl (by simpa using mac6_size m hm)) hS ?_
  try simp only [Act.put, List.setIfInBounds_toArray, List.set_cons_zero, List.set_cons_succ]
  refine wpAnyH_take (i := 7) (oi := ⟨some 92, _, _, _, _, _⟩) rfl (by kernel_rfl) (by kernel_rfl) (by kernel_rfl) (fun _ _ _ h => h) (yieldsIf_load_mid (by rfl) 49 _ rfl _ _ rfl (u8s m) _ (fun wq hq => hq.mac.range) Tryd.underlying49 rfl (by simpa using mac6_size m hm)) hS ?_
  try simp only [Act.put, List.setIfInBounds_toArray, List.set_cons_zero, List.set_cons_succ]
  refine wpAnyH_take (i := 10) (oi := ⟨some 95, _, _, _, _, _⟩) (v := ?_) rfl (by kernel_rfl) (by kernel_rfl) (by kernel_rfl) (fun _ _ _ h => h) (Or.inl ⟨by rfl, ?_⟩) hS ?_
  rotate_left
  · intro wq hq
    first | (go_simp; done) | (go_simp; rfl)
  try simp only [Act.put, List.setIfInBounds_toArray, List.set_cons_zero, List.set_cons_succ]
  refine wpAnyH_start (fun A L a w1 => ∃ (c2 c3 c5 c6 c8 c9 c11 c12 : Bool) (p0 p1 p2 p3 : Option (Nat × Array Value)) (s17 s18 s19 s20 : Bool), L = #[true, true, c2, c3, true, c5, c6, true, c8, c9, true, c11, c12, p0.isSome, p1.isSome, p2.isSome, p3.isSome, s17, s18, s19, s20] ∧ a = ((((((((((((A.put (some 87) (bif c2 then (.agg (u8s (mob fg n)).toArray) else undef)).put (some 88) (bif c3 then (.agg (fdA ⟨2, 0, 0, n, fg, z6⟩)) else undef)).put (some 90) (bif c5 then (.agg (u8s (withM 6 2 m)).toArray) else undef)).put (some 91) (bif c6 then (.agg (fdA ⟨4, 0, 0, 0, false, m⟩)) else undef)).put (some 93) (bif c8 then (.agg (u8s (withM 6 3 m)).toArray) else undef)).put (some 94) (bif c9 then (.agg (fdA ⟨5, 0, 0, 0, false, m⟩)) else undef)).put (some 96) (bif c11 then (.agg (u8s (enc k)).toArray) else undef)).put (some 97) (bif c12 then (.agg (fdA ⟨6, 0, 0, k, false, z6⟩)) else undef)).put (some 17) (pv p0)).put (some 18) (pv p1)).put (some 19) (pv p2)).put (some 20) (pv p3)) ∧ CM w w1 m ∧ VarsAt w1 (w.heap.size + 1) 63 [p0, p1, p2, p3] ∧ ((∀ x, p0 = some x → x.2 = bif s17 then fdA ⟨2, 0, 0, n, fg, z6⟩ else zfd) ∧ (s17 = true → p0.isSome = true)) ∧ ((∀ x, p1 = some x → x.2 = bif s18 then fdA ⟨4, 0, 0, 0, false, m⟩ else zfd) ∧ (s18 = true → p1.isSome = true)) ∧ ((∀ x, p2 = some x → x.2 = bif s19 then fdA ⟨5, 0, 0, 0, false, m⟩ else zfd) ∧ (s19 = true → p2.isSome = true)) ∧ ((∀ x, p3 = some x → x.2 = bif s20 then fdA ⟨6, 0, 0, k, false, z6⟩ else zfd) ∧ (s20 = true → p3.isSome = true))) ?_ (Nat.le_of_ble_eq_true (by kernel_rfl)) ?_ ?_ ?_
  · exact ⟨false, false, false, false, false, false, false, false, none, none, none, none, false, false, false, false, by kernel_rfl, by kernel_rfl, hS, ⟨fun i x hx => by rcases i with _ | _ | _ | _ | i <;> simp at hx, fun i j x y _ hx _ => by rcases i with _ | _ | _ | _ | i <;> simp at hx⟩, ⟨(fun x h => by cases h), fun h => by cases h⟩, ⟨(fun x h => by cases h), fun h => by cases h⟩, ⟨(fun x h => by cases h), fun h => by cases h⟩, ⟨(fun x h => by cases h), fun h => by cases h⟩⟩
  · rintro L a' w1 ⟨c2, c3, c5, c6, c8, c9, c11, c12, p0, p1, p2, p3, s17, s18, s19, s20, rfl, rfl, hC, hV, h0, h1, h2, h3⟩
    exact hC
  · rintro L a' w1 ⟨c2, c3, c5, c6, c8, c9, c11, c12, p0, p1, p2, p3, s17, s18, s19, s20, rfl, rfl, hC, hV, h0, h1, h2, h3⟩ hr
    obtain rfl : c2 = true := by
      cases c2 with
      | true => rfl
      | false => exact (ready_no hr 2 (show 2 < 21 by decide) _ rfl rfl (by kernel_rfl)).elim
    obtain rfl : c3 = true := by
      cases c3 with
      | true => rfl
      | false => exact (ready_no hr 3 (show 3 < 21 by decide) _ rfl rfl (by kernel_rfl)).elim
    obtain rfl : c5 = true := by
      cases c5 with
      | true => rfl
      | false => exact (ready_no hr 5 (show 5 < 21 by decide) _ rfl rfl (by kernel_rfl)).elim
    obtain rfl : c6 = true := by
      cases c6 with
      | true => rfl
      | false => exact (ready_no hr 6 (show 6 < 21 by decide) _ rfl rfl (by kernel_rfl)).elim
    obtain rfl : c8 = true := by
      cases c8 with
      | true => rfl
      | false => exact (ready_no hr 8 (show 8 < 21 by decide) _ rfl rfl (by kernel_rfl)).elim
    obtain rfl : c9 = true := by
      cases c9 with
      | true => rfl
      | false => exact (ready_no hr 9 (show 9 < 21 by decide) _ rfl rfl (by kernel_rfl)).elim
    obtain rfl : c11 = true := by
      cases c11 with
      | true => rfl
      | false => exact (ready_no hr 11 (show 11 < 21 by decide) _ rfl rfl (by kernel_rfl)).elim
    obtain rfl : c12 = true := by
      cases c12 with
      | true => rfl
      | false => exact (ready_no hr 12 (show 12 < 21 by decide) _ rfl rfl (by kernel_rfl)).elim
    obtain ⟨⟨g0, e0⟩, rfl⟩ : ∃ x, p0 = some x := by
      cases p0 with
      | some x => exact ⟨x, rfl⟩
      | none => exact (ready_no hr 13 (show 13 < 21 by decide) _ rfl rfl (by kernel_rfl)).elim
    obtain ⟨⟨g1, e1⟩, rfl⟩ : ∃ x, p1 = some x := by
      cases p1 with
      | some x => exact ⟨x, rfl⟩
      | none => exact (ready_no hr 14 (show 14 < 21 by decide) _ rfl rfl (by kernel_rfl)).elim
    obtain ⟨⟨g2, e2⟩, rfl⟩ : ∃ x, p2 = some x := by
      cases p2 with
      | some x => exact ⟨x, rfl⟩
      | none => exact (ready_no hr 15 (show 15 < 21 by decide) _ rfl rfl (by kernel_rfl)).elim
    obtain ⟨⟨g3, e3⟩, rfl⟩ : ∃ x, p3 = some x := by
      cases p3 with
      | some x => exact ⟨x, rfl⟩
      | none => exact (ready_no hr 16 (show 16 < 21 by decide) _ rfl rfl (by kernel_rfl)).elim
    obtain rfl : s17 = true := by
      cases s17 with
      | true => rfl
      | false => exact (ready_no hr 17 (show 17 < 21 by decide) _ rfl rfl (by kernel_rfl)).elim
    obtain rfl : s18 = true := by
      cases s18 with
      | true => rfl
      | false => exact (ready_no hr 18 (show 18 < 21 by decide) _ rfl rfl (by kernel_rfl)).elim
    obtain rfl : s19 = true := by
      cases s19 with
      | true => rfl
      | false => exact (ready_no hr 19 (show 19 < 21 by decide) _ rfl rfl (by kernel_rfl)).elim
    obtain rfl : s20 = true := by
      cases s20 with
      | true => rfl
      | false => exact (ready_no hr 20 (show 20 < 21 by decide) _ rfl rfl (by kernel_rfl)).elim
    obtain rfl : e0 = fdA ⟨2, 0, 0, n, fg, z6⟩ := h0.1 _ rfl
    have b0 := (hV.blk 0 _ rfl).2
    obtain rfl : e1 = fdA ⟨4, 0, 0, 0, false, m⟩ := h1.1 _ rfl
    have b1 := (hV.blk 1 _ rfl).2
    obtain rfl : e2 = fdA ⟨5, 0, 0, 0, false, m⟩ := h2.1 _ rfl
    have b2 := (hV.blk 2 _ rfl).2
    obtain rfl : e3 = fdA ⟨6, 0, 0, k, false, z6⟩ := h3.1 _ rfl
    have b3 := (hV.blk 3 _ rfl).2
    have d00 : w1.cell? ⟨g0, 0, none⟩ = some (.int .i64 2) := (FdCell b0).1
    have d03 : w1.cell? ⟨g0, 3, none⟩ = some (.int .u32 n) := (FdCell b0).2.2.2.1
    have d04 : w1.cell? ⟨g0, 4, none⟩ = some (.bool fg) := (FdCell b0).2.2.2.2
    have d10 : w1.cell? ⟨g1, 0, none⟩ = some (.int .i64 4) := (FdCell b1).1
    have d20 : w1.cell? ⟨g2, 0, none⟩ = some (.int .i64 5) := (FdCell b2).1
    have d30 : w1.cell? ⟨g3, 0, none⟩ = some (.int .i64 6) := (FdCell b3).1
    have d33 : w1.cell? ⟨g3, 3, none⟩ = some (.int .u32 k) := (FdCell b3).2.2.2.1
    have HM1 : Hid (w1.rangeAt g1 5 (u8s m)) := Lib.hid (FdMac b1)
    have HM2 : Hid (w1.rangeAt g2 5 (u8s m)) := Lib.hid (FdMac b2)
    have HC9 := Lib.hid hC
    have hme := mac_eq m hm om
    clear hr hV h0 h1 h2 h3 b0 b1 b2 b3 hC
    simp only [cond_true, pv, Act.put, List.setIfInBounds_toArray, List.set_cons_zero, List.set_cons_succ]
    go_wp2_with (first
      | (refine mac6_fetch rfl _ rfl g1 5 m hm rfl HM1.out ?_)
      | (refine mac6_fetch rfl _ rfl g2 5 m hm rfl HM2.out ?_)
      | (refine mac6_fetch rfl _ rfl w.heap.size 0 m hm rfl HC9.out.mac.range ?_))
    refine (alive4_is _ HC9.out.env).mono ?_
    rintro e w9 ⟨rfl, hB⟩
    go_wp2
    go_ret
    exact ⟨rfl, (HC9.out.below hB).low⟩
  · rintro L a' w1 ⟨c2, c3, c5, c6, c8, c9, c11, c12, p0, p1, p2, p3, s17, s18, s19, s20, rfl, rfl, hC, hV, h0, h1, h2, h3⟩ i hi
    obtain ⟨hi1, hi2, hi3⟩ := ready_mem hi
    clear hi
    have hi4 : i = 0 ∨ i = 1 ∨ i = 2 ∨ i = 3 ∨ i = 4 ∨ i = 5 ∨ i = 6 ∨ i = 7 ∨ i = 8 ∨ i = 9 ∨ i = 10 ∨ i = 11 ∨ i = 12 ∨ i = 13 ∨ i = 14 ∨ i = 15 ∨ i = 16 ∨ i = 17 ∨ i = 18 ∨ i = 19 ∨ i = 20 := by
      have : i < 21 := hi1
      omega
    clear hi1
    rcases hi4 with rfl | rfl | rfl | rfl | rfl | rfl | rfl | rfl | rfl | rfl | rfl | rfl | rfl | rfl | rfl | rfl | rfl | rfl | rfl | rfl | rfl
    · exact Bool.noConfusion (show true = false from hi2)
    · exact Bool.noConfusion (show true = false from hi2)
    · obtain rfl : c2 = false := hi2
      refine wpOp_call rfl rfl _ _ (by kernel_rfl) (mm_is _ fg n hn.1 (by omega)) (fun w2 hB => ?_)
      exact ⟨true, c3, c5, c6, c8, c9, c11, c12, p0, p1, p2, p3, s17, s18, s19, s20, by kernel_rfl, by kernel_rfl, hC.below hB, hV.below hB, h0, h1, h2, h3⟩
    · obtain rfl : c3 = false := hi2
      obtain rfl : c2 = true := hi3 _ rfl 0 _ rfl rfl
      refine wpOp_call rfl rfl _ _ (by kernel_rfl) (rd_isA _ (mob fg n) (mob_len fg n) (mob_oct fg n) ⟨2, 0, 0, n, fg, z6⟩ (rd_mob fg n hn.1 hn.2)) (fun w2 hB => ?_)
      exact ⟨true, true, c5, c6, c8, c9, c11, c12, p0, p1, p2, p3, s17, s18, s19, s20, by kernel_rfl, by kernel_rfl, hC.below hB, hV.below hB, h0, h1, h2, h3⟩
    · exact Bool.noConfusion (show true = false from hi2)
    · obtain rfl : c5 = false := hi2
      obtain rfl : c3 = true := hi3 _ rfl 1 _ rfl rfl
      refine wpOp_call rfl rfl _ _ (by kernel_rfl) (mi_is _ m hm) (fun w2 hB => ?_)
      exact ⟨c2, true, true, c6, c8, c9, c11, c12, p0, p1, p2, p3, s17, s18, s19, s20, by kernel_rfl, by kernel_rfl, hC.below hB, hV.below hB, h0, h1, h2, h3⟩
    · obtain rfl : c6 = false := hi2
      obtain rfl : c5 = true := hi3 _ rfl 0 _ rfl rfl
      refine wpOp_call rfl rfl _ _ (by kernel_rfl) (rd_isA _ (withM 6 2 m) (withM_len 6 2 m hm) (withM_oct 6 2 m (by omega) (by omega) om) ⟨4, 0, 0, 0, false, m⟩ (rd_imp m hm)) (fun w2 hB => ?_)
      exact ⟨c2, c3, true, true, c8, c9, c11, c12, p0, p1, p2, p3, s17, s18, s19, s20, by kernel_rfl, by kernel_rfl, hC.below hB, hV.below hB, h0, h1, h2, h3⟩
    · exact Bool.noConfusion (show true = false from hi2)
    · obtain rfl : c8 = false := hi2
      obtain rfl : c6 = true := hi3 _ rfl 1 _ rfl rfl
      refine wpOp_call rfl rfl _ _ (by kernel_rfl) (mr_is _ m hm) (fun w2 hB => ?_)
      exact ⟨c2, c3, c5, true, true, c9, c11, c12, p0, p1, p2, p3, s17, s18, s19, s20, by kernel_rfl, by kernel_rfl, hC.below hB, hV.below hB, h0, h1, h2, h3⟩
    · obtain rfl : c9 = false := hi2
      obtain rfl : c8 = true := hi3 _ rfl 0 _ rfl rfl
      refine wpOp_call rfl rfl _ _ (by kernel_rfl) (rd_isA _ (withM 6 3 m) (withM_len 6 3 m hm) (withM_oct 6 3 m (by omega) (by omega) om) ⟨5, 0, 0, 0, false, m⟩ (rd_rtr m hm)) (fun w2 hB => ?_)
      exact ⟨c2, c3, c5, c6, true, true, c11, c12, p0, p1, p2, p3, s17, s18, s19, s20, by kernel_rfl, by kernel_rfl, hC.below hB, hV.below hB, h0, h1, h2, h3⟩
    · exact Bool.noConfusion (show true = false from hi2)
    · obtain rfl : c11 = false := hi2
      obtain rfl : c9 = true := hi3 _ rfl 1 _ rfl rfl
      refine wpOp_call rfl rfl _ _ (by kernel_rfl) (me_is _ k hk.1 (by omega)) (fun w2 hB => ?_)
      exact ⟨c2, c3, c5, c6, c8, true, true, c12, p0, p1, p2, p3, s17, s18, s19, s20, by kernel_rfl, by kernel_rfl, hC.below hB, hV.below hB, h0, h1, h2, h3⟩
    · obtain rfl : c12 = false := hi2
      obtain rfl : c11 = true := hi3 _ rfl 0 _ rfl rfl
      refine wpOp_call rfl rfl _ _ (by kernel_rfl) (rd_isA _ (enc k) (enc_len k) (enc_oct k) ⟨6, 0, 0, k, false, z6⟩ (rd_enc k hk.1 hk.2)) (fun w2 hB => ?_)
      exact ⟨c2, c3, c5, c6, c8, c9, true, true, p0, p1, p2, p3, s17, s18, s19, s20, by kernel_rfl, by kernel_rfl, hC.below hB, hV.below hB, h0, h1, h2, h3⟩
    · obtain rfl : p0 = none := by
        cases p0 with
        | none => rfl
        | some x => exact Bool.noConfusion (show true = false from hi2)
      obtain rfl : s17 = false := by
        cases s17 with
        | false => rfl
        | true => exact Bool.noConfusion (show false = true from h0.2 rfl)
      have hA : Below w1.heap.size w1 (w1.alloc (.cells zfd 63)) := (Below.refl _ _).alloc (Nat.le_refl _) _
      have hz := hC.mac.lt
      refine wpOp_value rfl rfl (.pointer (some ⟨w1.heap.size, 0, none⟩)) (w1.alloc (.cells zfd 63)) (by kernel_rfl) ?_
      exact ⟨c2, c3, c5, c6, c8, c9, c11, c12, some (w1.heap.size, zfd), p1, p2, p3, false, s18, s19, s20, by kernel_rfl, by kernel_rfl, hC.below hA, hV.alloc (by omega) 0 zfd, ⟨fun x h => by cases h; rfl, fun h => by cases h⟩, h1, h2, h3⟩
    · obtain rfl : p1 = none := by
        cases p1 with
        | none => rfl
        | some x => exact Bool.noConfusion (show true = false from hi2)
      obtain rfl : s18 = false := by
        cases s18 with
        | false => rfl
        | true => exact Bool.noConfusion (show false = true from h1.2 rfl)
      have hA : Below w1.heap.size w1 (w1.alloc (.cells zfd 63)) := (Below.refl _ _).alloc (Nat.le_refl _) _
      have hz := hC.mac.lt
      refine wpOp_value rfl rfl (.pointer (some ⟨w1.heap.size, 0, none⟩)) (w1.alloc (.cells zfd 63)) (by kernel_rfl) ?_
      exact ⟨c2, c3, c5, c6, c8, c9, c11, c12, p0, some (w1.heap.size, zfd), p2, p3, s17, false, s19, s20, by kernel_rfl, by kernel_rfl, hC.below hA, hV.alloc (by omega) 1 zfd, h0, ⟨fun x h => by cases h; rfl, fun h => by cases h⟩, h2, h3⟩
    · obtain rfl : p2 = none := by
        cases p2 with
        | none => rfl
        | some x => exact Bool.noConfusion (show true = false from hi2)
      obtain rfl : s19 = false := by
        cases s19 with
        | false => rfl
        | true => exact Bool.noConfusion (show false = true from h2.2 rfl)
      have hA : Below w1.heap.size w1 (w1.alloc (.cells zfd 63)) := (Below.refl _ _).alloc (Nat.le_refl _) _
      have hz := hC.mac.lt
      refine wpOp_value rfl rfl (.pointer (some ⟨w1.heap.size, 0, none⟩)) (w1.alloc (.cells zfd 63)) (by kernel_rfl) ?_
      exact ⟨c2, c3, c5, c6, c8, c9, c11, c12, p0, p1, some (w1.heap.size, zfd), p3, s17, s18, false, s20, by kernel_rfl, by kernel_rfl, hC.below hA, hV.alloc (by omega) 2 zfd, h0, h1, ⟨fun x h => by cases h; rfl, fun h => by cases h⟩, h3⟩
    · obtain rfl : p3 = none := by
        cases p3 with
        | none => rfl
        | some x => exact Bool.noConfusion (show true = false from hi2)
      obtain rfl : s20 = false := by
        cases s20 with
        | false => rfl
        | true => exact Bool.noConfusion (show false = true from h3.2 rfl)
      have hA : Below w1.heap.size w1 (w1.alloc (.cells zfd 63)) := (Below.refl _ _).alloc (Nat.le_refl _) _
      have hz := hC.mac.lt
      refine wpOp_value rfl rfl (.pointer (some ⟨w1.heap.size, 0, none⟩)) (w1.alloc (.cells zfd 63)) (by kernel_rfl) ?_
      exact ⟨c2, c3, c5, c6, c8, c9, c11, c12, p0, p1, p2, some (w1.heap.size, zfd), s17, s18, s19, false, by kernel_rfl, by kernel_rfl, hC.below hA, hV.alloc (by omega) 3 zfd, h0, h1, h2, ⟨fun x h => by cases h; rfl, fun h => by cases h⟩⟩
    · obtain rfl : s17 = false := hi2
      obtain ⟨⟨g, cs⟩, rfl⟩ : ∃ x, p0 = some x := Option.isSome_iff_exists.1 (show p0.isSome = true from hi3 _ rfl 0 _ rfl rfl)
      obtain rfl : c3 = true := hi3 _ rfl 1 _ rfl rfl
      obtain rfl : cs = zfd := h0.1 _ rfl
      have hb := hV.blk 0 (g, zfd) rfl
      have hg : w.heap.size + 1 ≤ g := hb.1
      have hlow : Below w.heap.size w (w1.setRow g (fdA ⟨2, 0, 0, n, fg, z6⟩)) := hC.low.trans (below_setRow _ _ _ (by omega))
      have hf : (⟨2, 0, 0, n, fg, z6⟩ : Fd).mac.length = 6 := rfl
      refine wpOp_fdA rfl rfl (.tmp 17) (.tmp 88) rfl g ⟨2, 0, 0, n, fg, z6⟩ hf (by kernel_rfl) (by kernel_rfl) zfd hb.2 rfl ?_
      exact ⟨c2, true, c5, c6, c8, c9, c11, c12, some (g, fdA ⟨2, 0, 0, n, fg, z6⟩), p1, p2, p3, true, s18, s19, s20, by kernel_rfl, by kernel_rfl, ⟨hC.mac.setRow_ne _ (by omega), hlow, HE.out.below hlow⟩, hV.set 0 g zfd (fdA ⟨2, 0, 0, n, fg, z6⟩) rfl, ⟨fun x h => by cases h; rfl, fun _ => rfl⟩, h1, h2, h3⟩
    · obtain rfl : s18 = false := hi2
      obtain ⟨⟨g, cs⟩, rfl⟩ : ∃ x, p1 = some x := Option.isSome_iff_exists.1 (show p1.isSome = true from hi3 _ rfl 0 _ rfl rfl)
      obtain rfl : c6 = true := hi3 _ rfl 1 _ rfl rfl
      obtain rfl : cs = zfd := h1.1 _ rfl
      have hb := hV.blk 1 (g, zfd) rfl
      have hg : w.heap.size + 1 ≤ g := hb.1
      have hlow : Below w.heap.size w (w1.setRow g (fdA ⟨4, 0, 0, 0, false, m⟩)) := hC.low.trans (below_setRow _ _ _ (by omega))
      have hf : (⟨4, 0, 0, 0, false, m⟩ : Fd).mac.length = 6 := hm
      refine wpOp_fdA rfl rfl (.tmp 18) (.tmp 91) rfl g ⟨4, 0, 0, 0, false, m⟩ hf (by kernel_rfl) (by kernel_rfl) zfd hb.2 rfl ?_
      exact ⟨c2, c3, c5, true, c8, c9, c11, c12, p0, some (g, fdA ⟨4, 0, 0, 0, false, m⟩), p2, p3, s17, true, s19, s20, by kernel_rfl, by kernel_rfl, ⟨hC.mac.setRow_ne _ (by omega), hlow, HE.out.below hlow⟩, hV.set 1 g zfd (fdA ⟨4, 0, 0, 0, false, m⟩) rfl, h0, ⟨fun x h => by cases h; rfl, fun _ => rfl⟩, h2, h3⟩
    · obtain rfl : s19 = false := hi2
      obtain ⟨⟨g, cs⟩, rfl⟩ : ∃ x, p2 = some x := Option.isSome_iff_exists.1 (show p2.isSome = true from hi3 _ rfl 0 _ rfl rfl)
      obtain rfl : c9 = true := hi3 _ rfl 1 _ rfl rfl
      obtain rfl : cs = zfd := h2.1 _ rfl
      have hb := hV.blk 2 (g, zfd) rfl
      have hg : w.heap.size + 1 ≤ g := hb.1
      have hlow : Below w.heap.size w (w1.setRow g (fdA ⟨5, 0, 0, 0, false, m⟩)) := hC.low.trans (below_setRow _ _ _ (by omega))
      have hf : (⟨5, 0, 0, 0, false, m⟩ : Fd).mac.length = 6 := hm
      refine wpOp_fdA rfl rfl (.tmp 19) (.tmp 94) rfl g ⟨5, 0, 0, 0, false, m⟩ hf (by kernel_rfl) (by kernel_rfl) zfd hb.2 rfl ?_
      exact ⟨c2, c3, c5, c6, c8, true, c11, c12, p0, p1, some (g, fdA ⟨5, 0, 0, 0, false, m⟩), p3, s17, s18, true, s20, by kernel_rfl, by kernel_rfl, ⟨hC.mac.setRow_ne _ (by omega), hlow, HE.out.below hlow⟩, hV.set 2 g zfd (fdA ⟨5, 0, 0, 0, false, m⟩) rfl, h0, h1, ⟨fun x h => by cases h; rfl, fun _ => rfl⟩, h3⟩
    · obtain rfl : s20 = false := hi2
      obtain ⟨⟨g, cs⟩, rfl⟩ : ∃ x, p3 = some x := Option.isSome_iff_exists.1 (show p3.isSome = true from hi3 _ rfl 0 _ rfl rfl)
      obtain rfl : c12 = true := hi3 _ rfl 1 _ rfl rfl
      obtain rfl : cs = zfd := h3.1 _ rfl
      have hb := hV.blk 3 (g, zfd) rfl
      have hg : w.heap.size + 1 ≤ g := hb.1
      have hlow : Below w.heap.size w (w1.setRow g (fdA ⟨6, 0, 0, k, false, z6⟩)) := hC.low.trans (below_setRow _ _ _ (by omega))
      have hf : (⟨6, 0, 0, k, false, z6⟩ : Fd).mac.length = 6 := rfl
      refine wpOp_fdA rfl rfl (.tmp 20) (.tmp 97) rfl g ⟨6, 0, 0, k, false, z6⟩ hf (by kernel_rfl) (by kernel_rfl) zfd hb.2 rfl ?_
      exact ⟨c2, c3, c5, c6, c8, c9, c11, true, p0, p1, p2, some (g, fdA ⟨6, 0, 0, k, false, z6⟩), s17, s18, s19, true, by kernel_rfl, by kernel_rfl, ⟨hC.mac.setRow_ne _ (by omega), hlow, HE.out.below hlow⟩, hV.set 3 g zfd (fdA ⟨6, 0, 0, k, false, z6⟩) rfl, h0, h1, h2, ⟨fun x h => by cases h; rfl, fun _ => rfl⟩⟩
end Go.Proofs.YtkaimdcepnhkdaaDoor
namespace Go.Proofs.YtkaimdcepnhkdaaDoor
open Go.RowKit
set_option linter.unusedSimpArgs false
set_option linter.unusedVariables false

set_option maxHeartbeats 2000000 in
set_option maxRecDepth 100000 in
theorem cb_32 (w : World) (E : Env w) (a n : Int) (fg : Bool) (m : List Int) (k : Int) (ha : 0 ≤ a ∧ a ≤ 4294967295) (hn : 0 ≤ n ∧ n ≤ 4294967295) (hm : m.length = 6) (om : Oct m) (hk : 0 ≤ k ∧ k ≤ 65535) (ca : ¬ a ≤ 65535) (cn : ¬ n ≤ 65535) (cl : ¬ n ≤ 16777215) :
    Calls Tryd.prog 8 #[.int .u32 a, .int .u32 n, .bool fg, .agg (u8s m).toArray, .int .u16 k] w fun e w' => e = .returned (.bool true) ∧ Below w.heap.size w w' := by
  have hl0 := (Below.refl w.heap.size w).alloc (Nat.le_refl _) (.cells (u8s m).toArray 49)
  have HC : Hid (CM w (w.alloc (.cells (u8s m).toArray 49)) m) := Lib.hid ⟨Blk.new w 49 _, hl0, E.below hl0⟩
  have HO : Hid (mtO a n = none) := Lib.hid (by unfold mtO; rw [if_neg ca, if_neg cn])
  have ta : ¬ (a < 65536) := by omega
  have tn : ¬ (n < 65536) := by omega
  have HL : Hid (mlO fg n = none) := Lib.hid (by unfold mlO; rw [if_neg cl])
  have HE := Lib.hid E
  have hke : k % 4294967296 = k := Int.emod_eq_of_lt hk.1 (by omega)
  clear hl0
  go_enter Tryd.func8, Tryd.ntmps8
  go_wp2_with fail
  refine (mt_no _ a n ha.1 (by omega) hn.1 (by omega) HO.out).mono ?_
  rintro e w1 ⟨rfl, hB⟩
  have hC := HC.out.below hB
  obtain ⟨b1, s0, s1⟩ := new_comm hC.low z8
  have HN1 := Lib.hid (Blk.new w1 52 zc8)
  have HC1 := Lib.hid (hC.below s1)
  clear hB hC b1 s0 s1 HC
  go_wp2_with (refine comm_store rfl _ _ rfl w1.heap.size z8 rfl rfl rfl 52 zc8 HN1.out rfl ?_)
  refine (ml_no _ fg n hn.1 (by omega) HL.out).mono ?_
  rintro e w3 ⟨rfl, hB⟩
  have hC := HC1.out.below hB
  obtain ⟨b1, s0, s1⟩ := new_comm hC.low z8
  have HN3 := Lib.hid (Blk.new w3 52 zc8)
  have HC3 := Lib.hid (hC.below s1)
  clear hB hC b1 s0 s1 HC1
  go_wp2_with (refine comm_store rfl _ _ rfl w3.heap.size z8 rfl rfl rfl 52 zc8 HN3.out rfl ?_)
  refine wp_region_held_drew (S := fun w' => CM w w' m) (by kernel_rfl) (⟨HC3.out.mac, below_drewN HC3.out.low 1, HC3.out.env.drewN 1⟩) (fun hS => ?_)
  refine wpAnyH_take (i := 0) (oi := ⟨some 85, _, _, _, _, _⟩) (v := ?_) rfl (by kernel_rfl) (by kernel_rfl) (by kernel_rfl) (fun _ _ _ h => h) (Or.inl ⟨by rfl, ?_⟩) hS ?_
  rotate_left
  · intro wq hq
    first | (go_simp; done) | (go_simp; rfl)
  try simp only [Act.put, List.setIfInBounds_toArray, List.set_cons_zero, List.set_cons_succ]
  refine wpAnyH_take (i := 1) (oi := ⟨some 86, _, _, _, _, _⟩) (v := ?_) rfl (by kernel_rfl) (by kernel_rfl) (by kernel_rfl) (fun _ _ _ h => h) (Or.inl ⟨by rfl, ?_⟩) hS ?_
  rotate_left
  · intro wq hq
    first | (go_simp; done) | (go_simp; rfl)
  try simp only [Act.put, List.setIfInBounds_toArray, List.set_cons_zero, List.set_cons_succ]
  refine wpAnyH_take (i := 4) (oi := ⟨some 89, _, _, _, _, _⟩) rfl (by kernel_rfl) (by kernel_rfl) (by kernel_rfl) (fun _ _ _ h => h) (yieldsIf_load_mid (by rfl) 49 _ rfl _ _ rfl (u8s m) _ (fun wq hq => hq.mac.range) Tryd.underlying49 rfl (by simpa using mac6_size m hm)) hS ?_
  try simp only [Act.put, List.setIfInBounds_toArray, List.set_cons_zero, List.set_cons_succ]
  refine wpAnyH_take (i := 7) (oi := ⟨some 92, _, _, _, _, _⟩) rfl (by kernel_rfl) (by kernel_rfl) (by kernel_rfl) (fun _ _ _ h => h) (yieldsIf_load_mid (by rfl) 49 _ rfl _ _ rfl (u8s m) _ (fun wq hq => hq.mac.range) Tryd.underlying49 rfl (by simpa using mac6_size m hm)) hS ?_
  try simp only [Act.put, List.setIfInBounds_toArray, List.set_cons_zero, List.set_cons_succ]
  refine wpAnyH_take (i := 10) (oi := ⟨some 95, _, _, _, _, _⟩) (v := ?_) rfl (by kernel_rfl) (by kernel_rfl) (by kernel_rfl) (fun _ _ _ h => h) (Or.inl ⟨by rfl, ?_⟩) hS ?_
  rotate_left
  · intro wq hq
    first | (go_simp; done) | (go_simp; rfl)
  try simp only [Act.put, List.setIfInBounds_toArray, List.set_cons_zero, List.set_cons_succ]
  refine wpAnyH_start (fun A L a w1 => ∃ (c2 c3 c5 c6 c8 c9 c11 c12 : Bool) (p0 p1 p2 p3 : Option (Nat × Array Value)) (s17 s18 s19 s20 : Bool), L = #[true, true, c2, c3, true, c5, c6, true, c8, c9, true, c11, c12, p0.isSome, p1.isSome, p2.isSome, p3.isSome, s17, s18, s19, s20] ∧ a = ((((((((((((A.put (some 87) (bif c2 then (.agg (u8s (mob fg n)).toArray) else undef)).put (some 88) (bif c3 then (.agg (fdA ⟨2, 0, 0, n, fg, z6⟩)) else undef)).put (some 90) (bif c5 then (.agg (u8s (withM 6 2 m)).toArray) else undef)).put (some 91) (bif c6 then (.agg (fdA ⟨4, 0, 0, 0, false, m⟩)) else undef)).put (some 93) (bif c8 then (.agg (u8s (withM 6 3 m)).toArray) else undef)).put (some 94) (bif c9 then (.agg (fdA ⟨5, 0, 0, 0, false, m⟩)) else undef)).put (some 96) (bif c11 then (.agg (u8s (enc k)).toArray) else undef)).put (some 97) (bif c12 then (.agg (fdA ⟨6, 0, 0, k, false, z6⟩)) else undef)).put (some 17) (pv p0)).put (some 18) (pv p1)).put (some 19) (pv p2)).put (some 20) (pv p3)) ∧ CM w w1 m ∧ VarsAt w1 (w.heap.size + 1) 63 [p0, p1, p2, p3] ∧ ((∀ x, p0 = some x → x.2 = bif s17 then fdA ⟨2, 0, 0, n, fg, z6⟩ else zfd) ∧ (s17 = true → p0.isSome = true)) ∧ ((∀ x, p1 = some x → x.2 = bif s18 then fdA ⟨4, 0, 0, 0, false, m⟩ else zfd) ∧ (s18 = true → p1.isSome = true)) ∧ ((∀ x, p2 = some x → x.2 = bif s19 then fdA ⟨5, 0, 0, 0, false, m⟩ else zfd) ∧ (s19 = true → p2.isSome = true)) ∧ ((∀ x, p3 = some x → x.2 = bif s20 then fdA ⟨6, 0, 0, k, false, z6⟩ else zfd) ∧ (s20 = true → p3.isSome = true))) ?_ (Nat.le_of_ble_eq_true (by kernel_rfl)) ?_ ?_ ?_
  · exact ⟨false, false, false, false, false, false, false, false, none, none, none, none, false, false, false, false, by kernel_rfl, by kernel_rfl, hS, ⟨fun i x hx => by rcases i with _ | _ | _ | _ | i <;> simp at hx, fun i j x y _ hx _ => by rcases i with _ | _ | _ | _ | i <;> simp at hx⟩, ⟨(fun x h => by cases h), fun h => by cases h⟩, ⟨(fun x h => by cases h), fun h => by cases h⟩, ⟨(fun x h => by cases h), fun h => by cases h⟩, ⟨(fun x h => by cases h), fun h => by cases h⟩⟩
  · rintro L a' w1 ⟨c2, c3, c5, c6, c8, c9, c11, c12, p0, p1, p2, p3, s17, s18, s19, s20, rfl, rfl, hC, hV, h0, h1, h2, h3⟩
    exact hC
  · rintro L a' w1 ⟨c2, c3, c5, c6, c8, c9, c11, c12, p0, p1, p2, p3, s17, s18, s19, s20, rfl, rfl, hC, hV, h0, h1, h2, h3⟩ hr
    obtain rfl : c2 = true := by
      cases c2 with
      | true => rfl
      | false => exact (ready_no hr 2 (show 2 < 21 by decide) _ rfl rfl (by kernel_rfl)).elim
    obtain rfl : c3 = true := by
      cases c3 with
      | true => rfl
      | false => exact (ready_no hr 3 (show 3 < 21 by decide) _ rfl rfl (by kernel_rfl)).elim
    obtain rfl : c5 = true := by
      cases c5 with
      | true => rfl
      | false => exact (ready_no hr 5 (show 5 < 21 by decide) _ rfl rfl (by kernel_rfl)).elim
    obtain rfl : c6 = true := by
      cases c6 with
      | true => rfl
      | false => exact (ready_no hr 6 (show 6 < 21 by decide) _ rfl rfl (by kernel_rfl)).elim
    obtain rfl : c8 = true := by
      cases c8 with
      | true => rfl
      | false => exact (ready_no hr 8 (show 8 < 21 by decide) _ rfl rfl (by kernel_rfl)).elim
    obtain rfl : c9 = true := by
      cases c9 with
      | true => rfl
      | false => exact (ready_no hr 9 (show 9 < 21 by decide) _ rfl rfl (by kernel_rfl)).elim
    obtain rfl : c11 = true := by
      cases c11 with
      | true => rfl
      | false => exact (ready_no hr 11 (show 11 < 21 by decide) _ rfl rfl (by kernel_rfl)).elim
    obtain rfl : c12 = true := by
      cases c12 with
      | true => rfl
      | false => exact (ready_no hr 12 (show 12 < 21 by decide) _ rfl rfl (by kernel_rfl)).elim
    obtain ⟨⟨g0, e0⟩, rfl⟩ : ∃ x, p0 = some x := by
      cases p0 with
      | some x => exact ⟨x, rfl⟩
      | none => exact (ready_no hr 13 (show 13 < 21 by decide) _ rfl rfl (by kernel_rfl)).elim
    obtain ⟨⟨g1, e1⟩, rfl⟩ : ∃ x, p1 = some x := by
      cases p1 with
      | some x => exact ⟨x, rfl⟩
      | none => exact (ready_no hr 14 (show 14 < 21 by decide) _ rfl rfl (by kernel_rfl)).elim
    obtain ⟨⟨g2, e2⟩, rfl⟩ : ∃ x, p2 = some x := by
      cases p2 with
      | some x => exact ⟨x, rfl⟩
      | none => exact (ready_no hr 15 (show 15 < 21 by decide) _ rfl rfl (by kernel_rfl)).elim
    obtain ⟨⟨g3, e3⟩, rfl⟩ : ∃ x, p3 = some x := by
      cases p3 with
      | some x => exact ⟨x, rfl⟩
      | none => exact (ready_no hr 16 (show 16 < 21 by decide) _ rfl rfl (by kernel_rfl)).elim
    obtain rfl : s17 = true := by
      cases s17 with
      | true => rfl
      | false => exact (ready_no hr 17 (show 17 < 21 by decide) _ rfl rfl (by kernel_rfl)).elim
    obtain rfl : s18 = true := by
      cases s18 with
      | true => rfl
      | false => exact (ready_no hr 18 (show 18 < 21 by decide) _ rfl rfl (by kernel_rfl)).elim
    obtain rfl : s19 = true := by
      cases s19 with
      | true => rfl
      | false => exact (ready_no hr 19 (show 19 < 21 by decide) _ rfl rfl (by kernel_rfl)).elim
    obtain rfl : s20 = true := by
      cases s20 with
      | true => rfl
      | false => exact (ready_no hr 20 (show 20 < 21 by decide) _ rfl rfl (by kernel_rfl)).elim
    obtain rfl : e0 = fdA ⟨2, 0, 0, n, fg, z6⟩ := h0.1 _ rfl
    have b0 := (hV.blk 0 _ rfl).2
    obtain rfl : e1 = fdA ⟨4, 0, 0, 0, false, m⟩ := h1.1 _ rfl
    have b1 := (hV.blk 1 _ rfl).2
    obtain rfl : e2 = fdA ⟨5, 0, 0, 0, false, m⟩ := h2.1 _ rfl
    have b2 := (hV.blk 2 _ rfl).2
    obtain rfl : e3 = fdA ⟨6, 0, 0, k, false, z6⟩ := h3.1 _ rfl
    have b3 := (hV.blk 3 _ rfl).2
    have d00 : w1.cell? ⟨g0, 0, none⟩ = some (.int .i64 2) := (FdCell b0).1
    have d03 : w1.cell? ⟨g0, 3, none⟩ = some (.int .u32 n) := (FdCell b0).2.2.2.1
    have d04 : w1.cell? ⟨g0, 4, none⟩ = some (.bool fg) := (FdCell b0).2.2.2.2
    have d10 : w1.cell? ⟨g1, 0, none⟩ = some (.int .i64 4) := (FdCell b1).1
    have d20 : w1.cell? ⟨g2, 0, none⟩ = some (.int .i64 5) := (FdCell b2).1
    have d30 : w1.cell? ⟨g3, 0, none⟩ = some (.int .i64 6) := (FdCell b3).1
    have d33 : w1.cell? ⟨g3, 3, none⟩ = some (.int .u32 k) := (FdCell b3).2.2.2.1
    have HM1 : Hid (w1.rangeAt g1 5 (u8s m)) := Lib.hid (FdMac b1)
    have HM2 : Hid (w1.rangeAt g2 5 (u8s m)) := Lib.hid (FdMac b2)
    have HC9 := Lib.hid hC
    have hme := mac_eq m hm om
    clear hr hV h0 h1 h2 h3 b0 b1 b2 b3 hC
    simp only [cond_true, pv, Act.put, List.setIfInBounds_toArray, List.set_cons_zero, List.set_cons_succ]
    go_wp2_with (first
      | (refine mac6_fetch rfl _ rfl g1 5 m hm rfl HM1.out ?_)
      | (refine mac6_fetch rfl _ rfl g2 5 m hm rfl HM2.out ?_)
      | (refine mac6_fetch rfl _ rfl w.heap.size 0 m hm rfl HC9.out.mac.range ?_))
    refine (alive4_is _ HC9.out.env).mono ?_
    rintro e w9 ⟨rfl, hB⟩
    go_wp2
    go_ret
    exact ⟨rfl, (HC9.out.below hB).low⟩
  · rintro L a' w1 ⟨c2, c3, c5, c6, c8, c9, c11, c12, p0, p1, p2, p3, s17, s18, s19, s20, rfl, rfl, hC, hV, h0, h1, h2, h3⟩ i hi
    obtain ⟨hi1, hi2, hi3⟩ := ready_mem hi
    clear hi
    have hi4 : i = 0 ∨ i = 1 ∨ i = 2 ∨ i = 3 ∨ i = 4 ∨ i = 5 ∨ i = 6 ∨ i = 7 ∨ i = 8 ∨ i = 9 ∨ i = 10 ∨ i = 11 ∨ i = 12 ∨ i = 13 ∨ i = 14 ∨ i = 15 ∨ i = 16 ∨ i = 17 ∨ i = 18 ∨ i = 19 ∨ i = 20 := by
      have : i < 21 := hi1
      omega
    clear hi1
    rcases hi4 with rfl | rfl | rfl | rfl | rfl | rfl | rfl | rfl | rfl | rfl | rfl | rfl | rfl | rfl | rfl | rfl | rfl | rfl | rfl | rfl | rfl
    · exact Bool.noConfusion (show true = false from hi2)
    · exact Bool.noConfusion (show true = false from hi2)
    · obtain rfl : c2 = false := hi2
      refine wpOp_call rfl rfl _ _ (by kernel_rfl) (mm_is _ fg n hn.1 (by omega)) (fun w2 hB => ?_)
      exact ⟨true, c3, c5, c6, c8, c9, c11, c12, p0, p1, p2, p3, s17, s18, s19, s20, by kernel_rfl, by kernel_rfl, hC.below hB, hV.below hB, h0, h1, h2, h3⟩
    · obtain rfl : c3 = false := hi2
      obtain rfl : c2 = true := hi3 _ rfl 0 _ rfl rfl
      refine wpOp_call rfl rfl _ _ (by kernel_rfl) (rd_isA _ (mob fg n) (mob_len fg n) (mob_oct fg n) ⟨2, 0, 0, n, fg, z6⟩ (rd_mob fg n hn.1 hn.2)) (fun w2 hB => ?_)
      exact ⟨true, true, c5, c6, c8, c9, c11, c12, p0, p1, p2, p3, s17, s18, s19, s20, by kernel_rfl, by kernel_rfl, hC.below hB, hV.below hB, h0, h1, h2, h3⟩
    · exact Bool.noConfusion (show true = false from hi2)
    · obtain rfl : c5 = false := hi2
      obtain rfl : c3 = true := hi3 _ rfl 1 _ rfl rfl
      refine wpOp_call rfl rfl _ _ (by kernel_rfl) (mi_is _ m hm) (fun w2 hB => ?_)
      exact ⟨c2, true, true, c6, c8, c9, c11, c12, p0, p1, p2, p3, s17, s18, s19, s20, by kernel_rfl, by kernel_rfl, hC.below hB, hV.below hB, h0, h1, h2, h3⟩
    · obtain rfl : c6 = false := hi2
      obtain rfl : c5 = true := hi3 _ rfl 0 _ rfl rfl
      refine wpOp_call rfl rfl _ _ (by kernel_rfl) (rd_isA _ (withM 6 2 m) (withM_len 6 2 m hm) (withM_oct 6 2 m (by omega) (by omega) om) ⟨4, 0, 0, 0, false, m⟩ (rd_imp m hm)) (fun w2 hB => ?_)
      exact ⟨c2, c3, true, true, c8, c9, c11, c12, p0, p1, p2, p3, s17, s18, s19, s20, by kernel_rfl, by kernel_rfl, hC.below hB, hV.below hB, h0, h1, h2, h3⟩
    · exact Bool.noConfusion (show true = false from hi2)
    · obtain rfl : c8 = false := hi2
      obtain rfl : c6 = true := hi3 _ rfl 1 _ rfl rfl
      refine wpOp_call rfl rfl _ _ (by kernel_rfl) (mr_is _ m hm) (fun w2 hB => ?_)
      exact ⟨c2, c3, c5, true, true, c9, c11, c12, p0, p1, p2, p3, s17, s18, s19, s20, by kernel_rfl, by kernel_rfl, hC.below hB, hV.below hB, h0, h1, h2, h3⟩
    · obtain rfl : c9 = false := hi2
      obtain rfl : c8 = true := hi3 _ rfl 0 _ rfl rfl
      refine wpOp_call rfl rfl _ _ (by kernel_rfl) (rd_isA _ (withM 6 3 m) (withM_len 6 3 m hm) (withM_oct 6 3 m (by omega) (by omega) om) ⟨5, 0, 0, 0, false, m⟩ (rd_rtr m hm)) (fun w2 hB => ?_)
      exact ⟨c2, c3, c5, c6, true, true, c11, c12, p0, p1, p2, p3, s17, s18, s19, s20, by kernel_rfl, by kernel_rfl, hC.below hB, hV.below hB, h0, h1, h2, h3⟩
    · exact Bool.noConfusion (show true = false from hi2)
    · obtain rfl : c11 = false := hi2
      obtain rfl : c9 = true := hi3 _ rfl 1 _ rfl rfl
      refine wpOp_call rfl rfl _ _ (by kernel_rfl) (me_is _ k hk.1 (by omega)) (fun w2 hB => ?_)
      exact ⟨c2, c3, c5, c6, c8, true, true, c12, p0, p1, p2, p3, s17, s18, s19, s20, by kernel_rfl, by kernel_rfl, hC.below hB, hV.below hB, h0, h1, h2, h3⟩
    · obtain rfl : c12 = false := hi2
      obtain rfl : c11 = true := hi3 _ rfl 0 _ rfl rfl
      refine wpOp_call rfl rfl _ _ (by kernel_rfl) (rd_isA _ (enc k) (enc_len k) (enc_oct k) ⟨6, 0, 0, k, false, z6⟩ (rd_enc k hk.1 hk.2)) (fun w2 hB => ?_)
      exact ⟨c2, c3, c5, c6, c8, c9, true, true, p0, p1, p2, p3, s17, s18, s19, s20, by kernel_rfl, by kernel_rfl, hC.below hB, hV.below hB, h0, h1, h2, h3⟩
    · obtain rfl : p0 = none := by
        cases p0 with
        | none => rfl
        | some x => exact Bool.noConfusion (show true = false from hi2)
      obtain rfl : s17 = false := by
        cases s17 with
        | false => rfl
        | true => exact Bool.noConfusion (show false = true from h0.2 rfl)
      have hA : Below w1.heap.size w1 (w1.alloc (.cells zfd 63)) := (Below.refl _ _).alloc (Nat.le_refl _) _
      have hz := hC.mac.lt
      refine wpOp_value rfl rfl (.pointer (some ⟨w1.heap.size, 0, none⟩)) (w1.alloc (.cells zfd 63)) (by kernel_rfl) ?_
      exact ⟨c2, c3, c5, c6, c8, c9, c11, c12, some (w1.heap.size, zfd), p1, p2, p3, false, s18, s19, s20, by kernel_rfl, by kernel_rfl, hC.below hA, hV.alloc (by omega) 0 zfd, ⟨fun x h => by cases h; rfl, fun h => by cases h⟩, h1, h2, h3⟩
    · obtain rfl : p1 = none := by
        cases p1 with
        | none => rfl
        | some x => exact Bool.noConfusion (show true = false from hi2)
      obtain rfl : s18 = false := by
        cases s18 with
        | false => rfl
        | true => exact Bool.noConfusion (show false = true from h1.2 rfl)
      have hA : Below w1.heap.size w1 (w1.alloc (.cells zfd 63)) := (Below.refl _ _).alloc (Nat.le_refl _) _
      have hz := hC.mac.lt
      refine wpOp_value rfl rfl (.pointer (some ⟨w1.heap.size, 0, none⟩)) (w1.alloc (.cells zfd 63)) (by kernel_rfl) ?_
      exact ⟨c2, c3, c5, c6, c8, c9, c11, c12, p0, some (w1.heap.size, zfd), p2, p3, s17, false, s19, s20, by kernel_rfl, by kernel_rfl, hC.below hA, hV.alloc (by omega) 1 zfd, h0, ⟨fun x h => by cases h; rfl, fun h => by cases h⟩, h2, h3⟩
    · obtain rfl : p2 = none := by
        cases p2 with
        | none => rfl
        | some x => exact Bool.noConfusion (show true = false from hi2)
      obtain rfl : s19 = false := by
        cases s19 with
        | false => rfl
        | true => exact Bool.noConfusion (show false = true from h2.2 rfl)
      have hA : Below w1.heap.size w1 (w1.alloc (.cells zfd 63)) := (Below.refl _ _).alloc (Nat.le_refl _) _
      have hz := hC.mac.lt
      refine wpOp_value rfl rfl (.pointer (some ⟨w1.heap.size, 0, none⟩)) (w1.alloc (.cells zfd 63)) (by kernel_rfl) ?_
      exact ⟨c2, c3, c5, c6, c8, c9, c11, c12, p0, p1, some (w1.heap.size, zfd), p3, s17, s18, false, s20, by kernel_rfl, by kernel_rfl, hC.below hA, hV.alloc (by omega) 2 zfd, h0, h1, ⟨fun x h => by cases h; rfl, fun h => by cases h⟩, h3⟩
    · obtain rfl : p3 = none := by
        cases p3 with
        | none => rfl
        | some x => exact Bool.noConfusion (show true = false from hi2)
      obtain rfl : s20 = false := by
        cases s20 with
        | false => rfl
        | true => exact Bool.noConfusion (show false = true from h3.2 rfl)
      have hA : Below w1.heap.size w1 (w1.alloc (.cells zfd 63)) := (Below.refl _ _).alloc (Nat.le_refl _) _
      have hz := hC.mac.lt
      refine wpOp_value rfl rfl (.pointer (some ⟨w1.heap.size, 0, none⟩)) (w1.alloc (.cells zfd 63)) (by kernel_rfl) ?_
      exact ⟨c2, c3, c5, c6, c8, c9, c11, c12, p0, p1, p2, some (w1.heap.size, zfd), s17, s18, s19, false, by kernel_rfl, by kernel_rfl, hC.below hA, hV.alloc (by omega) 3 zfd, h0, h1, h2, ⟨fun x h => by cases h; rfl, fun h => by cases h⟩⟩
    · obtain rfl : s17 = false := hi2
      obtain ⟨⟨g, cs⟩, rfl⟩ : ∃ x, p0 = some x := Option.isSome_iff_exists.1 (show p0.isSome = true from hi3 _ rfl 0 _ rfl rfl)
      obtain rfl : c3 = true := hi3 _ rfl 1 _ rfl rfl
      obtain rfl : cs = zfd := h0.1 _ rfl
      have hb := hV.blk 0 (g, zfd) rfl
      have hg : w.heap.size + 1 ≤ g := hb.1
      have hlow : Below w.heap.size w (w1.setRow g (fdA ⟨2, 0, 0, n, fg, z6⟩)) := hC.low.trans (below_setRow _ _ _ (by omega))
      have hf : (⟨2, 0, 0, n, fg, z6⟩ : Fd).mac.length = 6 := rfl
      refine wpOp_fdA rfl rfl (.tmp 17) (.tmp 88) rfl g ⟨2, 0, 0, n, fg, z6⟩ hf (by kernel_rfl) (by kernel_rfl) zfd hb.2 rfl ?_
      exact ⟨c2, true, c5, c6, c8, c9, c11, c12, some (g, fdA ⟨2, 0, 0, n, fg, z6⟩), p1, p2, p3, true, s18, s19, s20, by kernel_rfl, by kernel_rfl, ⟨hC.mac.setRow_ne _ (by omega), hlow, HE.out.below hlow⟩, hV.set 0 g zfd (fdA ⟨2, 0, 0, n, fg, z6⟩) rfl, ⟨fun x h => by cases h; rfl, fun _ => rfl⟩, h1, h2, h3⟩
    · obtain rfl : s18 = false := hi2
      obtain ⟨⟨g, cs⟩, rfl⟩ : ∃ x, p1 = some x := Option.isSome_iff_exists.1 (show p1.isSome = true from hi3 _ rfl 0 _ rfl rfl)
      obtain rfl : c6 = true := hi3 _ rfl 1 _ rfl rfl
      obtain rfl : cs = zfd := h1.1 _ rfl
      have hb := hV.blk 1 (g, zfd) rfl
      have hg : w.heap.size + 1 ≤ g := hb.1
      have hlow : Below w.heap.size w (w1.setRow g (fdA ⟨4, 0, 0, 0, false, m⟩)) := hC.low.trans (below_setRow _ _ _ (by omega))
      have hf : (⟨4, 0, 0, 0, false, m⟩ : Fd).mac.length = 6 := hm
      refine wpOp_fdA rfl rfl (.tmp 18) (.tmp 91) rfl g ⟨4, 0, 0, 0, false, m⟩ hf (by kernel_rfl) (by kernel_rfl) zfd hb.2 rfl ?_
      exact ⟨c2, c3, c5, true, c8, c9, c11, c12, p0, some (g, fdA ⟨4, 0, 0, 0, false, m⟩), p2, p3, s17, true, s19, s20, by kernel_rfl, by kernel_rfl, ⟨hC.mac.setRow_ne _ (by omega), hlow, HE.out.below hlow⟩, hV.set 1 g zfd (fdA ⟨4, 0, 0, 0, false, m⟩) rfl, h0, ⟨fun x h => by cases h; rfl, fun _ => rfl⟩, h2, h3⟩
    · obtain rfl : s19 = false := hi2
      obtain ⟨⟨g, cs⟩, rfl⟩ : ∃ x, p2 = some x := Option.isSome_iff_exists.1 (show p2.isSome = true from hi3 _ rfl 0 _ rfl rfl)
      obtain rfl : c9 = true := hi3 _ rfl 1 _ rfl rfl
      obtain rfl : cs = zfd := h2.1 _ rfl
      have hb := hV.blk 2 (g, zfd) rfl
      have hg : w.heap.size + 1 ≤ g := hb.1
      have hlow : Below w.heap.size w (w1.setRow g (fdA ⟨5, 0, 0, 0, false, m⟩)) := hC.low.trans (below_setRow _ _ _ (by omega))
      have hf : (⟨5, 0, 0, 0, false, m⟩ : Fd).mac.length = 6 := hm
      refine wpOp_fdA rfl rfl (.tmp 19) (.tmp 94) rfl g ⟨5, 0, 0, 0, false, m⟩ hf (by kernel_rfl) (by kernel_rfl) zfd hb.2 rfl ?_
      exact ⟨c2, c3, c5, c6, c8, true, c11, c12, p0, p1, some (g, fdA ⟨5, 0, 0, 0, false, m⟩), p3, s17, s18, true, s20, by kernel_rfl, by kernel_rfl, ⟨hC.mac.setRow_ne _ (by omega), hlow, HE.out.below hlow⟩, hV.set 2 g zfd (fdA ⟨5, 0, 0, 0, false, m⟩) rfl, h0, h1, ⟨fun x h => by cases h; rfl, fun _ => rfl⟩, h3⟩
    · obtain rfl : s20 = false := hi2
      obtain ⟨⟨g, cs⟩, rfl⟩ : ∃ x, p3 = some x := Option.isSome_iff_exists.1 (show p3.isSome = true from hi3 _ rfl 0 _ rfl rfl)
      obtain rfl : c12 = true := hi3 _ rfl 1 _ rfl rfl
      obtain rfl : cs = zfd := h3.1 _ rfl
      have hb := hV.blk 3 (g, zfd) rfl
      have hg : w.heap.size + 1 ≤ g := hb.1
      have hlow : Below w.heap.size w (w1.setRow g (fdA ⟨6, 0, 0, k, false, z6⟩)) := hC.low.trans (below_setRow _ _ _ (by omega))
      have hf : (⟨6, 0, 0, k, false, z6⟩ : Fd).mac.length = 6 := rfl
      refine wpOp_fdA rfl rfl (.tmp 20) (.tmp 97) rfl g ⟨6, 0, 0, k, false, z6⟩ hf (by kernel_rfl) (by kernel_rfl) zfd hb.2 rfl ?_
      exact ⟨c2, c3, c5, c6, c8, c9, c11, true, p0, p1, p2, some (g, fdA ⟨6, 0, 0, k, false, z6⟩), s17, s18, s19, true, by kernel_rfl, by kernel_rfl, ⟨hC.mac.setRow_ne _ (by omega), hlow, HE.out.below hlow⟩, hV.set 3 g zfd (fdA ⟨6, 0, 0, k, false, z6⟩) rfl, h0, h1, h2, ⟨fun x h => by cases h; rfl, fun _ => rfl⟩⟩
end Go.Proofs.YtkaimdcepnhkdaaDoor
namespace Go.Proofs.YtkaimdcepnhkdaaDoor
open Go.RowKit
theorem commBack_walk (w : World) (E : Env w) (a n : Int) (fg : Bool) (m : List Int) (k : Int) (ha : 0 ≤ a ∧ a ≤ 4294967295) (hn : 0 ≤ n ∧ n ≤ 4294967295) (hm : m.length = 6) (om : Oct m) (hk : 0 ≤ k ∧ k ≤ 65535) :
    Calls Tryd.prog 8 #[.int .u32 a, .int .u32 n, .bool fg, .agg (u8s m).toArray, .int .u16 k] w fun e w' => e = .returned (.bool true) ∧ Below w.heap.size w w' := by
  by_cases ca : a ≤ 65535
  · by_cases cl : n ≤ 16777215
    · exact cb_11 w E a n fg m k ha hn hm om hk ca cl
    · exact cb_12 w E a n fg m k ha hn hm om hk ca cl
  · by_cases cn : n ≤ 65535
    · exact cb_21 w E a n fg m k ha hn hm om hk ca cn (by omega)
    · by_cases cl : n ≤ 16777215
      · exact cb_31 w E a n fg m k ha hn hm om hk ca cn cl
      · exact cb_32 w E a n fg m k ha hn hm om hk ca cn cl
end Go.Proofs.YtkaimdcepnhkdaaDoor
namespace Go.Proofs.YtkaimdcepnhkdaaDoor.commBack
open Go.ChangeShapes Go.WideShapes Go.ChangeAt Go.RowKit
open Go.ChangeMaps (open_string shut_string)
set_option linter.unusedVariables false

theorem own : ownKnob Tryd.prog.godebug = none := by kernel_rfl
theorem laidOut : laidOutB Tryd.prog = true := by kernel_rfl

set_option maxRecDepth 100000 in
theorem lifted (os : Os) (started : os.Started) (H : Type) (enc : TypeId × Value → H) :
    ReturnsInHanded {} Tryd.checked os 8 .any (fun w args => (Rows.commBackSpec.pre enc Tryd.prog Tryd.f8 [] false w args ∧ laidMetH Tryd.prog laidL3 w) ∧ sizedMet enc Tryd.prog Tryd.f8 (OpenSpec.ofChange Rows.commBackSpec) false w args)
      (Rows.commBackSpec.post enc Tryd.prog Tryd.f8 false true false false) := by
  refine wrap_rows (C := Tryd.checked) (X := fun w _ => laidMetH Tryd.prog laidL3 w) (fun _ _ _ hh h => h.of_heap hh) own started (by kernel_rfl) Tryd.func8
    (ChangeSpec.witness_shaped (enc := enc) (C := Tryd.checked) (os := os) (X := fun w _ => laidMetH Tryd.prog laidL3 w) false (World.laidAll Tryd.prog os laidL3) #[.int .u32 0, .int .u32 0, .bool false, .agg #[.int .u8 0, .int .u8 0, .int .u8 0, .int .u8 0, .int .u8 0, .int .u8 0], .int .u16 0] 8 (World.laidAll_os _ _ _)
      (World.shaped_of_ZipB (by kernel_rfl) (by kernel_rfl)) (by kernel_rfl) (by kernel_rfl) (by kernel_rfl)
      (by rw [MakeChecks.laidMetH_plain _ _ _ (by kernel_rfl)]; exact laidMet_laidAll _ (by kernel_rfl) (by kernel_rfl))) ?_
  intro W base args ds gs before hval0 hW hsz0 hL0 hshape
  have hval : ∀ (j : Nat) t v, Tryd.f8.params[j]? = some t → args[j]? = some v → Value.okWide Tryd.prog W .any base t v := hval0
  have hL : laidMetH Tryd.prog laidL3 W := hL0
  rw [MakeChecks.laidMetH_plain _ _ _ (by kernel_rfl)] at hL
  have E : Env W := env_of3 hshape hL
  have hW' := hW
  obtain ⟨p, q, hA0, hV, rfl, hfz, hnd⟩ := hW
  have hA : DataW.TrodAll enc Tryd.prog W 0 (fun _ => true) true Tryd.f8.params.toList args.toList ds p := hA0
  rw [Tryd.params8] at hA hval
  obtain ⟨v0, vs0, d0, ds0, p0, q0, hargs, rfl, rfl, h0, r0⟩ := trodAll_cons hA
  obtain ⟨v1, vs1, d1, ds1, p1, q1, rfl, rfl, rfl, h1, r1⟩ := trodAll_cons r0
  obtain ⟨v2, vs2, d2, ds2, p2, q2, rfl, rfl, rfl, h2, r2⟩ := trodAll_cons r1
  obtain ⟨v3, vs3, d3, ds3, p3, q3, rfl, rfl, rfl, h3, r3⟩ := trodAll_cons r2
  obtain ⟨v4, vs4, d4, ds4, p4, q4, rfl, rfl, rfl, h4, r4⟩ := trodAll_cons r3
  obtain ⟨rfl, rfl, rfl⟩ := trodAll_nil r4
  obtain rfl : args = #[v0, v1, v2, v3, v4] := by cases args; simp_all
  obtain ⟨rfl, rfl⟩ := trodVars_none hV
  obtain ⟨a0, rfl, rfl, rfl, w0⟩ := open_int Tryd.underlying25 (hval 0 25 v0 rfl rfl) h0
  have b0 : 0 ≤ a0 ∧ a0 ≤ 4294967295 := by simpa [Lit.wf, IntKind.min, IntKind.max, IntKind.signed, IntKind.bits] using w0
  obtain ⟨a1, rfl, rfl, rfl, w1⟩ := open_int Tryd.underlying25 (hval 1 25 v1 rfl rfl) h1
  have b1 : 0 ≤ a1 ∧ a1 ≤ 4294967295 := by simpa [Lit.wf, IntKind.min, IntKind.max, IntKind.signed, IntKind.bits] using w1
  obtain ⟨a2, rfl, rfl, rfl⟩ := open_bool Tryd.underlying4 (hval 2 4 v2 rfl rfl) h2
  have lt3 : ∀ x ∈ p3, x.block < W.heap.size := by obtain ⟨m, hm⟩ := h3; exact DataW.trod_lt m _ _ _ hm
  obtain ⟨l3, rfl, len3, oct3⟩ := open_arr8 6 (by kernel_rfl) (by kernel_rfl) (by kernel_rfl) (hval 3 49 v3 rfl rfl)
  obtain ⟨a4, rfl, rfl, rfl, w4⟩ := open_int Tryd.underlying50 (hval 4 50 v4 rfl rfl) h4
  have b4 : 0 ≤ a4 ∧ a4 ≤ 65535 := by simpa [Lit.wf, IntKind.min, IntKind.max, IntKind.signed, IntKind.bits] using w4
  clear hA0 hval0
  refine (commBack_walk W E a0 a1 a2 l3 a4 b0 b1 len3 oct3 b4).mono fun e W' ⟨he, bel⟩ => ?_
  subst he
  exact ⟨_, rfl, _, _, _, [], _, [], hW', trodAll_mk1 (shut_bool Tryd.underlying4 _), (trodAll_cons_mk (shut_int Tryd.underlying25 w0) (trodAll_cons_mk (shut_int Tryd.underlying25 w1) (trodAll_cons_mk (shut_bool Tryd.underlying4 _) (trodAll_cons_mk (Below.trod laidOut (by kernel_rfl) (of_decide_eq_true (by kernel_rfl)) h3 bel lt3) (trodAll_cons_mk (shut_int Tryd.underlying50 w4) trodAll_mk0))))), rfl, bel.frame _, fun h => by cases h⟩

theorem over : Rows.commBackRow.holds Tryd.pinned (OpenSpec.ofChange Rows.commBackSpec) :=
  OpenClaim.holds_of_wide 8 Tryd.f8 rfl rfl rfl rfl rfl rfl rfl ⟨rfl, rfl, rfl, rfl, rfl⟩ rfl rfl rfl rfl rfl (by kernel_rfl) Tryd.func8 (by kernel_rfl)
    (of_decide_eq_true (by kernel_rfl)) (by unfold Func.isWrapper; first | (rw [if_pos (by decide +kernel)]; kernel_rfl) | (rw [if_neg (by decide +kernel)]; exact ⟨rfl, rfl⟩))
    (fun os started H enc _ => lifted os started H enc)

theorem proved : Rows.CommBackCardSaid :=
  Claim7.holds_tied_plain_at .later [] [.data, .data, .data] true Rows.commBackCard.stood.harness false
    over (fun _ h => by cases h) (by kernel_rfl) (fun _ h => by cases h) commBack_row_tie rfl ⟨rfl, rfl⟩ (by kernel_rfl) rfl
    (fun f fn hf hfn => by
      obtain rfl : f = 8 := Option.some.inj ((show Tryd.prog.funcNamed "weft/weftlaw04.CommBack" = some 8 by kernel_rfl).symm.trans hf) |>.symm
      obtain rfl : fn = Tryd.f8 := (Option.some.inj (Tryd.func8.symm.trans hfn)).symm
      exact ⟨by kernel_rfl, fun j t ht => by
        rw [Tryd.params8] at ht
        have hm : t ∈ [25, 25, 4, 49, 50] := by simpa using Array.mem_of_getElem? ht
        have hall : ([25, 25, 4, 49, 50].all fun u => !Tryd.prog.wantsStandIn u) = true := by kernel_rfl
        exact (show Tryd.prog.wantsStandIn t = false by simpa using List.all_eq_true.1 hall t hm)⟩)
    (by kernel_rfl)
#print axioms proved
end Go.Proofs.YtkaimdcepnhkdaaDoor.commBack
