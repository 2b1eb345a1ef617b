/-
  Layer 4 (comm): communities are made, in the document's answer.
-/
import Derived.Test.YtkaimdcepnhkdaaDoorComD
namespace Go.Proofs.YtkaimdcepnhkdaaDoor
open Go.RowKit
set_option linter.unusedSimpArgs false
set_option linter.unusedVariables false

theorem laid8_len (l : List Int) (k m : Nat) (n : Int) (j : Nat) (h : k + m ≤ l.length) (hj : j ≤ m) : (laid8 l k m n j).length = l.length := by simp [laid8, be_len]; omega
set_option maxHeartbeats 2000000 in
set_option maxRecDepth 100000 in
theorem rput_is (w : World) (l : List Int) (k m : Nat) (n : Int) (hl : l.length = 8) (hk : k + m ≤ 8) (hm1 : 1 ≤ m) (hm : m ≤ 4) (h0 : 0 ≤ n) (h1 : n < 4294967296) (t : Int) (ht : t = (k + m - 1 : Nat)) :
    Calls Tryd.prog 86 #[.agg (u8s l).toArray, .int .i64 k, .int .i64 t, .int .u32 n] w fun e w' => e = .returned (.agg (u8s (put8 l k m n)).toArray) ∧ Below w.heap.size w w' := by
  have HB : Hid (Blk ((w.alloc (.cells (u8s l).toArray 52)).alloc (.cells zc8 52)) w.heap.size 52 (u8s l).toArray) := Lib.hid ((Blk.new w 52 (u8s l).toArray).alloc _)
  have hR0 := Blk.new (w.alloc (.cells (u8s l).toArray 52)) 52 zc8
  rw [size_a1] at hR0
  have HR := Lib.hid hR0
  have HL : Hid (Below w.heap.size w ((w.alloc (.cells (u8s l).toArray 52)).alloc (.cells zc8 52))) := Lib.hid (((Below.refl w.heap.size w).alloc (Nat.le_refl _) _).alloc (by simp) _)
  clear hR0
  subst ht
  go_enter Tryd.func86, Tryd.ntmps86
  go_wp2
  go_loopw [3, 9] (fun s i wr => ∃ j : Nat, j ≤ m ∧ i = .int .i64 ((k : Int) + m - 1 - j) ∧ s = .int .u32 (n / 256 ^ j) ∧ Blk wr w.heap.size 52 (u8s (laid8 l k m n j)).toArray ∧ Blk wr (w.heap.size + 1) 52 zc8 ∧ Below w.heap.size w wr) (fun _ i _ => (intOf i - k + 1).toNat)
  case atStart => exact ⟨0, by omega, by simp only [Value.int.injEq, true_and]; omega, by simp, by rw [laid8_zero l k m n (by omega)]; exact HB.out, HR.out, HL.out⟩
  case round =>
    obtain ⟨j, hj, rfl, rfl, hb, hr, hB⟩ := hrel
    have HR2 := Lib.hid hr
    have HL2 := Lib.hid hB
    clear hr hB HB HR HL
    by_cases hlt : j < m
    · rw [laid8_before l k m n j (by omega) hlt] at hb
      have hlen : (l.take (k + (m - 1 - j))).length = k + (m - 1 - j) := by simp; omega
      have hc := hb.cell (k + (m - 1 - j))
      rw [cell_at8 _ _ _ _ hlen] at hc
      have hf := hb.frozen (k + (m - 1 - j))
      have hset := hb.set_ (k + (m - 1 - j)) (.int .u8 (n / 256 ^ j % 256))
      rw [cell_set8 _ _ _ _ _ hlen, laid8_behind l k m n j hlt] at hset
      have HS := Lib.hid hset
      have HR3 := Lib.hid (HR2.out.far (p := ⟨w.heap.size, k + (m - 1 - j), none⟩) (by simp) (.int .u8 (n / 256 ^ j % 256)))
      have HL3 := Lib.hid (HL2.out.setCell (p := ⟨w.heap.size, k + (m - 1 - j), none⟩) (Nat.le_refl _) (.int .u8 (n / 256 ^ j % 256)))
      have HD := Lib.hid (div_pow n j)
      have hbd := divp_bd n j h0 h1
      obtain ⟨n2, hn2⟩ : ∃ n2, n2 = n / 256 ^ (j + 1) := ⟨_, rfl⟩
      rw [← hn2] at HD
      have HN2 := Lib.hid hn2
      have hi : (k : Int) + m - 1 - j = ((k + (m - 1 - j) : Nat) : Int) := by omega
      have hq8 : k + (m - 1 - j) < 8 := by omega
      have hqk : k ≤ k + (m - 1 - j) := by omega
      have HI : Hid (((k + (m - 1 - j) : Nat) : Int) - 1 = (k : Int) + m - 1 - ((j + 1 : Nat) : Int)) := Lib.hid (by omega)
      clear hn2 hb hset hlen
      rw [hi]
      generalize n / 256 ^ j = n1 at *
      clear hi
      generalize k + (m - 1 - j) = q at *
      have hqk' : (k : Int) ≤ q := by omega
      have hq8' : (q : Int) < 8 := by omega
      go_wp2
      exact ⟨⟨j + 1, by omega, by simp only [Value.int.injEq, true_and]; exact HI.out, by rw [HD.out, HN2.out], HS.out, HR3.out, HL3.out⟩, by simp [intOf]; omega⟩
    · obtain rfl : j = m := by omega
      rw [laid8_all] at hb
      have HBe := Lib.hid hb
      have hlt2 : ¬ (k : Int) + j - 1 - j ≥ k := by omega
      clear hb
      go_wp2_with (first
        | (refine comm_fetch rfl _ rfl w.heap.size 0 (put8 l k j n) (by rw [put8_len _ _ _ _ (by omega)]; exact hl) rfl HBe.out.range ?_)
        | (refine comm_store rfl _ _ rfl (w.heap.size + 1) (put8 l k j n) (by rw [put8_len _ _ _ _ (by omega)]; exact hl) rfl rfl 52 zc8 HR2.out rfl ?_))
      exact bodyPost_ret (comm_res rfl _ _ (w.heap.size + 1) 52 (put8 l k j n) (by rw [put8_len _ _ _ _ (by omega)]; exact hl) rfl (Blk.setRow HR2.out _)) rfl ⟨rfl, HL2.out.trans (below_setRow _ _ _ (by omega))⟩
theorem rfl_is (w : World) (b : Bool) : Calls Tryd.prog 90 #[.bool b] w fun e w' => e = .returned (.int .u8 (fl b)) ∧ w = w' := by
  cases b
  all_goals
    go_enter Tryd.func90, Tryd.ntmps90
    go_wp2
    go_ret
    exact ⟨rfl, rfl⟩
theorem tgt_4 (a n : Int) (h : a ≤ 65535) : put8 (put8 [0, 2, 0, 0, 0, 0, 0, 0] 2 2 a) 4 4 n = tgt a n := by unfold tgt; rw [if_pos h]; rfl
theorem tgt_6 (a n : Int) (h : ¬ a ≤ 65535) : put8 (put8 [2, 2, 0, 0, 0, 0, 0, 0] 2 4 a) 6 2 n = tgt a n := by unfold tgt; rw [if_neg h]; rfl
set_option maxHeartbeats 2000000 in
set_option maxRecDepth 100000 in
theorem rmt_is (w : World) (a n : Int) (a0 : 0 ≤ a) (a1 : a < 4294967296) (n0 : 0 ≤ n) (n1 : n < 4294967296) :
    Calls Tryd.prog 37 #[.int .u32 a, .int .u32 n] w fun x w' => x = .returned (commE (mtO a n)) ∧ Below w.heap.size w w' := by
  have HR := Lib.hid (Blk.new w 52 zc8)
  have HL := Lib.hid ((Below.refl w.heap.size w).alloc (Nat.le_refl _) (.cells zc8 52))
  by_cases ha : a ≤ 65535
  · have HO : Hid (mtO a n = some (tgt a n)) := Lib.hid (by unfold mtO; rw [if_pos ha])
    have HT := Lib.hid (tgt_4 a n ha)
    go_enter Tryd.func37, Tryd.ntmps37
    go_wp2_with fail
    refine (rput_is _ [0, 2, 0, 0, 0, 0, 0, 0] 2 2 a rfl (by decide) (by decide) (by decide) a0 a1 3 rfl).mono ?_
    rintro x w1 ⟨rfl, hB⟩
    rw [size_a1] at hB
    have HR1 := Lib.hid (HR.out.below hB (by omega))
    have HL1 := Lib.hid (HL.out.trans (hB.mono (by omega)))
    have hz1 := hB.size
    rw [size_a1] at hz1
    clear hB HR HL
    go_wp2_with fail
    refine (rput_is _ (put8 [0, 2, 0, 0, 0, 0, 0, 0] 2 2 a) 4 4 n (put8_len _ _ _ _ (by decide)) (by decide) (by decide) (by decide) n0 n1 7 rfl).mono ?_
    rintro x w2 ⟨rfl, hB⟩
    rw [HT.out]
    have HR2 := Lib.hid (HR1.out.below hB (by omega))
    have HL2 := Lib.hid (HL1.out.trans (hB.mono (by omega)))
    clear hB HR1 HL1 HT
    go_wp2_with (refine comm_store rfl _ _ rfl w.heap.size (tgt a n) (tgt_len a n) rfl rfl 52 zc8 HR2.out rfl ?_)
    refine bodyPost_ret (v := commE (some (tgt a n))) ?_ rfl ⟨by rw [HO.out], HL2.out.trans (below_setRow _ _ _ (Nat.le_refl _))⟩
    exact results_cell_slot rfl _ _ w.heap.size 52 _ _ _ rfl rfl (Blk.setRow HR2.out _) Tryd.underlying52 rfl (comm_size _ (tgt_len a n))
  · by_cases hn : n ≤ 65535
    · have HO : Hid (mtO a n = some (tgt a n)) := Lib.hid (by unfold mtO; rw [if_neg ha, if_pos hn])
      have HT := Lib.hid (tgt_6 a n ha)
      have hn' : ¬ n > 65535 := by omega
      go_enter Tryd.func37, Tryd.ntmps37
      go_wp2_with fail
      refine (rput_is _ [2, 2, 0, 0, 0, 0, 0, 0] 2 4 a rfl (by decide) (by decide) (by decide) a0 a1 5 rfl).mono ?_
      rintro x w1 ⟨rfl, hB⟩
      rw [size_a1] at hB
      have HR1 := Lib.hid (HR.out.below hB (by omega))
      have HL1 := Lib.hid (HL.out.trans (hB.mono (by omega)))
      have hz1 := hB.size
      rw [size_a1] at hz1
      clear hB HR HL
      go_wp2_with fail
      refine (rput_is _ (put8 [2, 2, 0, 0, 0, 0, 0, 0] 2 4 a) 6 2 n (put8_len _ _ _ _ (by decide)) (by decide) (by decide) (by decide) n0 n1 7 rfl).mono ?_
      rintro x w2 ⟨rfl, hB⟩
      rw [HT.out]
      have HR2 := Lib.hid (HR1.out.below hB (by omega))
      have HL2 := Lib.hid (HL1.out.trans (hB.mono (by omega)))
      clear hB HR1 HL1 HT
      go_wp2_with (refine comm_store rfl _ _ rfl w.heap.size (tgt a n) (tgt_len a n) rfl rfl 52 zc8 HR2.out rfl ?_)
      refine bodyPost_ret (v := commE (some (tgt a n))) ?_ rfl ⟨by rw [HO.out], HL2.out.trans (below_setRow _ _ _ (Nat.le_refl _))⟩
      exact results_cell_slot rfl _ _ w.heap.size 52 _ _ _ rfl rfl (Blk.setRow HR2.out _) Tryd.underlying52 rfl (comm_size _ (tgt_len a n))
    · have HO : Hid (mtO a n = none) := Lib.hid (by unfold mtO; rw [if_neg ha, if_neg hn])
      have hn' : n > 65535 := by omega
      go_enter Tryd.func37, Tryd.ntmps37
      go_wp2_with (refine comm_store rfl _ _ rfl w.heap.size z8 rfl rfl rfl 52 zc8 HR.out rfl ?_)
      refine bodyPost_ret (v := commE none) ?_ rfl ⟨by rw [HO.out], HL.out.trans (below_setRow _ _ _ (Nat.le_refl _))⟩
      exact results_cell_slot rfl _ _ w.heap.size 52 _ _ _ rfl rfl (Blk.setRow HR.out _) Tryd.underlying52 rfl (comm_size _ z8_len)
theorem mob_4 (b : Bool) (n : Int) : put8 [6, 0, fl b, 0, 0, 0, 0, 0] 4 4 n = mob b n := rfl
theorem lab_5 (b : Bool) (n : Int) : put8 [6, 1, fl b, 0, 0, 0, 0, 0] 5 3 n = lab b n := rfl
theorem enc_6 (k : Int) : put8 [3, 12, 0, 0, 0, 0, 0, 0] 6 2 k = enc k := rfl
set_option maxHeartbeats 2000000 in
set_option maxRecDepth 100000 in
theorem rmm_is (w : World) (b : Bool) (n : Int) (n0 : 0 ≤ n) (n1 : n < 4294967296) :
    Calls Tryd.prog 41 #[.bool b, .int .u32 n] w fun x w' => x = .returned (.agg (u8s (mob b n)).toArray) ∧ Below w.heap.size w w' := by
  have HR := Lib.hid (Blk.new w 52 zc8)
  have HL := Lib.hid ((Below.refl w.heap.size w).alloc (Nat.le_refl _) (.cells zc8 52))
  go_enter Tryd.func41, Tryd.ntmps41
  go_wp2_with fail
  refine (rfl_is _ b).mono ?_
  rintro x w1 ⟨rfl, rfl⟩
  go_wp2_with fail
  refine (rput_is _ [6, 0, fl b, 0, 0, 0, 0, 0] 4 4 n rfl (by decide) (by decide) (by decide) n0 n1 7 rfl).mono ?_
  rintro x w2 ⟨rfl, hB⟩
  rw [mob_4]
  rw [size_a1] at hB
  have HR2 := Lib.hid (HR.out.below hB (by omega))
  have HL2 := Lib.hid (HL.out.trans (hB.mono (by omega)))
  clear hB HR HL
  go_wp2_with (refine comm_store rfl _ _ rfl w.heap.size (mob b n) (mob_len b n) rfl rfl 52 zc8 HR2.out rfl ?_)
  exact bodyPost_ret (comm_res rfl _ _ w.heap.size 52 (mob b n) (mob_len b n) rfl (Blk.setRow HR2.out _)) rfl ⟨rfl, HL2.out.trans (below_setRow _ _ _ (Nat.le_refl _))⟩
set_option maxHeartbeats 2000000 in
set_option maxRecDepth 100000 in
theorem rml_is (w : World) (b : Bool) (n : Int) (n0 : 0 ≤ n) (n1 : n < 4294967296) :
    Calls Tryd.prog 39 #[.bool b, .int .u32 n] w fun x w' => x = .returned (commE (mlO b n)) ∧ Below w.heap.size w w' := by
  have HR := Lib.hid (Blk.new w 52 zc8)
  have HL := Lib.hid ((Below.refl w.heap.size w).alloc (Nat.le_refl _) (.cells zc8 52))
  by_cases hn : n ≤ 16777215
  · have HO : Hid (mlO b n = some (lab b n)) := Lib.hid (by unfold mlO; rw [if_pos hn])
    have hn' : ¬ n > 16777215 := by omega
    go_enter Tryd.func39, Tryd.ntmps39
    go_wp2_with fail
    refine (rfl_is _ b).mono ?_
    rintro x w1 ⟨rfl, rfl⟩
    go_wp2_with fail
    refine (rput_is _ [6, 1, fl b, 0, 0, 0, 0, 0] 5 3 n rfl (by decide) (by decide) (by decide) n0 n1 7 rfl).mono ?_
    rintro x w2 ⟨rfl, hB⟩
    rw [lab_5]
    rw [size_a1] at hB
    have HR2 := Lib.hid (HR.out.below hB (by omega))
    have HL2 := Lib.hid (HL.out.trans (hB.mono (by omega)))
    clear hB HR HL
    go_wp2_with (refine comm_store rfl _ _ rfl w.heap.size (lab b n) (lab_len b n) rfl rfl 52 zc8 HR2.out rfl ?_)
    refine bodyPost_ret (v := commE (some (lab b n))) ?_ rfl ⟨by rw [HO.out], HL2.out.trans (below_setRow _ _ _ (Nat.le_refl _))⟩
    exact results_cell_slot rfl _ _ w.heap.size 52 _ _ _ rfl rfl (Blk.setRow HR2.out _) Tryd.underlying52 rfl (comm_size _ (lab_len b n))
  · have HO : Hid (mlO b n = none) := Lib.hid (by unfold mlO; rw [if_neg hn])
    have hn' : n > 16777215 := by omega
    go_enter Tryd.func39, Tryd.ntmps39
    go_wp2_with (refine comm_store rfl _ _ rfl w.heap.size z8 rfl rfl rfl 52 zc8 HR.out rfl ?_)
    refine bodyPost_ret (v := commE none) ?_ rfl ⟨by rw [HO.out], HL.out.trans (below_setRow _ _ _ (Nat.le_refl _))⟩
    exact results_cell_slot rfl _ _ w.heap.size 52 _ _ _ rfl rfl (Blk.setRow HR.out _) Tryd.underlying52 rfl (comm_size _ z8_len)
set_option maxHeartbeats 2000000 in
set_option maxRecDepth 100000 in
theorem rme_is (w : World) (k : Int) (k0 : 0 ≤ k) (k1 : k < 65536) :
    Calls Tryd.prog 47 #[.int .u16 k] w fun x w' => x = .returned (.agg (u8s (enc k)).toArray) ∧ Below w.heap.size w w' := by
  have HR := Lib.hid (Blk.new w 52 zc8)
  have HL := Lib.hid ((Below.refl w.heap.size w).alloc (Nat.le_refl _) (.cells zc8 52))
  have hk : k % 4294967296 = k := Int.emod_eq_of_lt k0 (by omega)
  go_enter Tryd.func47, Tryd.ntmps47
  go_wp2_with fail
  refine (rput_is _ [3, 12, 0, 0, 0, 0, 0, 0] 6 2 k rfl (by decide) (by decide) (by decide) k0 (by omega) 7 rfl).mono ?_
  rintro x w2 ⟨rfl, hB⟩
  rw [enc_6]
  rw [size_a1] at hB
  have HR2 := Lib.hid (HR.out.below hB (by omega))
  have HL2 := Lib.hid (HL.out.trans (hB.mono (by omega)))
  clear hB HR HL
  go_wp2_with (refine comm_store rfl _ _ rfl w.heap.size (enc k) (enc_len k) rfl rfl 52 zc8 HR2.out rfl ?_)
  exact bodyPost_ret (comm_res rfl _ _ w.heap.size 52 (enc k) (enc_len k) rfl (Blk.setRow HR2.out _)) rfl ⟨rfl, HL2.out.trans (below_setRow _ _ _ (Nat.le_refl _))⟩
set_option maxHeartbeats 2000000 in
set_option maxRecDepth 100000 in
theorem rwm_is (w : World) (y : Int) (m : List Int) (hm : m.length = 6) :
    Calls Tryd.prog 92 #[.int .u8 y, .agg (u8s m).toArray] w fun e w' => e = .returned (.agg (u8s (withM 6 y m)).toArray) ∧ Below w.heap.size w w' := by
  have HM0 := Lib.hid ((Blk.new w 49 (u8s m).toArray).alloc (.cells zc8 52))
  have hR0 := Blk.new (w.alloc (.cells (u8s m).toArray 49)) 52 zc8
  rw [size_a1] at hR0
  have HR0 := Lib.hid hR0
  have HL0 : Hid (Below w.heap.size w ((w.alloc (.cells (u8s m).toArray 49)).alloc (.cells zc8 52))) := Lib.hid (((Below.refl w.heap.size w).alloc (Nat.le_refl _) _).alloc (by simp) _)
  have hz : ((w.alloc (.cells (u8s m).toArray 49)).alloc (.cells zc8 52)).heap.size = w.heap.size + 2 := size_a2 _ _ _
  have hN := Blk.new ((w.alloc (.cells (u8s m).toArray 49)).alloc (.cells zc8 52)) 52 zc8
  rw [hz] at hN
  have HN := Lib.hid hN
  have HC1 := Lib.hid (Blk.setRow hN (u8s [6, y, 0, 0, 0, 0, 0, 0]).toArray)
  have HM1 := Lib.hid ((HM0.out.alloc (.cells zc8 52)).below (below_setRow _ (w.heap.size + 2) (u8s [6, y, 0, 0, 0, 0, 0, 0]).toArray (Nat.le_refl _)) (by omega))
  have HR1 := Lib.hid ((HR0.out.alloc (.cells zc8 52)).below (below_setRow _ (w.heap.size + 2) (u8s [6, y, 0, 0, 0, 0, 0, 0]).toArray (Nat.le_refl _)) (by omega))
  have HL1 := Lib.hid ((HL0.out.alloc (by rw [hz]; omega) (.cells zc8 52)).trans (below_setRow _ (w.heap.size + 2) (u8s [6, y, 0, 0, 0, 0, 0, 0]).toArray (by omega)))
  clear hR0 hN hz HM0 HR0 HL0
  go_enter Tryd.func92, Tryd.ntmps92
  go_wp2_with (refine comm_store rfl _ _ rfl (w.heap.size + 2) [6, y, 0, 0, 0, 0, 0, 0] rfl rfl rfl 52 zc8 HN.out rfl ?_)
  clear HN
  generalize (((w.alloc (.cells (u8s m).toArray 49)).alloc (.cells zc8 52)).alloc (.cells zc8 52)).setRow (w.heap.size + 2) (u8s [6, y, 0, 0, 0, 0, 0, 0]).toArray = w2 at *
  have hcp := copy_mac w2.drew (w.heap.size + 2) w.heap.size 6 y m hm HC1.out HM1.out 3
  have HR3 : Hid (Blk (w2.drew.setRow (w.heap.size + 2) (u8s (withM 6 y m)).toArray) (w.heap.size + 1) 52 zc8) := Lib.hid ((show Blk w2.drew (w.heap.size + 1) 52 zc8 from HR1.out).below (below_setRow _ (w.heap.size + 2) _ (Nat.le_refl _)) (by omega))
  have HC3 : Hid (Blk (w2.drew.setRow (w.heap.size + 2) (u8s (withM 6 y m)).toArray) (w.heap.size + 2) 52 (u8s (withM 6 y m)).toArray) := Lib.hid (Blk.setRow (show Blk w2.drew (w.heap.size + 2) 52 _ from HC1.out) _)
  have HL3 : Hid (Below w.heap.size w (w2.drew.setRow (w.heap.size + 2) (u8s (withM 6 y m)).toArray)) := Lib.hid ((below_drewN HL1.out 1).trans (below_setRow _ (w.heap.size + 2) _ (by omega)))
  clear HR1 HM1 HC1
  refine wp_region_held_drew (S := fun w' => True) (by kernel_rfl) (trivial) (fun hS => ?_)
  refine wpAnyH_take (i := 0) (oi := ⟨some 8, _, _, _, _, _⟩) (v := ?_) rfl (by kernel_rfl) (by kernel_rfl) (by kernel_rfl) (fun _ _ _ h => h) (Or.inl ⟨by rfl, ?_⟩) hS ?_
  rotate_left
  · intro wq hq
    first | (go_simp; done) | (go_simp; rfl)
  try simp only [Act.put, List.setIfInBounds_toArray, List.set_cons_zero, List.set_cons_succ]
  refine wpAnyH_take (i := 1) (oi := ⟨some 9, _, _, _, _, _⟩) (v := ?_) rfl (by kernel_rfl) (by kernel_rfl) (by kernel_rfl) (fun _ _ _ h => h) (Or.inl ⟨by rfl, ?_⟩) hS ?_
  rotate_left
  · intro wq hq
    first | (go_simp; done) | (go_simp; rfl)
  try simp only [Act.put, List.setIfInBounds_toArray, List.set_cons_zero, List.set_cons_succ]
  refine wpAnyH_ready (rs := [2]) (by kernel_rfl) (by simp) ?_
  refine AllReadyH.cons (o := ⟨some 10, _, _, _, _, _⟩) rfl (fun K hK => ?_) AllReadyH.nil
  rw [if_pos (by rfl)]
  go_wp2
  refine hK.out _ _ trivial (fun hS => ?_)
  clear hK K hcp
  try simp only [Act.put, List.setIfInBounds_toArray, List.set_cons_zero, List.set_cons_succ]
  refine wpAnyH_done (by kernel_rfl) ?_ _
  generalize w2.drew.setRow (w.heap.size + 2) (u8s (withM 6 y m)).toArray = w3 at *
  clear hS
  go_wp2_with (first
    | (refine comm_fetch rfl _ rfl (w.heap.size + 2) 0 (withM 6 y m) (withM_len 6 y m hm) rfl HC3.out.range ?_)
    | (refine comm_store rfl _ _ rfl (w.heap.size + 1) (withM 6 y m) (withM_len 6 y m hm) rfl rfl 52 zc8 HR3.out rfl ?_))
  exact bodyPost_ret (comm_res rfl _ _ (w.heap.size + 1) 52 (withM 6 y m) (withM_len 6 y m hm) rfl (Blk.setRow HR3.out _)) rfl ⟨rfl, HL3.out.trans (below_setRow _ _ _ (by omega))⟩
set_option maxHeartbeats 2000000 in
set_option maxRecDepth 100000 in
theorem rmi_is (w : World) (m : List Int) (hm : m.length = 6) :
    Calls Tryd.prog 43 #[.agg (u8s m).toArray] w fun e w' => e = .returned (.agg (u8s (withM 6 2 m)).toArray) ∧ Below w.heap.size w w' := by
  have HM0 := Lib.hid ((Blk.new w 49 (u8s m).toArray).alloc (.cells zc8 52))
  have hR0 := Blk.new (w.alloc (.cells (u8s m).toArray 49)) 52 zc8
  rw [size_a1] at hR0
  have HR0 := Lib.hid hR0
  have HL0 : Hid (Below w.heap.size w ((w.alloc (.cells (u8s m).toArray 49)).alloc (.cells zc8 52))) := Lib.hid (((Below.refl w.heap.size w).alloc (Nat.le_refl _) _).alloc (by simp) _)
  clear hR0
  go_enter Tryd.func43, Tryd.ntmps43
  go_wp2_with (refine mac6_fetch rfl _ rfl w.heap.size 0 m hm rfl HM0.out.range ?_)
  refine (rwm_is _ 2 m hm).mono ?_
  rintro e w1 ⟨rfl, hB⟩
  rw [size_a2] at hB
  have HR1 := Lib.hid (HR0.out.below hB (by omega))
  have HL1 := Lib.hid (HL0.out.trans (hB.mono (by omega)))
  clear hB HM0 HR0 HL0
  go_wp2_with (refine comm_store rfl _ _ rfl (w.heap.size + 1) (withM 6 2 m) (withM_len 6 2 m hm) rfl rfl 52 zc8 HR1.out rfl ?_)
  exact bodyPost_ret (comm_res rfl _ _ (w.heap.size + 1) 52 (withM 6 2 m) (withM_len 6 2 m hm) rfl (Blk.setRow HR1.out _)) rfl ⟨rfl, HL1.out.trans (below_setRow _ _ _ (by omega))⟩
set_option maxHeartbeats 2000000 in
set_option maxRecDepth 100000 in
theorem rmr_is (w : World) (m : List Int) (hm : m.length = 6) :
    Calls Tryd.prog 45 #[.agg (u8s m).toArray] w fun e w' => e = .returned (.agg (u8s (withM 6 3 m)).toArray) ∧ Below w.heap.size w w' := by
  have HM0 := Lib.hid ((Blk.new w 49 (u8s m).toArray).alloc (.cells zc8 52))
  have hR0 := Blk.new (w.alloc (.cells (u8s m).toArray 49)) 52 zc8
  rw [size_a1] at hR0
  have HR0 := Lib.hid hR0
  have HL0 : Hid (Below w.heap.size w ((w.alloc (.cells (u8s m).toArray 49)).alloc (.cells zc8 52))) := Lib.hid (((Below.refl w.heap.size w).alloc (Nat.le_refl _) _).alloc (by simp) _)
  clear hR0
  go_enter Tryd.func45, Tryd.ntmps45
  go_wp2_with (refine mac6_fetch rfl _ rfl w.heap.size 0 m hm rfl HM0.out.range ?_)
  refine (rwm_is _ 3 m hm).mono ?_
  rintro e w1 ⟨rfl, hB⟩
  rw [size_a2] at hB
  have HR1 := Lib.hid (HR0.out.below hB (by omega))
  have HL1 := Lib.hid (HL0.out.trans (hB.mono (by omega)))
  clear hB HM0 HR0 HL0
  go_wp2_with (refine comm_store rfl _ _ rfl (w.heap.size + 1) (withM 6 3 m) (withM_len 6 3 m hm) rfl rfl 52 zc8 HR1.out rfl ?_)
  exact bodyPost_ret (comm_res rfl _ _ (w.heap.size + 1) 52 (withM 6 3 m) (withM_len 6 3 m hm) rfl (Blk.setRow HR1.out _)) rfl ⟨rfl, HL1.out.trans (below_setRow _ _ _ (by omega))⟩
end Go.Proofs.YtkaimdcepnhkdaaDoor
