/-
  The document's answer, layer 2: ParseMac, ParseEsi.
-/
import Derived.Test.YtfapmedlnaikiaaDoorCarC
namespace Go.Proofs.YtfapmedlnaikiaaDoor
open Go.RowKit
set_option linter.unusedSimpArgs false
set_option linter.unusedVariables false

set_option maxHeartbeats 1000000 in
theorem up_is (w : World) (s : ByteArray) (n : Nat) (hn : 1 ≤ n ∧ n ≤ 16) :
    Calls Tryd.prog 54 #[.string s, .int .i64 n] w (Up w n (prs s n)) := by
  by_cases hs : s.size + 1 = 3 * n
  · have h : prs s n = prTo s n := by unfold prs; rw [if_pos hs]
    rw [h]
    exact up_go w s n hn hs
  · have HN : Hid (prs s n = none) := Lib.hid (by unfold prs; rw [if_neg hs])
    have hne : ((s.size : Int) != 3 * (n : Int) - 1) = true := by simp; omega
    clear hs
    go_enter Tryd.func54, Tryd.ntmps54
    go_wp2
    go_ret2
    exact ⟨Below.refl _ _, by rw [HN.out]; rfl⟩
theorem splice_all (n : Nat) (l : List Int) (hl : l.length = n) : splice (u8s (List.replicate n 0)) 0 (u8s l) = u8s l := by
  unfold splice
  subst hl
  simp
theorem src8 {w : World} {g : Nat} {t : TypeId} {l : List Int} (h : Blk w g t (u8s l).toArray) : ∀ (j : Nat) (v : Value), (u8s l)[j]? = some v → w.cell? ((⟨g, 0, none⟩ : Addr).add j) = some v := by
  intro j v hv
  have e : (⟨g, 0, none⟩ : Addr).add j = ⟨g, j, none⟩ := by unfold Addr.add; split <;> simp_all
  rw [e, h.cell]
  simpa using hv

set_option maxHeartbeats 4000000 in
set_option maxRecDepth 100000 in
theorem rmac_is (w : World) (s : ByteArray) : Calls Tryd.prog 11 #[.string s] w (Nam w 6 (prs s 6)) := by
  have HR := Lib.hid ((Blk.new w 23 zmac).alloc (.cells zmac 23))
  have hM := Blk.new (w.alloc (.cells zmac 23)) 23 zmac
  rw [show (w.alloc (.cells zmac 23)).heap.size = w.heap.size + 1 by simp] at hM
  have HM : Hid (Blk ((w.alloc (.cells zmac 23)).alloc (.cells zmac 23)) (w.heap.size + 1) 23 (u8s (List.replicate 6 0)).toArray) := Lib.hid hM
  have HL : Hid (Below w.heap.size w ((w.alloc (.cells zmac 23)).alloc (.cells zmac 23))) := Lib.hid (((Below.refl w.heap.size w).alloc (Nat.le_refl _) _).alloc (by simp) _)
  clear hM
  go_enter Tryd.func11, Tryd.ntmps11
  go_wp2_with fail
  refine (up_is _ s 6 (by omega)).mono ?_
  rintro e w1 ⟨hB, he⟩
  rw [show ((w.alloc (.cells zmac 23)).alloc (.cells zmac 23)).heap.size = w.heap.size + 2 by simp] at hB he
  have HR1 := Lib.hid (HR.out.below hB (by omega))
  have HM1 := Lib.hid (HM.out.below hB (by omega))
  have HL1 := Lib.hid (HL.out.trans (hB.mono (by omega)))
  have HBd := Lib.hid (fun l => prs_bd (s := s) (n := 6) (l := l))
  clear hB HR HM HL
  cases ho : prs s 6 with
  | none =>
    rw [ho] at he
    obtain rfl := he
    have HN := Lib.hid ho
    clear ho HBd
    go_wp2_with (first
      | (refine mac_fetch rfl _ rfl (w.heap.size + 1) (List.replicate 6 0) rfl rfl HM1.out.range ?_)
      | (refine mac_store rfl _ _ rfl w.heap.size (List.replicate 6 0) rfl rfl rfl 23 zmac HR1.out rfl ?_))
    refine bodyPost_ret (v := namE 6 none) ?_ rfl ⟨by rw [HN.out], HL1.out.trans (below_setRow _ _ _ (Nat.le_refl _))⟩
    exact results_cell_slot rfl _ _ w.heap.size 23 _ _ _ rfl rfl (Blk.setRow HR1.out _) Tryd.underlying23 rfl (by kernel_rfl)
  | some l =>
    rw [ho] at he
    obtain ⟨rfl, hS⟩ := he
    have HN := Lib.hid ho
    have hl := (HBd.out l ho).1
    obtain ⟨w4, hcp, hg4, hB4⟩ := run_copy_ex (P := Tryd.prog) w1 75 75 3 5 Tryd.underlying75 (by kernel_rfl) (some ⟨w.heap.size + 1, 0, none⟩) (some ⟨w.heap.size + 2, 0, none⟩) 6 6 6 6 (w.heap.size + 1) 0 (u8s (List.replicate 6 0)) 23 HM1.out (u8s l) (by simp [hl]) (fun _ => ⟨rfl, ⟨w.heap.size + 2, 0, none⟩, rfl, src8 hS⟩) (by simp [hl]) (u8s_one l) (w.heap.size + 1) w1 (Below.refl _ _) (Nat.le_refl _)
    rw [splice_all 6 l hl, show (u8s l).length = 6 by simp [hl]] at *
    have HM4 : Hid (Blk w4 (w.heap.size + 1) 23 (u8s l).toArray) := Lib.hid hg4
    have HR4 := Lib.hid (HR1.out.below hB4 (by omega))
    have HL4 := Lib.hid (HL1.out.trans (hB4.mono (by omega)))
    clear ho HBd hS hg4 hB4 HR1 HM1 HL1
    go_wp2_with (first
      | (refine mac_fetch rfl _ rfl (w.heap.size + 1) l hl rfl HM4.out.range ?_)
      | (refine mac_store rfl _ _ rfl w.heap.size l hl rfl rfl 23 zmac HR4.out rfl ?_))
    refine bodyPost_ret (v := namE 6 (some l)) ?_ rfl ⟨by rw [HN.out], HL4.out.trans (below_setRow _ _ _ (Nat.le_refl _))⟩
    exact results_cell_slot rfl _ _ w.heap.size 23 _ _ _ rfl rfl (Blk.setRow HR4.out _) Tryd.underlying23 rfl (mac_size l hl)

set_option maxHeartbeats 4000000 in
set_option maxRecDepth 100000 in
theorem resi_is (w : World) (s : ByteArray) : Calls Tryd.prog 13 #[.string s] w (Nam w 10 (prs s 10)) := by
  have HR := Lib.hid ((Blk.new w 25 zesi).alloc (.cells zesi 25))
  have hM := Blk.new (w.alloc (.cells zesi 25)) 25 zesi
  rw [show (w.alloc (.cells zesi 25)).heap.size = w.heap.size + 1 by simp] at hM
  have HM : Hid (Blk ((w.alloc (.cells zesi 25)).alloc (.cells zesi 25)) (w.heap.size + 1) 25 (u8s (List.replicate 10 0)).toArray) := Lib.hid hM
  have HL : Hid (Below w.heap.size w ((w.alloc (.cells zesi 25)).alloc (.cells zesi 25))) := Lib.hid (((Below.refl w.heap.size w).alloc (Nat.le_refl _) _).alloc (by simp) _)
  clear hM
  go_enter Tryd.func13, Tryd.ntmps13
  go_wp2_with fail
  refine (up_is _ s 10 (by omega)).mono ?_
  rintro e w1 ⟨hB, he⟩
  rw [show ((w.alloc (.cells zesi 25)).alloc (.cells zesi 25)).heap.size = w.heap.size + 2 by simp] at hB he
  have HR1 := Lib.hid (HR.out.below hB (by omega))
  have HM1 := Lib.hid (HM.out.below hB (by omega))
  have HL1 := Lib.hid (HL.out.trans (hB.mono (by omega)))
  have HBd := Lib.hid (fun l => prs_bd (s := s) (n := 10) (l := l))
  clear hB HR HM HL
  cases ho : prs s 10 with
  | none =>
    rw [ho] at he
    obtain rfl := he
    have HN := Lib.hid ho
    clear ho HBd
    go_wp2_with (first
      | (refine esi_fetch rfl _ rfl (w.heap.size + 1) (List.replicate 10 0) rfl rfl HM1.out.range ?_)
      | (refine esi_store rfl _ _ rfl w.heap.size (List.replicate 10 0) rfl rfl rfl 25 zesi HR1.out rfl ?_))
    refine bodyPost_ret (v := namE 10 none) ?_ rfl ⟨by rw [HN.out], HL1.out.trans (below_setRow _ _ _ (Nat.le_refl _))⟩
    exact results_cell_slot rfl _ _ w.heap.size 25 _ _ _ rfl rfl (Blk.setRow HR1.out _) Tryd.underlying25 rfl (by kernel_rfl)
  | some l =>
    rw [ho] at he
    obtain ⟨rfl, hS⟩ := he
    have HN := Lib.hid ho
    have hl := (HBd.out l ho).1
    obtain ⟨w4, hcp, hg4, hB4⟩ := run_copy_ex (P := Tryd.prog) w1 75 75 3 5 Tryd.underlying75 (by kernel_rfl) (some ⟨w.heap.size + 1, 0, none⟩) (some ⟨w.heap.size + 2, 0, none⟩) 10 10 10 10 (w.heap.size + 1) 0 (u8s (List.replicate 10 0)) 25 HM1.out (u8s l) (by simp [hl]) (fun _ => ⟨rfl, ⟨w.heap.size + 2, 0, none⟩, rfl, src8 hS⟩) (by simp [hl]) (u8s_one l) (w.heap.size + 1) w1 (Below.refl _ _) (Nat.le_refl _)
    rw [splice_all 10 l hl, show (u8s l).length = 10 by simp [hl]] at *
    have HM4 : Hid (Blk w4 (w.heap.size + 1) 25 (u8s l).toArray) := Lib.hid hg4
    have HR4 := Lib.hid (HR1.out.below hB4 (by omega))
    have HL4 := Lib.hid (HL1.out.trans (hB4.mono (by omega)))
    clear ho HBd hS hg4 hB4 HR1 HM1 HL1
    go_wp2_with (first
      | (refine esi_fetch rfl _ rfl (w.heap.size + 1) l hl rfl HM4.out.range ?_)
      | (refine esi_store rfl _ _ rfl w.heap.size l hl rfl rfl 25 zesi HR4.out rfl ?_))
    refine bodyPost_ret (v := namE 10 (some l)) ?_ rfl ⟨by rw [HN.out], HL4.out.trans (below_setRow _ _ _ (Nat.le_refl _))⟩
    exact results_cell_slot rfl _ _ w.heap.size 25 _ _ _ rfl rfl (Blk.setRow HR4.out _) Tryd.underlying25 rfl (esi_size l hl)
end Go.Proofs.YtfapmedlnaikiaaDoor
