/-
  Put together: NlO NlP NlPb NlPc NlQ.
-/
import Derived.Test.YtdgoeibfggjbmaaGreatDoorMNF
namespace Go.Proofs.YtdgoeibfggjbmaaGreatDoor
open Go.RowKit
set_option maxRecDepth 100000
set_option linter.unusedSimpArgs false
set_option linter.unusedVariables false


set_option maxHeartbeats 4000000 in
set_option maxRecDepth 100000 in
theorem body_5 (w : World) (r : Rt) (hr : RtOk r) (hf : RightF r) (hk : r.k = 5) : Calls Tryz.prog 196 #[.agg (rtc r).toArray] w fun e w' => ∃ v, e = .returned v ∧ OwnB w.heap.size w' v (bodyR r) ∧ Below w.heap.size w w' := by
  have HR := Lib.hid hr
  have H1 := Lib.hid ((RtAt.new w r hr 53).keep (w' := (w.alloc (.cells (rtc r).toArray 53)).drew) rfl)
  have HB1 := Lib.hid (below_drewN ((Below.refl w.heap.size w).alloc (Nat.le_refl _) (.cells (rtc r).toArray 53)) 1)
  have HN4 : Hid (∀ W, Calls Tryz.prog 220 #[.int .u32 r.tg, .int .i64 4] W fun e W' => ∃ A c, e = .returned (.slice A 4 c) ∧ Rd W' W'.heap.size A 4 (be 4 r.tg) ∧ Below W.heap.size W W') := Lib.hid (fun W => (numb_is W r.tg 4 hr.tg (by omega) (by omega) (be4_fit hr.tg)).mono (by
    rintro e W' ⟨A, c, rfl, _, h2, h3⟩
    exact ⟨A, c, rfl, h2, h3⟩))
  have HN3 : Hid (∀ W, Calls Tryz.prog 220 #[.int .u32 r.lb, .int .i64 3] W fun e W' => ∃ A c, e = .returned (.slice A 3 c) ∧ Rd W' W'.heap.size A 3 (be 3 r.lb) ∧ Below W.heap.size W W') := Lib.hid (fun W => (numb_is W r.lb 3 hr.lb (by omega) (by omega) (by have := hf.lb.2; omega)).mono (by
    rintro e W' ⟨A, c, rfl, _, h2, h3⟩
    exact ⟨A, c, rfl, h2, h3⟩))
  have HAd : Hid (∀ W, Calls Tryz.prog 221 #[.agg (ipc r.v6 r.pl).toArray] W fun e W' => ∃ A, e = .returned (.slice A (nb r.v6) 16) ∧ Rd W' W'.heap.size A (nb r.v6) (r.pl.take (nb r.v6)) ∧ Below W.heap.size W W') := Lib.hid (fun W => addr_at W r.v6 r.pl hr.pl hr.opl)
  have hs8 : ∀ W, (Instr.sliceAt 45 (.pointer (some ⟨w.heap.size, 1, none⟩)) none none none).run Tryz.prog W = .ok (.slice (some ⟨w.heap.size, 1, none⟩) 8 8) W := fun W => by go_simp
  have hs10 : ∀ W, (Instr.sliceAt 47 (.pointer (some ⟨w.heap.size, 9, none⟩)) none none none).run Tryz.prog W = .ok (.slice (some ⟨w.heap.size, 9, none⟩) 10 10) W := fun W => by go_simp
  have HAg : Hid (∀ W, Calls Tryz.prog 221 #[.agg (ipc r.gv r.gl).toArray] W fun e W' => ∃ A, e = .returned (.slice A (nb r.gv) 16) ∧ Rd W' W'.heap.size A (nb r.gv) (r.gl.take (nb r.gv)) ∧ Below W.heap.size W W') := Lib.hid (fun W => addr_at W r.gv r.gl hr.gl hr.ogl)
  have HF : Hid (([r.rd, r.es, be 4 r.tg, [r.pn % 256], r.pl.take (nb r.v6), r.gl.take (nb r.gv), be 3 r.lb] : List (List Int)).flatten = bodyR r) := Lib.hid (by unfold bodyR; rw [if_neg (by omega)]; rw [if_neg (by omega)]; rw [if_neg (by omega)]; rw [if_neg (by omega)]; simp)
  have HLen : Hid ((bodyR r).length ≤ 140737488355328) := Lib.hid (by unfold bodyR; rw [if_neg (by omega)]; rw [if_neg (by omega)]; rw [if_neg (by omega)]; rw [if_neg (by omega)]; simp [be_len, hr.rd, hr.es, hr.pl, hr.gl] <;> omega)
  have e1 : (r.k == 1) = false := by rw [beq_eq_false_iff_ne]; omega
  have e2 : (r.k == 2) = false := by rw [beq_eq_false_iff_ne]; omega
  have e3 : (r.k == 3) = false := by rw [beq_eq_false_iff_ne]; omega
  have e4 : (r.k == 4) = false := by rw [beq_eq_false_iff_ne]; omega
  clear hk
  clear hr hf
  go_enter Tryz.func196, Tryz.ntmps196
  go_wp2
  refine wp_region_held_drew (S := fun W => RtAt W w.heap.size r) (by kernel_rfl) (H1.out) (fun hS => ?_)
  refine wpAnyH_take (i := 0) (oi := ⟨some 9, _, _, _, _, _⟩) (v := ?_) rfl (by kernel_rfl) (by kernel_rfl) (by kernel_rfl) (fun _ _ _ h => h) (Or.inl ⟨by rfl, ?_⟩) hS ?_
  rotate_left
  · intro wq hq
    first | (go_simp; done) | (go_simp; rfl)
  try simp only [Act.put, zP, zQ, zR]
  refine wpAnyH_take (i := 1) (oi := ⟨some 10, _, _, _, _, _⟩) (v := ?_) rfl (by kernel_rfl) (by kernel_rfl) (by kernel_rfl) (fun _ _ _ h => h) (Or.inl ⟨by rfl, ?_⟩) hS ?_
  rotate_left
  · intro wq hq
    first | (go_simp; done) | (go_simp; rfl)
  try simp only [Act.put, zP, zQ, zR]
  refine wpAnyH_take (i := 2) (oi := ⟨some 11, _, _, _, _, _⟩) (v := ?_) rfl (by kernel_rfl) (by kernel_rfl) (by kernel_rfl) (fun _ _ _ h => h) (Or.inl ⟨by rfl, ?_⟩) hS ?_
  rotate_left
  · intro wq hq
    first | (go_simp; done) | (go_simp; rfl)
  try simp only [Act.put, zP, zQ, zR]
  refine wpAnyH_take (i := 3) (oi := ⟨some 12, _, _, _, _, _⟩) (v := ?_) rfl (by kernel_rfl) (by kernel_rfl) (by kernel_rfl) (fun _ _ _ h => h) (Or.inl ⟨by rfl, ?_⟩) hS ?_
  rotate_left
  · intro wq hq
    first | (go_simp; done) | (go_simp; rfl)
  try simp only [Act.put, zP, zQ, zR]
  refine wpAnyH_take (i := 4) (oi := ⟨some 3, _, _, _, _, _⟩) (v := ?_) rfl (by kernel_rfl) (by kernel_rfl) (by kernel_rfl) (fun _ _ _ h => h) (Or.inl ⟨by rfl, ?_⟩) hS ?_
  rotate_left
  · intro wq hq
    first | (go_simp; done) | (go_simp; rfl)
  try simp only [Act.put, zP, zQ, zR]
  refine wpAnyH_take (i := 5) (oi := ⟨some 4, _, _, _, _, _⟩) (v := ?_) rfl (by kernel_rfl) (by kernel_rfl) (by kernel_rfl) (fun _ _ _ h => h) (Or.inl ⟨by rfl, ?_⟩) hS ?_
  rotate_left
  · intro wq hq
    first | (go_simp; done) | (go_simp; rfl)
  try simp only [Act.put, zP, zQ, zR]
  refine wpAnyH_done (by kernel_rfl) ?_ _
  clear hS hs8 hs10
  go_wp2_with fail
  have HW1 := Lib.hid (show RtAt ((w.alloc (.cells (rtc r).toArray 53)).drew) w.heap.size r ∧ Below w.heap.size w ((w.alloc (.cells (rtc r).toArray 53)).drew) from ⟨H1.out, HB1.out⟩)
  clear H1 HB1
  generalize (w.alloc (.cells (rtc r).toArray 53)).drew = W1 at *
  go_cut [5, 6] (fun s5 s6 wx => CutA w r s5 s6 wx)
  case first =>
    refine wp_region_held_drew (S := fun W => RtAt W w.heap.size r ∧ Below w.heap.size w W) (by kernel_rfl) (⟨HW1.out.1.keep rfl, below_drewN HW1.out.2 1⟩) (fun hS => ?_)
    refine wpAnyH_take (i := 0) (oi := ⟨some 13, _, _, _, _, _⟩) (v := ?_) rfl (by kernel_rfl) (by kernel_rfl) (by kernel_rfl) (fun _ _ _ h => h) (Or.inl ⟨by rfl, ?_⟩) hS ?_
    rotate_left
    · intro wq hq
      first | (go_simp; done) | (go_simp; rfl)
    try simp only [Act.put, zP, zQ, zR]
    refine wpAnyH_take (i := 1) (oi := ⟨some 14, _, _, _, _, _⟩) (v := ?_) rfl (by kernel_rfl) (by kernel_rfl) (by kernel_rfl) (fun _ _ _ h => h) (Or.inl ⟨by rfl, ?_⟩) hS ?_
    rotate_left
    · intro wq hq
      have hc := hq.1.cTg HR.out
      first | (go_simp; done) | (go_simp; rfl)
    try simp only [Act.put, zP, zQ, zR]
    refine wpAnyH_take (i := 3) (oi := ⟨some 16, _, _, _, _, _⟩) (v := ?_) rfl (by kernel_rfl) (by kernel_rfl) (by kernel_rfl) (fun _ _ _ h => h) (Or.inl ⟨by rfl, ?_⟩) hS ?_
    rotate_left
    · intro wq hq
      first | (go_simp; done) | (go_simp; rfl)
    try simp only [Act.put, zP, zQ, zR]
    refine wpAnyH_take (i := 4) (oi := ⟨some 17, _, _, _, _, _⟩) (v := ?_) rfl (by kernel_rfl) (by kernel_rfl) (by kernel_rfl) (fun _ _ _ h => h) (Or.inl ⟨by rfl, ?_⟩) hS ?_
    rotate_left
    · intro wq hq
      have hc := hq.1.cLb HR.out
      first | (go_simp; done) | (go_simp; rfl)
    try simp only [Act.put, zP, zQ, zR]
    refine wpAnyH_ready (rs := [2]) (by kernel_rfl) (by simp) ?_
    refine AllReadyH.cons (o := ⟨some 15, _, _, _, _, _⟩) rfl (fun K hK => ?_) AllReadyH.nil
    rw [if_pos (by rfl)]
    go_wp2_with fail
    refine (HN4.out _).mono ?_
    rintro e w2 ⟨A5, c5, rfl, hr5, hB5⟩
    have hS2 : RtAt w2 w.heap.size r ∧ Below w.heap.size w w2 := ⟨hS.1.below hB5 hS.1.lt, hS.2.trans (hB5.mono hS.2.size)⟩
    refine hK.out _ _ (hS2) (fun hS => ?_)
    clear hK K
    try simp only [Act.put, zP, zQ, zR]
    refine wpAnyH_ready (rs := [5]) (by kernel_rfl) (by simp) ?_
    refine AllReadyH.cons (o := ⟨some 18, _, _, _, _, _⟩) rfl (fun K hK => ?_) AllReadyH.nil
    rw [if_pos (by rfl)]
    go_wp2_with fail
    refine (HN3.out _).mono ?_
    rintro e w3 ⟨A6, c6, rfl, hr6, hB6⟩
    have hS3 : RtAt w3 w.heap.size r ∧ Below w.heap.size w w3 := ⟨hS.1.below hB6 hS.1.lt, hS.2.trans (hB6.mono hS.2.size)⟩
    refine hK.out _ _ (hS3) (fun hS => ?_)
    clear hK K
    try simp only [Act.put, zP, zQ, zR]
    refine wpAnyH_take (i := 6) (oi := ⟨some 5, _, _, _, _, _⟩) (v := ?_) rfl (by kernel_rfl) (by kernel_rfl) (by kernel_rfl) (fun _ _ _ h => h) (Or.inl ⟨by rfl, ?_⟩) hS ?_
    rotate_left
    · intro wq hq
      first | (go_simp; done) | (go_simp; rfl)
    try simp only [Act.put, zP, zQ, zR]
    refine wpAnyH_take (i := 7) (oi := ⟨some 6, _, _, _, _, _⟩) (v := ?_) rfl (by kernel_rfl) (by kernel_rfl) (by kernel_rfl) (fun _ _ _ h => h) (Or.inl ⟨by rfl, ?_⟩) hS ?_
    rotate_left
    · intro wq hq
      first | (go_simp; done) | (go_simp; rfl)
    try simp only [Act.put, zP, zQ, zR]
    refine wpAnyH_done (by kernel_rfl) ?_ _
    go_wp2_with fail
    go_meet
    exact ⟨A5, c5, A6, c6, rfl, rfl, hS3.1, hS3.2, (hr5.below hB6).more hB6.size, hr6⟩
  case rest =>
    obtain ⟨A5, c5, A6, c6, rfl, rfl, hA⟩ := hcut
    have HA := Lib.hid (show BdA w wc.drew r A5 A6 from hA.below (below_drew wc))
    clear hA
    go_wp2_with fail
    go_cut [7, 8] (fun s7 s8 wx => CutB w r A5 A6 s7 s8 wx)
    case first =>
      refine wp_region_held_drew (S := fun W => BdA w W r A5 A6) (by kernel_rfl) (HA.out) (fun hS => ?_)
      refine wpAnyH_take (i := 0) (oi := ⟨some 19, _, _, _, _, _⟩) (v := ?_) rfl (by kernel_rfl) (by kernel_rfl) (by kernel_rfl) (fun _ _ _ h => h) (Or.inl ⟨by rfl, ?_⟩) hS ?_
      rotate_left
      · intro wq hq
        first | (go_simp; done) | (go_simp; rfl)
      try simp only [Act.put, zP, zQ, zR]
      refine wpAnyH_take (i := 1) (oi := ⟨some 20, _, _, _, _, _⟩) (v := ?_) rfl (by kernel_rfl) (by kernel_rfl) (by kernel_rfl) (fun _ _ _ h => h) (Or.inl ⟨by rfl, ?_⟩) hS ?_
      rotate_left
      · intro wq hq
        first | (go_simp; done) | (go_simp; rfl)
      try simp only [Act.put, zP, zQ, zR]
      refine wpAnyH_take (i := 2) (oi := ⟨some 21, _, _, _, _, _⟩) (v := ?_) rfl (by kernel_rfl) (by kernel_rfl) (by kernel_rfl) (fun _ _ _ h => h) (Or.inl ⟨by rfl, ?_⟩) hS ?_
      rotate_left
      · intro wq hq
        have hc := hq.src.cPn HR.out
        first | (go_simp; done) | (go_simp; rfl)
      try simp only [Act.put, zP, zQ, zR]
      refine wpAnyH_take (i := 3) (oi := ⟨some 22, _, _, _, _, _⟩) (v := ?_) rfl (by kernel_rfl) (by kernel_rfl) (by kernel_rfl) (fun _ _ _ h => h) (Or.inl ⟨by rfl, ?_⟩) hS ?_
      rotate_left
      · intro wq hq
        first | (go_simp; done) | (go_simp; rfl)
      try simp only [Act.put, zP, zQ, zR]
      refine wpAnyH_take (i := 5) (oi := ⟨some 24, _, _, _, _, _⟩) (v := ?_) rfl (by kernel_rfl) (by kernel_rfl) (by kernel_rfl) (fun _ _ _ h => h) (Or.inl ⟨by rfl, ?_⟩) hS ?_
      rotate_left
      · intro wq hq
        first | (go_simp; done) | (go_simp; rfl)
      try simp only [Act.put, zP, zQ, zR]
      refine wpAnyH_take (i := 6) (oi := ⟨some 25, _, _, _, _, _⟩) (v := ?_) rfl (by kernel_rfl) (by kernel_rfl) (by kernel_rfl) (fun _ _ _ h => h) (Or.inl ⟨by rfl, ?_⟩) hS ?_
      rotate_left
      · intro wq hq
        first | (go_simp; done) | (go_simp; rfl)
      try simp only [Act.put, zP, zQ, zR]
      refine wpAnyH_take (i := 7) (oi := ⟨some 26, _, _, _, _, _⟩) rfl (by kernel_rfl) (by kernel_rfl) (by kernel_rfl) (fun _ _ _ h => h) (yieldsIf_load_mid (by rfl) 27 _ rfl _ _ rfl (ipc r.v6 r.pl) _ (fun wq hq => hq.src.rIp HR.out) Tryz.underlying27 rfl (sz_ip HR.out)) hS ?_
      try simp only [Act.put, zP, zQ, zR]
      refine wpAnyH_ready (rs := [4, 8]) (by kernel_rfl) (by simp) ?_
      refine AllReadyH.cons (o := ⟨some 23, _, _, _, _, _⟩) rfl (fun K hK => ?_) (AllReadyH.cons (o := ⟨some 27, _, _, _, _, _⟩) rfl (fun K hK => ?_) AllReadyH.nil)
      · rw [if_pos (by rfl)]
        go_wp2
        have h7 := byt1_rd wc.drew (r.pn % 256) (Int.emod_nonneg _ (by decide)) (Int.emod_lt_of_pos _ (by decide))
        have hS2 := hS.below (below_one wc.drew (.cells #[.int .u8 (r.pn % 256)] 5))
        refine hK.out _ _ (hS2) (fun hS => ?_)
        clear hK K
        try simp only [Act.put, zP, zQ, zR]
        refine wpAnyH_ready (rs := [8]) (by kernel_rfl) (by simp) ?_
        refine AllReadyH.cons (o := ⟨some 27, _, _, _, _, _⟩) rfl (fun K hK => ?_) AllReadyH.nil
        rw [if_pos (by rfl)]
        go_wp2_with fail
        refine (HAd.out _).mono ?_
        rintro e w3 ⟨A8, rfl, hr8, hB8⟩
        have hS3 := hS.below hB8
        refine hK.out _ _ (hS3) (fun hS => ?_)
        clear hK K
        try simp only [Act.put, zP, zQ, zR]
        refine wpAnyH_take (i := 9) (oi := ⟨some 7, _, _, _, _, _⟩) (v := ?_) rfl (by kernel_rfl) (by kernel_rfl) (by kernel_rfl) (fun _ _ _ h => h) (Or.inl ⟨by rfl, ?_⟩) hS ?_
        rotate_left
        · intro wq hq
          first | (go_simp; done) | (go_simp; rfl)
        try simp only [Act.put, zP, zQ, zR]
        refine wpAnyH_take (i := 10) (oi := ⟨some 8, _, _, _, _, _⟩) (v := ?_) rfl (by kernel_rfl) (by kernel_rfl) (by kernel_rfl) (fun _ _ _ h => h) (Or.inl ⟨by rfl, ?_⟩) hS ?_
        rotate_left
        · intro wq hq
          first | (go_simp; done) | (go_simp; rfl)
        try simp only [Act.put, zP, zQ, zR]
        refine wpAnyH_done (by kernel_rfl) ?_ _
        go_wp2_with fail
        go_meet
        exact ⟨_, _, A8, rfl, rfl, hS3, (h7.below hB8).more hB8.size, hr8⟩
      · rw [if_pos (by rfl)]
        go_wp2_with fail
        refine (HAd.out _).mono ?_
        rintro e w2 ⟨A8, rfl, hr8, hB8⟩
        have hS2 := hS.below hB8
        refine hK.out _ _ (hS2) (fun hS => ?_)
        clear hK K
        try simp only [Act.put, zP, zQ, zR]
        refine wpAnyH_ready (rs := [4]) (by kernel_rfl) (by simp) ?_
        refine AllReadyH.cons (o := ⟨some 23, _, _, _, _, _⟩) rfl (fun K hK => ?_) AllReadyH.nil
        rw [if_pos (by rfl)]
        go_wp2
        have h7 := byt1_rd w2 (r.pn % 256) (Int.emod_nonneg _ (by decide)) (Int.emod_lt_of_pos _ (by decide))
        have hb1 := below_one w2 (.cells #[.int .u8 (r.pn % 256)] 5)
        have hS3 := hS.below hb1
        refine hK.out _ _ (hS3) (fun hS => ?_)
        clear hK K
        try simp only [Act.put, zP, zQ, zR]
        refine wpAnyH_take (i := 9) (oi := ⟨some 7, _, _, _, _, _⟩) (v := ?_) rfl (by kernel_rfl) (by kernel_rfl) (by kernel_rfl) (fun _ _ _ h => h) (Or.inl ⟨by rfl, ?_⟩) hS ?_
        rotate_left
        · intro wq hq
          first | (go_simp; done) | (go_simp; rfl)
        try simp only [Act.put, zP, zQ, zR]
        refine wpAnyH_take (i := 10) (oi := ⟨some 8, _, _, _, _, _⟩) (v := ?_) rfl (by kernel_rfl) (by kernel_rfl) (by kernel_rfl) (fun _ _ _ h => h) (Or.inl ⟨by rfl, ?_⟩) hS ?_
        rotate_left
        · intro wq hq
          first | (go_simp; done) | (go_simp; rfl)
        try simp only [Act.put, zP, zQ, zR]
        refine wpAnyH_done (by kernel_rfl) ?_ _
        go_wp2_with fail
        go_meet
        exact ⟨_, _, A8, rfl, rfl, hS3, h7, (hr8.below hb1).more hb1.size⟩
    case rest =>
      obtain ⟨A7, c7, A8, rfl, rfl, hB⟩ := hcut
      have cK := hB.src.cK
      have HBd := Lib.hid hB
      clear hB
      go_wp2_with (first | (refine part_fetch rfl 27 _ rfl w.heap.size 44 (ipc r.gv r.gl) _ rfl (HBd.out.src.rGw HR.out) Tryz.underlying27 rfl (sz_gw HR.out) ?_) | fail)
      refine (HAg.out _).mono ?_
      rintro e w8 ⟨A9, rfl, hr9, hB9⟩
      have HBd := Lib.hid (HBd.out.below hB9)
      have HG9 := Lib.hid hr9
      clear hr9 hB9
      have HL : Hid (RdL (w8.alloc (.cells (([(some ⟨w.heap.size, 1, none⟩, 8, 8), (some ⟨w.heap.size, 9, none⟩, 10, 10), (A5, 4, c5), (A7, 1, c7), (A8, nb r.v6, 16), (A9, nb r.gv, 16), (A6, 3, c6)] : List (Option Addr × Nat × Nat)).map fun v => Value.slice v.1 v.2.1 v.2.2).toArray 38)) (w8.alloc (.cells (([(some ⟨w.heap.size, 1, none⟩, 8, 8), (some ⟨w.heap.size, 9, none⟩, 10, 10), (A5, 4, c5), (A7, 1, c7), (A8, nb r.v6, 16), (A9, nb r.gv, 16), (A6, 3, c6)] : List (Option Addr × Nat × Nat)).map fun v => Value.slice v.1 v.2.1 v.2.2).toArray 38)).heap.size (some ⟨w8.heap.size, 0, none⟩) 7 [r.rd, r.es, be 4 r.tg, [r.pn % 256], r.pl.take (nb r.v6), r.gl.take (nb r.gv), be 3 r.lb]) := Lib.hid (rdl_new (W := w8) (vs := [(some ⟨w.heap.size, 1, none⟩, 8, 8), (some ⟨w.heap.size, 9, none⟩, 10, 10), (A5, 4, c5), (A7, 1, c7), (A8, nb r.v6, 16), (A9, nb r.gv, 16), (A6, 3, c6)]) (ls := [r.rd, r.es, be 4 r.tg, [r.pn % 256], r.pl.take (nb r.v6), r.gl.take (nb r.gv), be 3 r.lb]) ⟨HBd.out.src.sRd HR.out HBd.out.src.lt, HBd.out.src.sEs HR.out HBd.out.src.lt, HBd.out.r5, HBd.out.r7, HBd.out.r8, HG9.out, HBd.out.r6, trivial⟩ 38 _ rfl)
      have HLow := Lib.hid HBd.out.low
      clear HBd
      go_wp2_with fail
      refine (concat_is _ _ 7 7 _ HL.out (by omega) (by rw [HF.out]; exact HLen.out)).mono ?_
      rintro e w9 ⟨v, rfl, hO, hB9⟩
      have HEnd := Lib.hid (show OwnB w.heap.size w9 v (bodyR r) ∧ Below w.heap.size w w9 from ⟨by rw [← HF.out]; exact hO.low (by have := HLow.out.size; simp; omega), (HLow.out.trans ((below_one w8 _).mono HLow.out.size)).trans (hB9.mono (by have := HLow.out.size; simp; omega))⟩)
      clear hO hB9
      go_wp2
      go_ret
      exact ⟨v, rfl, HEnd.out.1, HEnd.out.2⟩

end Go.Proofs.YtdgoeibfggjbmaaGreatDoor
namespace Go.Proofs.YtdgoeibfggjbmaaGreatDoor
open Go.RowKit
set_option maxRecDepth 100000
set_option linter.unusedSimpArgs false
set_option linter.unusedVariables false

theorem rdl_new_at {W : World} {vs : List (Option Addr × Nat × Nat)} {ls : List (List Int)} (h : RdAll W W.heap.size vs ls) (t : TypeId) (cs : Array Value) (hcs : cs = (vs.map fun v => Value.slice v.1 v.2.1 v.2.2).toArray) (H : Nat) (hH : W.heap.size = H) :
    RdL (W.alloc (.cells cs t)) (W.alloc (.cells cs t)).heap.size (some ⟨H, 0, none⟩) ls.length ls := by
  subst hH
  exact rdl_new h t cs hcs
theorem nb_le16 (v : Bool) : nb v ≤ 16 := by cases v <;> simp [nb]

set_option maxHeartbeats 4000000 in
set_option maxRecDepth 100000 in
theorem body_2_0 (w : World) (r : Rt) (hr : RtOk r) (hf : RightF r) (hk : r.k = 2) (hpn : r.pn = 0) (hnb : 0 ≤ nb r.v6) : Calls Tryz.prog 196 #[.agg (rtc r).toArray] w fun e w' => ∃ v, e = .returned v ∧ OwnB w.heap.size w' v (bodyR r) ∧ Below w.heap.size w w' := by
  have HR := Lib.hid hr
  have H1 := Lib.hid ((RtAt.new w r hr 53).keep (w' := (w.alloc (.cells (rtc r).toArray 53)).drew) rfl)
  have HB1 := Lib.hid (below_drewN ((Below.refl w.heap.size w).alloc (Nat.le_refl _) (.cells (rtc r).toArray 53)) 1)
  have HN4 : Hid (∀ W, Calls Tryz.prog 220 #[.int .u32 r.tg, .int .i64 4] W fun e W' => ∃ A c, e = .returned (.slice A 4 c) ∧ Rd W' W'.heap.size A 4 (be 4 r.tg) ∧ Below W.heap.size W W') := Lib.hid (fun W => (numb_is W r.tg 4 hr.tg (by omega) (by omega) (be4_fit hr.tg)).mono (by
    rintro e W' ⟨A, c, rfl, _, h2, h3⟩
    exact ⟨A, c, rfl, h2, h3⟩))
  have HN3 : Hid (∀ W, Calls Tryz.prog 220 #[.int .u32 r.lb, .int .i64 3] W fun e W' => ∃ A c, e = .returned (.slice A 3 c) ∧ Rd W' W'.heap.size A 3 (be 3 r.lb) ∧ Below W.heap.size W W') := Lib.hid (fun W => (numb_is W r.lb 3 hr.lb (by omega) (by omega) (by have := hf.lb.2; omega)).mono (by
    rintro e W' ⟨A, c, rfl, _, h2, h3⟩
    exact ⟨A, c, rfl, h2, h3⟩))
  have HAd : Hid (∀ W, Calls Tryz.prog 221 #[.agg (ipc r.v6 r.pl).toArray] W fun e W' => ∃ A, e = .returned (.slice A (nb r.v6) 16) ∧ Rd W' W'.heap.size A (nb r.v6) (r.pl.take (nb r.v6)) ∧ Below W.heap.size W W') := Lib.hid (fun W => addr_at W r.v6 r.pl hr.pl hr.opl)
  have hs8 : ∀ W, (Instr.sliceAt 45 (.pointer (some ⟨w.heap.size, 1, none⟩)) none none none).run Tryz.prog W = .ok (.slice (some ⟨w.heap.size, 1, none⟩) 8 8) W := fun W => by go_simp
  have hs10 : ∀ W, (Instr.sliceAt 47 (.pointer (some ⟨w.heap.size, 9, none⟩)) none none none).run Tryz.prog W = .ok (.slice (some ⟨w.heap.size, 9, none⟩) 10 10) W := fun W => by go_simp
  have HSc : Hid (∀ W, Calls Tryz.prog 222 #[.int .u32 r.l2] W (Bts W (sec r.l2))) := Lib.hid (fun W => second_is W r.l2 hf.l2)
  have hs6 : ∀ W, (Instr.sliceAt 49 (.pointer (some ⟨w.heap.size, 20, none⟩)) none none none).run Tryz.prog W = .ok (.slice (some ⟨w.heap.size, 20, none⟩) 6 6) W := fun W => by go_simp
  have HCut : Hid (∀ W A, Rd W W.heap.size A (nb r.v6) (r.pl.take (nb r.v6)) → Rd W W.heap.size A 0 (r.pl.take 0)) := Lib.hid (fun W A h => by
    have hle : 0 ≤ nb r.v6 := by have := hnb; omega
    have hh := h.cut (c := 16) (k := 0) (m := 0) (by omega) (nb_le16 r.v6)
    simp only [List.drop_zero, List.take_take, Nat.min_eq_left hle] at hh
    have e : (if 16 = 0 then A else A.map (fun x => x.add 0)) = A := by
      rw [if_neg (by omega)]
      cases A with
      | none => rfl
      | some a => simp [Addr.add]
    rwa [e] at hh)
  have HF : Hid (([r.rd, r.es, be 4 r.tg, [48], r.mc, [r.pn % 256], r.pl.take 0, be 3 r.lb, sec r.l2] : List (List Int)).flatten = bodyR r) := Lib.hid (by unfold bodyR; rw [if_neg (by omega)]; rw [if_pos hk]; rw [show (r.pn / 8).toNat = 0 by rw [hpn]; rfl]; simp)
  have HLen : Hid ((bodyR r).length ≤ 140737488355328) := Lib.hid (by rw [← HF.out]; simp [be_len, hr.rd, hr.es, hr.pl, hr.mc]; unfold sec; split <;> simp [be_len] <;> omega)
  have e1 : (r.k == 1) = false := by rw [beq_eq_false_iff_ne]; omega
  have e2 : (r.k == 2) = true := by rw [beq_iff_eq]; omega
  have HPN := Lib.hid hpn
  clear hk hpn hnb
  clear hr hf
  go_enter Tryz.func196, Tryz.ntmps196
  go_wp2
  refine wp_region_held_drew (S := fun W => RtAt W w.heap.size r) (by kernel_rfl) (H1.out) (fun hS => ?_)
  refine wpAnyH_take (i := 0) (oi := ⟨some 9, _, _, _, _, _⟩) (v := ?_) rfl (by kernel_rfl) (by kernel_rfl) (by kernel_rfl) (fun _ _ _ h => h) (Or.inl ⟨by rfl, ?_⟩) hS ?_
  rotate_left
  · intro wq hq
    first | (go_simp; done) | (go_simp; rfl)
  try simp only [Act.put, zP, zQ, zR]
  refine wpAnyH_take (i := 1) (oi := ⟨some 10, _, _, _, _, _⟩) (v := ?_) rfl (by kernel_rfl) (by kernel_rfl) (by kernel_rfl) (fun _ _ _ h => h) (Or.inl ⟨by rfl, ?_⟩) hS ?_
  rotate_left
  · intro wq hq
    first | (go_simp; done) | (go_simp; rfl)
  try simp only [Act.put, zP, zQ, zR]
  refine wpAnyH_take (i := 2) (oi := ⟨some 11, _, _, _, _, _⟩) (v := ?_) rfl (by kernel_rfl) (by kernel_rfl) (by kernel_rfl) (fun _ _ _ h => h) (Or.inl ⟨by rfl, ?_⟩) hS ?_
  rotate_left
  · intro wq hq
    first | (go_simp; done) | (go_simp; rfl)
  try simp only [Act.put, zP, zQ, zR]
  refine wpAnyH_take (i := 3) (oi := ⟨some 12, _, _, _, _, _⟩) (v := ?_) rfl (by kernel_rfl) (by kernel_rfl) (by kernel_rfl) (fun _ _ _ h => h) (Or.inl ⟨by rfl, ?_⟩) hS ?_
  rotate_left
  · intro wq hq
    first | (go_simp; done) | (go_simp; rfl)
  try simp only [Act.put, zP, zQ, zR]
  refine wpAnyH_take (i := 4) (oi := ⟨some 3, _, _, _, _, _⟩) (v := ?_) rfl (by kernel_rfl) (by kernel_rfl) (by kernel_rfl) (fun _ _ _ h => h) (Or.inl ⟨by rfl, ?_⟩) hS ?_
  rotate_left
  · intro wq hq
    first | (go_simp; done) | (go_simp; rfl)
  try simp only [Act.put, zP, zQ, zR]
  refine wpAnyH_take (i := 5) (oi := ⟨some 4, _, _, _, _, _⟩) (v := ?_) rfl (by kernel_rfl) (by kernel_rfl) (by kernel_rfl) (fun _ _ _ h => h) (Or.inl ⟨by rfl, ?_⟩) hS ?_
  rotate_left
  · intro wq hq
    first | (go_simp; done) | (go_simp; rfl)
  try simp only [Act.put, zP, zQ, zR]
  refine wpAnyH_done (by kernel_rfl) ?_ _
  clear hS hs8 hs10
  go_wp2_with fail
  have HW1 := Lib.hid (show RtAt ((w.alloc (.cells (rtc r).toArray 53)).drew) w.heap.size r ∧ Below w.heap.size w ((w.alloc (.cells (rtc r).toArray 53)).drew) from ⟨H1.out, HB1.out⟩)
  clear H1 HB1
  generalize (w.alloc (.cells (rtc r).toArray 53)).drew = W1 at *
  go_cut [5, 6] (fun s5 s6 wx => CutA w r s5 s6 wx)
  case first =>
    refine wp_region_held_drew (S := fun W => RtAt W w.heap.size r ∧ Below w.heap.size w W) (by kernel_rfl) (⟨HW1.out.1.keep rfl, below_drewN HW1.out.2 1⟩) (fun hS => ?_)
    refine wpAnyH_take (i := 0) (oi := ⟨some 13, _, _, _, _, _⟩) (v := ?_) rfl (by kernel_rfl) (by kernel_rfl) (by kernel_rfl) (fun _ _ _ h => h) (Or.inl ⟨by rfl, ?_⟩) hS ?_
    rotate_left
    · intro wq hq
      first | (go_simp; done) | (go_simp; rfl)
    try simp only [Act.put, zP, zQ, zR]
    refine wpAnyH_take (i := 1) (oi := ⟨some 14, _, _, _, _, _⟩) (v := ?_) rfl (by kernel_rfl) (by kernel_rfl) (by kernel_rfl) (fun _ _ _ h => h) (Or.inl ⟨by rfl, ?_⟩) hS ?_
    rotate_left
    · intro wq hq
      have hc := hq.1.cTg HR.out
      first | (go_simp; done) | (go_simp; rfl)
    try simp only [Act.put, zP, zQ, zR]
    refine wpAnyH_take (i := 3) (oi := ⟨some 16, _, _, _, _, _⟩) (v := ?_) rfl (by kernel_rfl) (by kernel_rfl) (by kernel_rfl) (fun _ _ _ h => h) (Or.inl ⟨by rfl, ?_⟩) hS ?_
    rotate_left
    · intro wq hq
      first | (go_simp; done) | (go_simp; rfl)
    try simp only [Act.put, zP, zQ, zR]
    refine wpAnyH_take (i := 4) (oi := ⟨some 17, _, _, _, _, _⟩) (v := ?_) rfl (by kernel_rfl) (by kernel_rfl) (by kernel_rfl) (fun _ _ _ h => h) (Or.inl ⟨by rfl, ?_⟩) hS ?_
    rotate_left
    · intro wq hq
      have hc := hq.1.cLb HR.out
      first | (go_simp; done) | (go_simp; rfl)
    try simp only [Act.put, zP, zQ, zR]
    refine wpAnyH_ready (rs := [2]) (by kernel_rfl) (by simp) ?_
    refine AllReadyH.cons (o := ⟨some 15, _, _, _, _, _⟩) rfl (fun K hK => ?_) AllReadyH.nil
    rw [if_pos (by rfl)]
    go_wp2_with fail
    refine (HN4.out _).mono ?_
    rintro e w2 ⟨A5, c5, rfl, hr5, hB5⟩
    have hS2 : RtAt w2 w.heap.size r ∧ Below w.heap.size w w2 := ⟨hS.1.below hB5 hS.1.lt, hS.2.trans (hB5.mono hS.2.size)⟩
    refine hK.out _ _ (hS2) (fun hS => ?_)
    clear hK K
    try simp only [Act.put, zP, zQ, zR]
    refine wpAnyH_ready (rs := [5]) (by kernel_rfl) (by simp) ?_
    refine AllReadyH.cons (o := ⟨some 18, _, _, _, _, _⟩) rfl (fun K hK => ?_) AllReadyH.nil
    rw [if_pos (by rfl)]
    go_wp2_with fail
    refine (HN3.out _).mono ?_
    rintro e w3 ⟨A6, c6, rfl, hr6, hB6⟩
    have hS3 : RtAt w3 w.heap.size r ∧ Below w.heap.size w w3 := ⟨hS.1.below hB6 hS.1.lt, hS.2.trans (hB6.mono hS.2.size)⟩
    refine hK.out _ _ (hS3) (fun hS => ?_)
    clear hK K
    try simp only [Act.put, zP, zQ, zR]
    refine wpAnyH_take (i := 6) (oi := ⟨some 5, _, _, _, _, _⟩) (v := ?_) rfl (by kernel_rfl) (by kernel_rfl) (by kernel_rfl) (fun _ _ _ h => h) (Or.inl ⟨by rfl, ?_⟩) hS ?_
    rotate_left
    · intro wq hq
      first | (go_simp; done) | (go_simp; rfl)
    try simp only [Act.put, zP, zQ, zR]
    refine wpAnyH_take (i := 7) (oi := ⟨some 6, _, _, _, _, _⟩) (v := ?_) rfl (by kernel_rfl) (by kernel_rfl) (by kernel_rfl) (fun _ _ _ h => h) (Or.inl ⟨by rfl, ?_⟩) hS ?_
    rotate_left
    · intro wq hq
      first | (go_simp; done) | (go_simp; rfl)
    try simp only [Act.put, zP, zQ, zR]
    refine wpAnyH_done (by kernel_rfl) ?_ _
    go_wp2_with fail
    go_meet
    exact ⟨A5, c5, A6, c6, rfl, rfl, hS3.1, hS3.2, (hr5.below hB6).more hB6.size, hr6⟩
  case rest =>
    obtain ⟨A5, c5, A6, c6, rfl, rfl, hA⟩ := hcut
    have HA := Lib.hid (show BdA w wc.drew r A5 A6 from hA.below (below_drew wc))
    clear hA
    go_wp2_with fail
    go_cut [7, 8] (fun s7 s8 wx => CutB w r A5 A6 s7 s8 wx)
    case first =>
      refine wp_region_held_drew (S := fun W => BdA w W r A5 A6) (by kernel_rfl) (HA.out) (fun hS => ?_)
      refine wpAnyH_take (i := 0) (oi := ⟨some 19, _, _, _, _, _⟩) (v := ?_) rfl (by kernel_rfl) (by kernel_rfl) (by kernel_rfl) (fun _ _ _ h => h) (Or.inl ⟨by rfl, ?_⟩) hS ?_
      rotate_left
      · intro wq hq
        first | (go_simp; done) | (go_simp; rfl)
      try simp only [Act.put, zP, zQ, zR]
      refine wpAnyH_take (i := 1) (oi := ⟨some 20, _, _, _, _, _⟩) (v := ?_) rfl (by kernel_rfl) (by kernel_rfl) (by kernel_rfl) (fun _ _ _ h => h) (Or.inl ⟨by rfl, ?_⟩) hS ?_
      rotate_left
      · intro wq hq
        first | (go_simp; done) | (go_simp; rfl)
      try simp only [Act.put, zP, zQ, zR]
      refine wpAnyH_take (i := 2) (oi := ⟨some 21, _, _, _, _, _⟩) (v := ?_) rfl (by kernel_rfl) (by kernel_rfl) (by kernel_rfl) (fun _ _ _ h => h) (Or.inl ⟨by rfl, ?_⟩) hS ?_
      rotate_left
      · intro wq hq
        have hc := hq.src.cPn HR.out
        first | (go_simp; done) | (go_simp; rfl)
      try simp only [Act.put, zP, zQ, zR]
      refine wpAnyH_take (i := 3) (oi := ⟨some 22, _, _, _, _, _⟩) (v := ?_) rfl (by kernel_rfl) (by kernel_rfl) (by kernel_rfl) (fun _ _ _ h => h) (Or.inl ⟨by rfl, ?_⟩) hS ?_
      rotate_left
      · intro wq hq
        first | (go_simp; done) | (go_simp; rfl)
      try simp only [Act.put, zP, zQ, zR]
      refine wpAnyH_take (i := 5) (oi := ⟨some 24, _, _, _, _, _⟩) (v := ?_) rfl (by kernel_rfl) (by kernel_rfl) (by kernel_rfl) (fun _ _ _ h => h) (Or.inl ⟨by rfl, ?_⟩) hS ?_
      rotate_left
      · intro wq hq
        first | (go_simp; done) | (go_simp; rfl)
      try simp only [Act.put, zP, zQ, zR]
      refine wpAnyH_take (i := 6) (oi := ⟨some 25, _, _, _, _, _⟩) (v := ?_) rfl (by kernel_rfl) (by kernel_rfl) (by kernel_rfl) (fun _ _ _ h => h) (Or.inl ⟨by rfl, ?_⟩) hS ?_
      rotate_left
      · intro wq hq
        first | (go_simp; done) | (go_simp; rfl)
      try simp only [Act.put, zP, zQ, zR]
      refine wpAnyH_take (i := 7) (oi := ⟨some 26, _, _, _, _, _⟩) rfl (by kernel_rfl) (by kernel_rfl) (by kernel_rfl) (fun _ _ _ h => h) (yieldsIf_load_mid (by rfl) 27 _ rfl _ _ rfl (ipc r.v6 r.pl) _ (fun wq hq => hq.src.rIp HR.out) Tryz.underlying27 rfl (sz_ip HR.out)) hS ?_
      try simp only [Act.put, zP, zQ, zR]
      refine wpAnyH_ready (rs := [4, 8]) (by kernel_rfl) (by simp) ?_
      refine AllReadyH.cons (o := ⟨some 23, _, _, _, _, _⟩) rfl (fun K hK => ?_) (AllReadyH.cons (o := ⟨some 27, _, _, _, _, _⟩) rfl (fun K hK => ?_) AllReadyH.nil)
      · rw [if_pos (by rfl)]
        go_wp2
        have h7 := byt1_rd wc.drew (r.pn % 256) (Int.emod_nonneg _ (by decide)) (Int.emod_lt_of_pos _ (by decide))
        have hS2 := hS.below (below_one wc.drew (.cells #[.int .u8 (r.pn % 256)] 5))
        refine hK.out _ _ (hS2) (fun hS => ?_)
        clear hK K
        try simp only [Act.put, zP, zQ, zR]
        refine wpAnyH_ready (rs := [8]) (by kernel_rfl) (by simp) ?_
        refine AllReadyH.cons (o := ⟨some 27, _, _, _, _, _⟩) rfl (fun K hK => ?_) AllReadyH.nil
        rw [if_pos (by rfl)]
        go_wp2_with fail
        refine (HAd.out _).mono ?_
        rintro e w3 ⟨A8, rfl, hr8, hB8⟩
        have hS3 := hS.below hB8
        refine hK.out _ _ (hS3) (fun hS => ?_)
        clear hK K
        try simp only [Act.put, zP, zQ, zR]
        refine wpAnyH_take (i := 9) (oi := ⟨some 7, _, _, _, _, _⟩) (v := ?_) rfl (by kernel_rfl) (by kernel_rfl) (by kernel_rfl) (fun _ _ _ h => h) (Or.inl ⟨by rfl, ?_⟩) hS ?_
        rotate_left
        · intro wq hq
          first | (go_simp; done) | (go_simp; rfl)
        try simp only [Act.put, zP, zQ, zR]
        refine wpAnyH_take (i := 10) (oi := ⟨some 8, _, _, _, _, _⟩) (v := ?_) rfl (by kernel_rfl) (by kernel_rfl) (by kernel_rfl) (fun _ _ _ h => h) (Or.inl ⟨by rfl, ?_⟩) hS ?_
        rotate_left
        · intro wq hq
          first | (go_simp; done) | (go_simp; rfl)
        try simp only [Act.put, zP, zQ, zR]
        refine wpAnyH_done (by kernel_rfl) ?_ _
        go_wp2_with fail
        go_meet
        exact ⟨_, _, A8, rfl, rfl, hS3, (h7.below hB8).more hB8.size, hr8⟩
      · rw [if_pos (by rfl)]
        go_wp2_with fail
        refine (HAd.out _).mono ?_
        rintro e w2 ⟨A8, rfl, hr8, hB8⟩
        have hS2 := hS.below hB8
        refine hK.out _ _ (hS2) (fun hS => ?_)
        clear hK K
        try simp only [Act.put, zP, zQ, zR]
        refine wpAnyH_ready (rs := [4]) (by kernel_rfl) (by simp) ?_
        refine AllReadyH.cons (o := ⟨some 23, _, _, _, _, _⟩) rfl (fun K hK => ?_) AllReadyH.nil
        rw [if_pos (by rfl)]
        go_wp2
        have h7 := byt1_rd w2 (r.pn % 256) (Int.emod_nonneg _ (by decide)) (Int.emod_lt_of_pos _ (by decide))
        have hb1 := below_one w2 (.cells #[.int .u8 (r.pn % 256)] 5)
        have hS3 := hS.below hb1
        refine hK.out _ _ (hS3) (fun hS => ?_)
        clear hK K
        try simp only [Act.put, zP, zQ, zR]
        refine wpAnyH_take (i := 9) (oi := ⟨some 7, _, _, _, _, _⟩) (v := ?_) rfl (by kernel_rfl) (by kernel_rfl) (by kernel_rfl) (fun _ _ _ h => h) (Or.inl ⟨by rfl, ?_⟩) hS ?_
        rotate_left
        · intro wq hq
          first | (go_simp; done) | (go_simp; rfl)
        try simp only [Act.put, zP, zQ, zR]
        refine wpAnyH_take (i := 10) (oi := ⟨some 8, _, _, _, _, _⟩) (v := ?_) rfl (by kernel_rfl) (by kernel_rfl) (by kernel_rfl) (fun _ _ _ h => h) (Or.inl ⟨by rfl, ?_⟩) hS ?_
        rotate_left
        · intro wq hq
          first | (go_simp; done) | (go_simp; rfl)
        try simp only [Act.put, zP, zQ, zR]
        refine wpAnyH_done (by kernel_rfl) ?_ _
        go_wp2_with fail
        go_meet
        exact ⟨_, _, A8, rfl, rfl, hS3, h7, (hr8.below hb1).more hb1.size⟩
    case rest =>
      obtain ⟨A7, c7, A8, rfl, rfl, hB⟩ := hcut
      have cK := hB.src.cK
      have HBd := Lib.hid hB
      clear hB
      go_wp2_with fail
      refine wp_region_held_drew (S := fun W => BdB w W r A5 A6 A7 A8) (by kernel_rfl) (HBd.out.below (below_drew wc)) (fun hS => ?_)
      refine wpAnyH_take (i := 0) (oi := ⟨some 40, _, _, _, _, _⟩) (v := ?_) rfl (by kernel_rfl) (by kernel_rfl) (by kernel_rfl) (fun _ _ _ h => h) (Or.inl ⟨by rfl, ?_⟩) hS ?_
      rotate_left
      · intro wq hq
        first | (go_simp; done) | (go_simp; rfl)
      try simp only [Act.put, zP, zQ, zR]
      refine wpAnyH_take (i := 1) (oi := ⟨some 41, _, _, _, _, _⟩) (v := ?_) rfl (by kernel_rfl) (by kernel_rfl) (by kernel_rfl) (fun _ _ _ h => h) (Or.inl ⟨by rfl, ?_⟩) hS ?_
      rotate_left
      · intro wq hq
        first | (go_simp; done) | (go_simp; rfl)
      try simp only [Act.put, zP, zQ, zR]
      refine wpAnyH_take (i := 2) (oi := ⟨some 42, _, _, _, _, _⟩) (v := ?_) rfl (by kernel_rfl) (by kernel_rfl) (by kernel_rfl) (fun _ _ _ h => h) (Or.inl ⟨by rfl, ?_⟩) hS ?_
      rotate_left
      · intro wq hq
        first | (go_simp; done) | (go_simp; rfl)
      try simp only [Act.put, zP, zQ, zR]
      refine wpAnyH_take (i := 4) (oi := ⟨some 44, _, _, _, _, _⟩) (v := ?_) rfl (by kernel_rfl) (by kernel_rfl) (by kernel_rfl) (fun _ _ _ h => h) (Or.inl ⟨by rfl, ?_⟩) hS ?_
      rotate_left
      · intro wq hq
        first | (go_simp; done) | (go_simp; rfl)
      try simp only [Act.put, zP, zQ, zR]
      refine wpAnyH_take (i := 5) (oi := ⟨some 45, _, _, _, _, _⟩) (v := ?_) rfl (by kernel_rfl) (by kernel_rfl) (by kernel_rfl) (fun _ _ _ h => h) (Or.inl ⟨by rfl, ?_⟩) hS ?_
      rotate_left
      · intro wq hq
        first | (go_simp; done) | (go_simp; rfl)
      try simp only [Act.put, zP, zQ, zR]
      refine wpAnyH_take (i := 6) (oi := ⟨some 46, _, _, _, _, _⟩) (v := ?_) rfl (by kernel_rfl) (by kernel_rfl) (by kernel_rfl) (fun _ _ _ h => h) (Or.inl ⟨by rfl, ?_⟩) hS ?_
      rotate_left
      · intro wq hq
        first | (go_simp; done) | (go_simp; rfl)
      try simp only [Act.put, zP, zQ, zR]
      refine wpAnyH_take (i := 7) (oi := ⟨some 47, _, _, _, _, _⟩) (v := ?_) rfl (by kernel_rfl) (by kernel_rfl) (by kernel_rfl) (fun _ _ _ h => h) (Or.inl ⟨by rfl, ?_⟩) hS ?_
      rotate_left
      · intro wq hq
        first | (go_simp; done) | (go_simp; rfl)
      try simp only [Act.put, zP, zQ, zR]
      refine wpAnyH_take (i := 8) (oi := ⟨some 48, _, _, _, _, _⟩) (v := ?_) rfl (by kernel_rfl) (by kernel_rfl) (by kernel_rfl) (fun _ _ _ h => h) (Or.inl ⟨by rfl, ?_⟩) hS ?_
      rotate_left
      · intro wq hq
        first | (go_simp; done) | (go_simp; rfl)
      try simp only [Act.put, zP, zQ, zR]
      refine wpAnyH_take (i := 9) (oi := ⟨some 49, _, _, _, _, _⟩) (v := ?_) rfl (by kernel_rfl) (by kernel_rfl) (by kernel_rfl) (fun _ _ _ h => h) (Or.inl ⟨by rfl, ?_⟩) hS ?_
      rotate_left
      · intro wq hq
        first | (go_simp; done) | (go_simp; rfl)
      try simp only [Act.put, zP, zQ, zR]
      refine wpAnyH_take (i := 10) (oi := ⟨some 50, _, _, _, _, _⟩) (v := ?_) rfl (by kernel_rfl) (by kernel_rfl) (by kernel_rfl) (fun _ _ _ h => h) (Or.inl ⟨by rfl, ?_⟩) hS ?_
      rotate_left
      · intro wq hq
        have hc := hq.src.cPn HR.out; rw [HPN.out] at hc
        first | (go_simp; done) | (go_simp; rfl)
      try simp only [Act.put, zP, zQ, zR]
      refine wpAnyH_take (i := 11) (oi := ⟨some 51, _, _, _, _, _⟩) (v := ?_) rfl (by kernel_rfl) (by kernel_rfl) (by kernel_rfl) (fun _ _ _ h => h) (Or.inl ⟨by rfl, ?_⟩) hS ?_
      rotate_left
      · intro wq hq
        first | (go_simp; done) | (go_simp; rfl)
      try simp only [Act.put, zP, zQ, zR]
      refine wpAnyH_take (i := 12) (oi := ⟨some 52, _, _, _, _, _⟩) (v := ?_) rfl (by kernel_rfl) (by kernel_rfl) (by kernel_rfl) (fun _ _ _ h => h) (Or.inl ⟨by rfl, ?_⟩) hS ?_
      rotate_left
      · intro wq hq
        first | (go_simp; done) | (go_simp; rfl)
      try simp only [Act.put, zP, zQ, zR]
      refine wpAnyH_take (i := 13) (oi := ⟨some 53, _, _, _, _, _⟩) (v := ?_) rfl (by kernel_rfl) (by kernel_rfl) (by kernel_rfl) (fun _ _ _ h => h) (Or.inl ⟨by rfl, ?_⟩) hS ?_
      rotate_left
      · intro wq hq
        first | (go_simp; done) | (go_simp; rfl)
      try simp only [Act.put, zP, zQ, zR]
      refine wpAnyH_take (i := 14) (oi := ⟨some 54, _, _, _, _, _⟩) (v := ?_) rfl (by kernel_rfl) (by kernel_rfl) (by kernel_rfl) (fun _ _ _ h => h) (Or.inl ⟨by rfl, ?_⟩) hS ?_
      rotate_left
      · intro wq hq
        first | (go_simp; done) | (go_simp; rfl)
      try simp only [Act.put, zP, zQ, zR]
      refine wpAnyH_take (i := 15) (oi := ⟨some 55, _, _, _, _, _⟩) (v := ?_) rfl (by kernel_rfl) (by kernel_rfl) (by kernel_rfl) (fun _ _ _ h => h) (Or.inl ⟨by rfl, ?_⟩) hS ?_
      rotate_left
      · intro wq hq
        have hc := hq.src.cL2 HR.out
        first | (go_simp; done) | (go_simp; rfl)
      try simp only [Act.put, zP, zQ, zR]
      clear HBd
      generalize wc.drew = wd at *
      refine wpAnyH_ready (rs := [3, 16]) (by kernel_rfl) (by simp) ?_
      refine AllReadyH.cons (o := ⟨some 43, _, _, _, _, _⟩) rfl (fun K hK => ?_) (AllReadyH.cons (o := ⟨some 56, _, _, _, _, _⟩) rfl (fun K hK => ?_) AllReadyH.nil)
      · rw [if_pos (by rfl)]
        go_wp2
        have h48a := byt1_rd wd 48 (by omega) (by omega)
        have hS7 := hS.below (below_one wd (.cells #[.int .u8 48] 5))
        refine hK.out _ _ (hS7) (fun hS => ?_)
        clear hK K
        try simp only [Act.put, zP, zQ, zR]
        refine wpAnyH_ready (rs := [16]) (by kernel_rfl) (by simp) ?_
        refine AllReadyH.cons (o := ⟨some 56, _, _, _, _, _⟩) rfl (fun K hK => ?_) AllReadyH.nil
        rw [if_pos (by rfl)]
        go_wp2_with fail
        refine (HSc.out _).mono ?_
        rintro e w8 ⟨A10, c10, rfl, _, hr10, hB10⟩
        have hS9 := hS7.below hB10
        have h48 := (h48a.below hB10).more hB10.size
        refine hK.out _ _ (hS9) (fun hS => ?_)
        clear hK K
        try simp only [Act.put, zP, zQ, zR]
        have HL : Hid (RdL (w8.alloc (.cells #[.slice (some ⟨w.heap.size, 1, none⟩) 8 8, .slice (some ⟨w.heap.size, 9, none⟩) 10 10, .slice A5 4 c5, .slice (some ⟨wd.heap.size, 0, none⟩) 1 1, .slice (some ⟨w.heap.size, 20, none⟩) 6 6, .slice A7 1 c7, .slice A8 0 16, .slice A6 3 c6, .slice A10 (sec r.l2).length c10] 38)) (w8.alloc (.cells #[.slice (some ⟨w.heap.size, 1, none⟩) 8 8, .slice (some ⟨w.heap.size, 9, none⟩) 10 10, .slice A5 4 c5, .slice (some ⟨wd.heap.size, 0, none⟩) 1 1, .slice (some ⟨w.heap.size, 20, none⟩) 6 6, .slice A7 1 c7, .slice A8 0 16, .slice A6 3 c6, .slice A10 (sec r.l2).length c10] 38)).heap.size (some ⟨w8.heap.size, 0, none⟩) 9 [r.rd, r.es, be 4 r.tg, [48], r.mc, [r.pn % 256], r.pl.take 0, be 3 r.lb, sec r.l2]) := Lib.hid (rdl_new_at (W := w8) (vs := [(some ⟨w.heap.size, 1, none⟩, 8, 8), (some ⟨w.heap.size, 9, none⟩, 10, 10), (A5, 4, c5), (some ⟨wd.heap.size, 0, none⟩, 1, 1), (some ⟨w.heap.size, 20, none⟩, 6, 6), (A7, 1, c7), (A8, 0, 16), (A6, 3, c6), (A10, (sec r.l2).length, c10)]) (ls := [r.rd, r.es, be 4 r.tg, [48], r.mc, [r.pn % 256], r.pl.take 0, be 3 r.lb, sec r.l2]) ⟨hS9.src.sRd HR.out hS9.src.lt, hS9.src.sEs HR.out hS9.src.lt, hS9.r5, h48, hS9.src.sMc HR.out hS9.src.lt, hS9.r7, HCut.out _ _ hS9.r8, hS9.r6, hr10, trivial⟩ 38 _ rfl _ (by simp))
        have hlow := hS9.low
        refine wpAnyH_ready (rs := [17]) (by kernel_rfl) (by simp) ?_
        refine AllReadyH.cons (o := ⟨some 57, _, _, _, _, _⟩) rfl (fun K hK => ?_) AllReadyH.nil
        rw [if_pos (by rfl)]
        go_wp2
        have hS10 := hS9.below (below_one w8 (.cells #[.slice (some ⟨w.heap.size, 1, none⟩) 8 8, .slice (some ⟨w.heap.size, 9, none⟩) 10 10, .slice A5 4 c5, .slice (some ⟨wd.heap.size, 0, none⟩) 1 1, .slice (some ⟨w.heap.size, 20, none⟩) 6 6, .slice A7 1 c7, .slice A8 0 16, .slice A6 3 c6, .slice A10 (sec r.l2).length c10] 38))
        refine hK.out _ _ (hS10) (fun hS => ?_)
        clear hK K
        try simp only [Act.put, zP, zQ, zR]
        refine wpAnyH_ready (rs := [18]) (by kernel_rfl) (by simp) ?_
        refine AllReadyH.cons (o := ⟨some 58, _, _, _, _, _⟩) rfl (fun K hK => ?_) AllReadyH.nil
        rw [if_pos (by rfl)]
        go_wp2_with fail
        refine (concat_is _ _ 9 9 _ HL.out (by omega) (by rw [HF.out]; exact HLen.out)).mono ?_
        rintro e w9 ⟨v, rfl, hO, hB9⟩
        have hS11 := hS10.below hB9
        have HEnd := Lib.hid (show OwnB w.heap.size w9 v (bodyR r) ∧ Below w.heap.size w w9 from ⟨by rw [← HF.out]; exact hO.low (by have := hlow.size; simp at this ⊢; omega), hS11.low⟩)
        refine hK.out _ _ (hS11) (fun hS => ?_)
        clear hK K
        try simp only [Act.put, zP, zQ, zR]
        refine wpAnyH_take (i := 19) (oi := ⟨some 2, _, _, _, _, _⟩) (v := ?_) rfl (by kernel_rfl) (by kernel_rfl) (by kernel_rfl) (fun _ _ _ h => h) (Or.inl ⟨by rfl, ?_⟩) hS ?_
        rotate_left
        · intro wq hq
          first | (go_simp; done) | (go_simp; rfl)
        try simp only [Act.put, zP, zQ, zR]
        refine wpAnyH_done (by kernel_rfl) ?_ _
        clear hS hS9 hS10 hS11 hO hB9 HL
        go_wp2
        go_ret
        exact ⟨v, rfl, HEnd.out.1, HEnd.out.2⟩
      · rw [if_pos (by rfl)]
        go_wp2_with fail
        refine (HSc.out _).mono ?_
        rintro e w8 ⟨A10, c10, rfl, _, hr10a, hB10⟩
        have hS8 := hS.below hB10
        refine hK.out _ _ (hS8) (fun hS => ?_)
        clear hK K
        try simp only [Act.put, zP, zQ, zR]
        refine wpAnyH_ready (rs := [3]) (by kernel_rfl) (by simp) ?_
        refine AllReadyH.cons (o := ⟨some 43, _, _, _, _, _⟩) rfl (fun K hK => ?_) AllReadyH.nil
        rw [if_pos (by rfl)]
        go_wp2
        have h48 := byt1_rd w8 48 (by omega) (by omega)
        have hb1 := below_one w8 (.cells #[.int .u8 48] 5)
        have hS9 := hS8.below hb1
        have hr10 := (hr10a.below hb1).more hb1.size
        refine hK.out _ _ (hS9) (fun hS => ?_)
        clear hK K
        try simp only [Act.put, zP, zQ, zR]
        have HL : Hid (RdL ((w8.alloc (.cells #[.int .u8 48] 5)).alloc (.cells #[.slice (some ⟨w.heap.size, 1, none⟩) 8 8, .slice (some ⟨w.heap.size, 9, none⟩) 10 10, .slice A5 4 c5, .slice (some ⟨w8.heap.size, 0, none⟩) 1 1, .slice (some ⟨w.heap.size, 20, none⟩) 6 6, .slice A7 1 c7, .slice A8 0 16, .slice A6 3 c6, .slice A10 (sec r.l2).length c10] 38)) ((w8.alloc (.cells #[.int .u8 48] 5)).alloc (.cells #[.slice (some ⟨w.heap.size, 1, none⟩) 8 8, .slice (some ⟨w.heap.size, 9, none⟩) 10 10, .slice A5 4 c5, .slice (some ⟨w8.heap.size, 0, none⟩) 1 1, .slice (some ⟨w.heap.size, 20, none⟩) 6 6, .slice A7 1 c7, .slice A8 0 16, .slice A6 3 c6, .slice A10 (sec r.l2).length c10] 38)).heap.size (some ⟨w8.heap.size + 1, 0, none⟩) 9 [r.rd, r.es, be 4 r.tg, [48], r.mc, [r.pn % 256], r.pl.take 0, be 3 r.lb, sec r.l2]) := Lib.hid (rdl_new_at (W := (w8.alloc (.cells #[.int .u8 48] 5))) (vs := [(some ⟨w.heap.size, 1, none⟩, 8, 8), (some ⟨w.heap.size, 9, none⟩, 10, 10), (A5, 4, c5), (some ⟨w8.heap.size, 0, none⟩, 1, 1), (some ⟨w.heap.size, 20, none⟩, 6, 6), (A7, 1, c7), (A8, 0, 16), (A6, 3, c6), (A10, (sec r.l2).length, c10)]) (ls := [r.rd, r.es, be 4 r.tg, [48], r.mc, [r.pn % 256], r.pl.take 0, be 3 r.lb, sec r.l2]) ⟨hS9.src.sRd HR.out hS9.src.lt, hS9.src.sEs HR.out hS9.src.lt, hS9.r5, h48, hS9.src.sMc HR.out hS9.src.lt, hS9.r7, HCut.out _ _ hS9.r8, hS9.r6, hr10, trivial⟩ 38 _ rfl _ (by simp))
        have hlow := hS9.low
        refine wpAnyH_ready (rs := [17]) (by kernel_rfl) (by simp) ?_
        refine AllReadyH.cons (o := ⟨some 57, _, _, _, _, _⟩) rfl (fun K hK => ?_) AllReadyH.nil
        rw [if_pos (by rfl)]
        go_wp2
        have hS10 := hS9.below (below_one (w8.alloc (.cells #[.int .u8 48] 5)) (.cells #[.slice (some ⟨w.heap.size, 1, none⟩) 8 8, .slice (some ⟨w.heap.size, 9, none⟩) 10 10, .slice A5 4 c5, .slice (some ⟨w8.heap.size, 0, none⟩) 1 1, .slice (some ⟨w.heap.size, 20, none⟩) 6 6, .slice A7 1 c7, .slice A8 0 16, .slice A6 3 c6, .slice A10 (sec r.l2).length c10] 38))
        refine hK.out _ _ (hS10) (fun hS => ?_)
        clear hK K
        try simp only [Act.put, zP, zQ, zR]
        refine wpAnyH_ready (rs := [18]) (by kernel_rfl) (by simp) ?_
        refine AllReadyH.cons (o := ⟨some 58, _, _, _, _, _⟩) rfl (fun K hK => ?_) AllReadyH.nil
        rw [if_pos (by rfl)]
        go_wp2_with fail
        refine (concat_is _ _ 9 9 _ HL.out (by omega) (by rw [HF.out]; exact HLen.out)).mono ?_
        rintro e w9 ⟨v, rfl, hO, hB9⟩
        have hS11 := hS10.below hB9
        have HEnd := Lib.hid (show OwnB w.heap.size w9 v (bodyR r) ∧ Below w.heap.size w w9 from ⟨by rw [← HF.out]; exact hO.low (by have := hlow.size; simp at this ⊢; omega), hS11.low⟩)
        refine hK.out _ _ (hS11) (fun hS => ?_)
        clear hK K
        try simp only [Act.put, zP, zQ, zR]
        refine wpAnyH_take (i := 19) (oi := ⟨some 2, _, _, _, _, _⟩) (v := ?_) rfl (by kernel_rfl) (by kernel_rfl) (by kernel_rfl) (fun _ _ _ h => h) (Or.inl ⟨by rfl, ?_⟩) hS ?_
        rotate_left
        · intro wq hq
          first | (go_simp; done) | (go_simp; rfl)
        try simp only [Act.put, zP, zQ, zR]
        refine wpAnyH_done (by kernel_rfl) ?_ _
        clear hS hS9 hS10 hS11 hO hB9 HL
        go_wp2
        go_ret
        exact ⟨v, rfl, HEnd.out.1, HEnd.out.2⟩

end Go.Proofs.YtdgoeibfggjbmaaGreatDoor
namespace Go.Proofs.YtdgoeibfggjbmaaGreatDoor
open Go.RowKit
set_option maxRecDepth 100000
set_option linter.unusedSimpArgs false
set_option linter.unusedVariables false


set_option maxHeartbeats 4000000 in
set_option maxRecDepth 100000 in
theorem body_2_32 (w : World) (r : Rt) (hr : RtOk r) (hf : RightF r) (hk : r.k = 2) (hpn : r.pn = 32) (hnb : 4 ≤ nb r.v6) : Calls Tryz.prog 196 #[.agg (rtc r).toArray] w fun e w' => ∃ v, e = .returned v ∧ OwnB w.heap.size w' v (bodyR r) ∧ Below w.heap.size w w' := by
  have HR := Lib.hid hr
  have H1 := Lib.hid ((RtAt.new w r hr 53).keep (w' := (w.alloc (.cells (rtc r).toArray 53)).drew) rfl)
  have HB1 := Lib.hid (below_drewN ((Below.refl w.heap.size w).alloc (Nat.le_refl _) (.cells (rtc r).toArray 53)) 1)
  have HN4 : Hid (∀ W, Calls Tryz.prog 220 #[.int .u32 r.tg, .int .i64 4] W fun e W' => ∃ A c, e = .returned (.slice A 4 c) ∧ Rd W' W'.heap.size A 4 (be 4 r.tg) ∧ Below W.heap.size W W') := Lib.hid (fun W => (numb_is W r.tg 4 hr.tg (by omega) (by omega) (be4_fit hr.tg)).mono (by
    rintro e W' ⟨A, c, rfl, _, h2, h3⟩
    exact ⟨A, c, rfl, h2, h3⟩))
  have HN3 : Hid (∀ W, Calls Tryz.prog 220 #[.int .u32 r.lb, .int .i64 3] W fun e W' => ∃ A c, e = .returned (.slice A 3 c) ∧ Rd W' W'.heap.size A 3 (be 3 r.lb) ∧ Below W.heap.size W W') := Lib.hid (fun W => (numb_is W r.lb 3 hr.lb (by omega) (by omega) (by have := hf.lb.2; omega)).mono (by
    rintro e W' ⟨A, c, rfl, _, h2, h3⟩
    exact ⟨A, c, rfl, h2, h3⟩))
  have HAd : Hid (∀ W, Calls Tryz.prog 221 #[.agg (ipc r.v6 r.pl).toArray] W fun e W' => ∃ A, e = .returned (.slice A (nb r.v6) 16) ∧ Rd W' W'.heap.size A (nb r.v6) (r.pl.take (nb r.v6)) ∧ Below W.heap.size W W') := Lib.hid (fun W => addr_at W r.v6 r.pl hr.pl hr.opl)
  have hs8 : ∀ W, (Instr.sliceAt 45 (.pointer (some ⟨w.heap.size, 1, none⟩)) none none none).run Tryz.prog W = .ok (.slice (some ⟨w.heap.size, 1, none⟩) 8 8) W := fun W => by go_simp
  have hs10 : ∀ W, (Instr.sliceAt 47 (.pointer (some ⟨w.heap.size, 9, none⟩)) none none none).run Tryz.prog W = .ok (.slice (some ⟨w.heap.size, 9, none⟩) 10 10) W := fun W => by go_simp
  have HSc : Hid (∀ W, Calls Tryz.prog 222 #[.int .u32 r.l2] W (Bts W (sec r.l2))) := Lib.hid (fun W => second_is W r.l2 hf.l2)
  have hs6 : ∀ W, (Instr.sliceAt 49 (.pointer (some ⟨w.heap.size, 20, none⟩)) none none none).run Tryz.prog W = .ok (.slice (some ⟨w.heap.size, 20, none⟩) 6 6) W := fun W => by go_simp
  have HCut : Hid (∀ W A, Rd W W.heap.size A (nb r.v6) (r.pl.take (nb r.v6)) → Rd W W.heap.size A 4 (r.pl.take 4)) := Lib.hid (fun W A h => by
    have hle : 4 ≤ nb r.v6 := by have := hnb; omega
    have hh := h.cut (c := 16) (k := 0) (m := 4) (by omega) (nb_le16 r.v6)
    simp only [List.drop_zero, List.take_take, Nat.min_eq_left hle] at hh
    have e : (if 16 = 0 then A else A.map (fun x => x.add 0)) = A := by
      rw [if_neg (by omega)]
      cases A with
      | none => rfl
      | some a => simp [Addr.add]
    rwa [e] at hh)
  have HF : Hid (([r.rd, r.es, be 4 r.tg, [48], r.mc, [r.pn % 256], r.pl.take 4, be 3 r.lb, sec r.l2] : List (List Int)).flatten = bodyR r) := Lib.hid (by unfold bodyR; rw [if_neg (by omega)]; rw [if_pos hk]; rw [show (r.pn / 8).toNat = 4 by rw [hpn]; rfl]; simp)
  have HLen : Hid ((bodyR r).length ≤ 140737488355328) := Lib.hid (by rw [← HF.out]; simp [be_len, hr.rd, hr.es, hr.pl, hr.mc]; unfold sec; split <;> simp [be_len] <;> omega)
  have e1 : (r.k == 1) = false := by rw [beq_eq_false_iff_ne]; omega
  have e2 : (r.k == 2) = true := by rw [beq_iff_eq]; omega
  have HPN := Lib.hid hpn
  clear hk hpn hnb
  clear hr hf
  go_enter Tryz.func196, Tryz.ntmps196
  go_wp2
  refine wp_region_held_drew (S := fun W => RtAt W w.heap.size r) (by kernel_rfl) (H1.out) (fun hS => ?_)
  refine wpAnyH_take (i := 0) (oi := ⟨some 9, _, _, _, _, _⟩) (v := ?_) rfl (by kernel_rfl) (by kernel_rfl) (by kernel_rfl) (fun _ _ _ h => h) (Or.inl ⟨by rfl, ?_⟩) hS ?_
  rotate_left
  · intro wq hq
    first | (go_simp; done) | (go_simp; rfl)
  try simp only [Act.put, zP, zQ, zR]
  refine wpAnyH_take (i := 1) (oi := ⟨some 10, _, _, _, _, _⟩) (v := ?_) rfl (by kernel_rfl) (by kernel_rfl) (by kernel_rfl) (fun _ _ _ h => h) (Or.inl ⟨by rfl, ?_⟩) hS ?_
  rotate_left
  · intro wq hq
    first | (go_simp; done) | (go_simp; rfl)
  try simp only [Act.put, zP, zQ, zR]
  refine wpAnyH_take (i := 2) (oi := ⟨some 11, _, _, _, _, _⟩) (v := ?_) rfl (by kernel_rfl) (by kernel_rfl) (by kernel_rfl) (fun _ _ _ h => h) (Or.inl ⟨by rfl, ?_⟩) hS ?_
  rotate_left
  · intro wq hq
    first | (go_simp; done) | (go_simp; rfl)
  try simp only [Act.put, zP, zQ, zR]
  refine wpAnyH_take (i := 3) (oi := ⟨some 12, _, _, _, _, _⟩) (v := ?_) rfl (by kernel_rfl) (by kernel_rfl) (by kernel_rfl) (fun _ _ _ h => h) (Or.inl ⟨by rfl, ?_⟩) hS ?_
  rotate_left
  · intro wq hq
    first | (go_simp; done) | (go_simp; rfl)
  try simp only [Act.put, zP, zQ, zR]
  refine wpAnyH_take (i := 4) (oi := ⟨some 3, _, _, _, _, _⟩) (v := ?_) rfl (by kernel_rfl) (by kernel_rfl) (by kernel_rfl) (fun _ _ _ h => h) (Or.inl ⟨by rfl, ?_⟩) hS ?_
  rotate_left
  · intro wq hq
    first | (go_simp; done) | (go_simp; rfl)
  try simp only [Act.put, zP, zQ, zR]
  refine wpAnyH_take (i := 5) (oi := ⟨some 4, _, _, _, _, _⟩) (v := ?_) rfl (by kernel_rfl) (by kernel_rfl) (by kernel_rfl) (fun _ _ _ h => h) (Or.inl ⟨by rfl, ?_⟩) hS ?_
  rotate_left
  · intro wq hq
    first | (go_simp; done) | (go_simp; rfl)
  try simp only [Act.put, zP, zQ, zR]
  refine wpAnyH_done (by kernel_rfl) ?_ _
  clear hS hs8 hs10
  go_wp2_with fail
  have HW1 := Lib.hid (show RtAt ((w.alloc (.cells (rtc r).toArray 53)).drew) w.heap.size r ∧ Below w.heap.size w ((w.alloc (.cells (rtc r).toArray 53)).drew) from ⟨H1.out, HB1.out⟩)
  clear H1 HB1
  generalize (w.alloc (.cells (rtc r).toArray 53)).drew = W1 at *
  go_cut [5, 6] (fun s5 s6 wx => CutA w r s5 s6 wx)
  case first =>
    refine wp_region_held_drew (S := fun W => RtAt W w.heap.size r ∧ Below w.heap.size w W) (by kernel_rfl) (⟨HW1.out.1.keep rfl, below_drewN HW1.out.2 1⟩) (fun hS => ?_)
    refine wpAnyH_take (i := 0) (oi := ⟨some 13, _, _, _, _, _⟩) (v := ?_) rfl (by kernel_rfl) (by kernel_rfl) (by kernel_rfl) (fun _ _ _ h => h) (Or.inl ⟨by rfl, ?_⟩) hS ?_
    rotate_left
    · intro wq hq
      first | (go_simp; done) | (go_simp; rfl)
    try simp only [Act.put, zP, zQ, zR]
    refine wpAnyH_take (i := 1) (oi := ⟨some 14, _, _, _, _, _⟩) (v := ?_) rfl (by kernel_rfl) (by kernel_rfl) (by kernel_rfl) (fun _ _ _ h => h) (Or.inl ⟨by rfl, ?_⟩) hS ?_
    rotate_left
    · intro wq hq
      have hc := hq.1.cTg HR.out
      first | (go_simp; done) | (go_simp; rfl)
    try simp only [Act.put, zP, zQ, zR]
    refine wpAnyH_take (i := 3) (oi := ⟨some 16, _, _, _, _, _⟩) (v := ?_) rfl (by kernel_rfl) (by kernel_rfl) (by kernel_rfl) (fun _ _ _ h => h) (Or.inl ⟨by rfl, ?_⟩) hS ?_
    rotate_left
    · intro wq hq
      first | (go_simp; done) | (go_simp; rfl)
    try simp only [Act.put, zP, zQ, zR]
    refine wpAnyH_take (i := 4) (oi := ⟨some 17, _, _, _, _, _⟩) (v := ?_) rfl (by kernel_rfl) (by kernel_rfl) (by kernel_rfl) (fun _ _ _ h => h) (Or.inl ⟨by rfl, ?_⟩) hS ?_
    rotate_left
    · intro wq hq
      have hc := hq.1.cLb HR.out
      first | (go_simp; done) | (go_simp; rfl)
    try simp only [Act.put, zP, zQ, zR]
    refine wpAnyH_ready (rs := [2]) (by kernel_rfl) (by simp) ?_
    refine AllReadyH.cons (o := ⟨some 15, _, _, _, _, _⟩) rfl (fun K hK => ?_) AllReadyH.nil
    rw [if_pos (by rfl)]
    go_wp2_with fail
    refine (HN4.out _).mono ?_
    rintro e w2 ⟨A5, c5, rfl, hr5, hB5⟩
    have hS2 : RtAt w2 w.heap.size r ∧ Below w.heap.size w w2 := ⟨hS.1.below hB5 hS.1.lt, hS.2.trans (hB5.mono hS.2.size)⟩
    refine hK.out _ _ (hS2) (fun hS => ?_)
    clear hK K
    try simp only [Act.put, zP, zQ, zR]
    refine wpAnyH_ready (rs := [5]) (by kernel_rfl) (by simp) ?_
    refine AllReadyH.cons (o := ⟨some 18, _, _, _, _, _⟩) rfl (fun K hK => ?_) AllReadyH.nil
    rw [if_pos (by rfl)]
    go_wp2_with fail
    refine (HN3.out _).mono ?_
    rintro e w3 ⟨A6, c6, rfl, hr6, hB6⟩
    have hS3 : RtAt w3 w.heap.size r ∧ Below w.heap.size w w3 := ⟨hS.1.below hB6 hS.1.lt, hS.2.trans (hB6.mono hS.2.size)⟩
    refine hK.out _ _ (hS3) (fun hS => ?_)
    clear hK K
    try simp only [Act.put, zP, zQ, zR]
    refine wpAnyH_take (i := 6) (oi := ⟨some 5, _, _, _, _, _⟩) (v := ?_) rfl (by kernel_rfl) (by kernel_rfl) (by kernel_rfl) (fun _ _ _ h => h) (Or.inl ⟨by rfl, ?_⟩) hS ?_
    rotate_left
    · intro wq hq
      first | (go_simp; done) | (go_simp; rfl)
    try simp only [Act.put, zP, zQ, zR]
    refine wpAnyH_take (i := 7) (oi := ⟨some 6, _, _, _, _, _⟩) (v := ?_) rfl (by kernel_rfl) (by kernel_rfl) (by kernel_rfl) (fun _ _ _ h => h) (Or.inl ⟨by rfl, ?_⟩) hS ?_
    rotate_left
    · intro wq hq
      first | (go_simp; done) | (go_simp; rfl)
    try simp only [Act.put, zP, zQ, zR]
    refine wpAnyH_done (by kernel_rfl) ?_ _
    go_wp2_with fail
    go_meet
    exact ⟨A5, c5, A6, c6, rfl, rfl, hS3.1, hS3.2, (hr5.below hB6).more hB6.size, hr6⟩
  case rest =>
    obtain ⟨A5, c5, A6, c6, rfl, rfl, hA⟩ := hcut
    have HA := Lib.hid (show BdA w wc.drew r A5 A6 from hA.below (below_drew wc))
    clear hA
    go_wp2_with fail
    go_cut [7, 8] (fun s7 s8 wx => CutB w r A5 A6 s7 s8 wx)
    case first =>
      refine wp_region_held_drew (S := fun W => BdA w W r A5 A6) (by kernel_rfl) (HA.out) (fun hS => ?_)
      refine wpAnyH_take (i := 0) (oi := ⟨some 19, _, _, _, _, _⟩) (v := ?_) rfl (by kernel_rfl) (by kernel_rfl) (by kernel_rfl) (fun _ _ _ h => h) (Or.inl ⟨by rfl, ?_⟩) hS ?_
      rotate_left
      · intro wq hq
        first | (go_simp; done) | (go_simp; rfl)
      try simp only [Act.put, zP, zQ, zR]
      refine wpAnyH_take (i := 1) (oi := ⟨some 20, _, _, _, _, _⟩) (v := ?_) rfl (by kernel_rfl) (by kernel_rfl) (by kernel_rfl) (fun _ _ _ h => h) (Or.inl ⟨by rfl, ?_⟩) hS ?_
      rotate_left
      · intro wq hq
        first | (go_simp; done) | (go_simp; rfl)
      try simp only [Act.put, zP, zQ, zR]
      refine wpAnyH_take (i := 2) (oi := ⟨some 21, _, _, _, _, _⟩) (v := ?_) rfl (by kernel_rfl) (by kernel_rfl) (by kernel_rfl) (fun _ _ _ h => h) (Or.inl ⟨by rfl, ?_⟩) hS ?_
      rotate_left
      · intro wq hq
        have hc := hq.src.cPn HR.out
        first | (go_simp; done) | (go_simp; rfl)
      try simp only [Act.put, zP, zQ, zR]
      refine wpAnyH_take (i := 3) (oi := ⟨some 22, _, _, _, _, _⟩) (v := ?_) rfl (by kernel_rfl) (by kernel_rfl) (by kernel_rfl) (fun _ _ _ h => h) (Or.inl ⟨by rfl, ?_⟩) hS ?_
      rotate_left
      · intro wq hq
        first | (go_simp; done) | (go_simp; rfl)
      try simp only [Act.put, zP, zQ, zR]
      refine wpAnyH_take (i := 5) (oi := ⟨some 24, _, _, _, _, _⟩) (v := ?_) rfl (by kernel_rfl) (by kernel_rfl) (by kernel_rfl) (fun _ _ _ h => h) (Or.inl ⟨by rfl, ?_⟩) hS ?_
      rotate_left
      · intro wq hq
        first | (go_simp; done) | (go_simp; rfl)
      try simp only [Act.put, zP, zQ, zR]
      refine wpAnyH_take (i := 6) (oi := ⟨some 25, _, _, _, _, _⟩) (v := ?_) rfl (by kernel_rfl) (by kernel_rfl) (by kernel_rfl) (fun _ _ _ h => h) (Or.inl ⟨by rfl, ?_⟩) hS ?_
      rotate_left
      · intro wq hq
        first | (go_simp; done) | (go_simp; rfl)
      try simp only [Act.put, zP, zQ, zR]
      refine wpAnyH_take (i := 7) (oi := ⟨some 26, _, _, _, _, _⟩) rfl (by kernel_rfl) (by kernel_rfl) (by kernel_rfl) (fun _ _ _ h => h) (yieldsIf_load_mid (by rfl) 27 _ rfl _ _ rfl (ipc r.v6 r.pl) _ (fun wq hq => hq.src.rIp HR.out) Tryz.underlying27 rfl (sz_ip HR.out)) hS ?_
      try simp only [Act.put, zP, zQ, zR]
      refine wpAnyH_ready (rs := [4, 8]) (by kernel_rfl) (by simp) ?_
      refine AllReadyH.cons (o := ⟨some 23, _, _, _, _, _⟩) rfl (fun K hK => ?_) (AllReadyH.cons (o := ⟨some 27, _, _, _, _, _⟩) rfl (fun K hK => ?_) AllReadyH.nil)
      · rw [if_pos (by rfl)]
        go_wp2
        have h7 := byt1_rd wc.drew (r.pn % 256) (Int.emod_nonneg _ (by decide)) (Int.emod_lt_of_pos _ (by decide))
        have hS2 := hS.below (below_one wc.drew (.cells #[.int .u8 (r.pn % 256)] 5))
        refine hK.out _ _ (hS2) (fun hS => ?_)
        clear hK K
        try simp only [Act.put, zP, zQ, zR]
        refine wpAnyH_ready (rs := [8]) (by kernel_rfl) (by simp) ?_
        refine AllReadyH.cons (o := ⟨some 27, _, _, _, _, _⟩) rfl (fun K hK => ?_) AllReadyH.nil
        rw [if_pos (by rfl)]
        go_wp2_with fail
        refine (HAd.out _).mono ?_
        rintro e w3 ⟨A8, rfl, hr8, hB8⟩
        have hS3 := hS.below hB8
        refine hK.out _ _ (hS3) (fun hS => ?_)
        clear hK K
        try simp only [Act.put, zP, zQ, zR]
        refine wpAnyH_take (i := 9) (oi := ⟨some 7, _, _, _, _, _⟩) (v := ?_) rfl (by kernel_rfl) (by kernel_rfl) (by kernel_rfl) (fun _ _ _ h => h) (Or.inl ⟨by rfl, ?_⟩) hS ?_
        rotate_left
        · intro wq hq
          first | (go_simp; done) | (go_simp; rfl)
        try simp only [Act.put, zP, zQ, zR]
        refine wpAnyH_take (i := 10) (oi := ⟨some 8, _, _, _, _, _⟩) (v := ?_) rfl (by kernel_rfl) (by kernel_rfl) (by kernel_rfl) (fun _ _ _ h => h) (Or.inl ⟨by rfl, ?_⟩) hS ?_
        rotate_left
        · intro wq hq
          first | (go_simp; done) | (go_simp; rfl)
        try simp only [Act.put, zP, zQ, zR]
        refine wpAnyH_done (by kernel_rfl) ?_ _
        go_wp2_with fail
        go_meet
        exact ⟨_, _, A8, rfl, rfl, hS3, (h7.below hB8).more hB8.size, hr8⟩
      · rw [if_pos (by rfl)]
        go_wp2_with fail
        refine (HAd.out _).mono ?_
        rintro e w2 ⟨A8, rfl, hr8, hB8⟩
        have hS2 := hS.below hB8
        refine hK.out _ _ (hS2) (fun hS => ?_)
        clear hK K
        try simp only [Act.put, zP, zQ, zR]
        refine wpAnyH_ready (rs := [4]) (by kernel_rfl) (by simp) ?_
        refine AllReadyH.cons (o := ⟨some 23, _, _, _, _, _⟩) rfl (fun K hK => ?_) AllReadyH.nil
        rw [if_pos (by rfl)]
        go_wp2
        have h7 := byt1_rd w2 (r.pn % 256) (Int.emod_nonneg _ (by decide)) (Int.emod_lt_of_pos _ (by decide))
        have hb1 := below_one w2 (.cells #[.int .u8 (r.pn % 256)] 5)
        have hS3 := hS.below hb1
        refine hK.out _ _ (hS3) (fun hS => ?_)
        clear hK K
        try simp only [Act.put, zP, zQ, zR]
        refine wpAnyH_take (i := 9) (oi := ⟨some 7, _, _, _, _, _⟩) (v := ?_) rfl (by kernel_rfl) (by kernel_rfl) (by kernel_rfl) (fun _ _ _ h => h) (Or.inl ⟨by rfl, ?_⟩) hS ?_
        rotate_left
        · intro wq hq
          first | (go_simp; done) | (go_simp; rfl)
        try simp only [Act.put, zP, zQ, zR]
        refine wpAnyH_take (i := 10) (oi := ⟨some 8, _, _, _, _, _⟩) (v := ?_) rfl (by kernel_rfl) (by kernel_rfl) (by kernel_rfl) (fun _ _ _ h => h) (Or.inl ⟨by rfl, ?_⟩) hS ?_
        rotate_left
        · intro wq hq
          first | (go_simp; done) | (go_simp; rfl)
        try simp only [Act.put, zP, zQ, zR]
        refine wpAnyH_done (by kernel_rfl) ?_ _
        go_wp2_with fail
        go_meet
        exact ⟨_, _, A8, rfl, rfl, hS3, h7, (hr8.below hb1).more hb1.size⟩
    case rest =>
      obtain ⟨A7, c7, A8, rfl, rfl, hB⟩ := hcut
      have cK := hB.src.cK
      have HBd := Lib.hid hB
      clear hB
      go_wp2_with fail
      refine wp_region_held_drew (S := fun W => BdB w W r A5 A6 A7 A8) (by kernel_rfl) (HBd.out.below (below_drew wc)) (fun hS => ?_)
      refine wpAnyH_take (i := 0) (oi := ⟨some 40, _, _, _, _, _⟩) (v := ?_) rfl (by kernel_rfl) (by kernel_rfl) (by kernel_rfl) (fun _ _ _ h => h) (Or.inl ⟨by rfl, ?_⟩) hS ?_
      rotate_left
      · intro wq hq
        first | (go_simp; done) | (go_simp; rfl)
      try simp only [Act.put, zP, zQ, zR]
      refine wpAnyH_take (i := 1) (oi := ⟨some 41, _, _, _, _, _⟩) (v := ?_) rfl (by kernel_rfl) (by kernel_rfl) (by kernel_rfl) (fun _ _ _ h => h) (Or.inl ⟨by rfl, ?_⟩) hS ?_
      rotate_left
      · intro wq hq
        first | (go_simp; done) | (go_simp; rfl)
      try simp only [Act.put, zP, zQ, zR]
      refine wpAnyH_take (i := 2) (oi := ⟨some 42, _, _, _, _, _⟩) (v := ?_) rfl (by kernel_rfl) (by kernel_rfl) (by kernel_rfl) (fun _ _ _ h => h) (Or.inl ⟨by rfl, ?_⟩) hS ?_
      rotate_left
      · intro wq hq
        first | (go_simp; done) | (go_simp; rfl)
      try simp only [Act.put, zP, zQ, zR]
      refine wpAnyH_take (i := 4) (oi := ⟨some 44, _, _, _, _, _⟩) (v := ?_) rfl (by kernel_rfl) (by kernel_rfl) (by kernel_rfl) (fun _ _ _ h => h) (Or.inl ⟨by rfl, ?_⟩) hS ?_
      rotate_left
      · intro wq hq
        first | (go_simp; done) | (go_simp; rfl)
      try simp only [Act.put, zP, zQ, zR]
      refine wpAnyH_take (i := 5) (oi := ⟨some 45, _, _, _, _, _⟩) (v := ?_) rfl (by kernel_rfl) (by kernel_rfl) (by kernel_rfl) (fun _ _ _ h => h) (Or.inl ⟨by rfl, ?_⟩) hS ?_
      rotate_left
      · intro wq hq
        first | (go_simp; done) | (go_simp; rfl)
      try simp only [Act.put, zP, zQ, zR]
      refine wpAnyH_take (i := 6) (oi := ⟨some 46, _, _, _, _, _⟩) (v := ?_) rfl (by kernel_rfl) (by kernel_rfl) (by kernel_rfl) (fun _ _ _ h => h) (Or.inl ⟨by rfl, ?_⟩) hS ?_
      rotate_left
      · intro wq hq
        first | (go_simp; done) | (go_simp; rfl)
      try simp only [Act.put, zP, zQ, zR]
      refine wpAnyH_take (i := 7) (oi := ⟨some 47, _, _, _, _, _⟩) (v := ?_) rfl (by kernel_rfl) (by kernel_rfl) (by kernel_rfl) (fun _ _ _ h => h) (Or.inl ⟨by rfl, ?_⟩) hS ?_
      rotate_left
      · intro wq hq
        first | (go_simp; done) | (go_simp; rfl)
      try simp only [Act.put, zP, zQ, zR]
      refine wpAnyH_take (i := 8) (oi := ⟨some 48, _, _, _, _, _⟩) (v := ?_) rfl (by kernel_rfl) (by kernel_rfl) (by kernel_rfl) (fun _ _ _ h => h) (Or.inl ⟨by rfl, ?_⟩) hS ?_
      rotate_left
      · intro wq hq
        first | (go_simp; done) | (go_simp; rfl)
      try simp only [Act.put, zP, zQ, zR]
      refine wpAnyH_take (i := 9) (oi := ⟨some 49, _, _, _, _, _⟩) (v := ?_) rfl (by kernel_rfl) (by kernel_rfl) (by kernel_rfl) (fun _ _ _ h => h) (Or.inl ⟨by rfl, ?_⟩) hS ?_
      rotate_left
      · intro wq hq
        first | (go_simp; done) | (go_simp; rfl)
      try simp only [Act.put, zP, zQ, zR]
      refine wpAnyH_take (i := 10) (oi := ⟨some 50, _, _, _, _, _⟩) (v := ?_) rfl (by kernel_rfl) (by kernel_rfl) (by kernel_rfl) (fun _ _ _ h => h) (Or.inl ⟨by rfl, ?_⟩) hS ?_
      rotate_left
      · intro wq hq
        have hc := hq.src.cPn HR.out; rw [HPN.out] at hc
        first | (go_simp; done) | (go_simp; rfl)
      try simp only [Act.put, zP, zQ, zR]
      refine wpAnyH_take (i := 11) (oi := ⟨some 51, _, _, _, _, _⟩) (v := ?_) rfl (by kernel_rfl) (by kernel_rfl) (by kernel_rfl) (fun _ _ _ h => h) (Or.inl ⟨by rfl, ?_⟩) hS ?_
      rotate_left
      · intro wq hq
        first | (go_simp; done) | (go_simp; rfl)
      try simp only [Act.put, zP, zQ, zR]
      refine wpAnyH_take (i := 12) (oi := ⟨some 52, _, _, _, _, _⟩) (v := ?_) rfl (by kernel_rfl) (by kernel_rfl) (by kernel_rfl) (fun _ _ _ h => h) (Or.inl ⟨by rfl, ?_⟩) hS ?_
      rotate_left
      · intro wq hq
        first | (go_simp; done) | (go_simp; rfl)
      try simp only [Act.put, zP, zQ, zR]
      refine wpAnyH_take (i := 13) (oi := ⟨some 53, _, _, _, _, _⟩) (v := ?_) rfl (by kernel_rfl) (by kernel_rfl) (by kernel_rfl) (fun _ _ _ h => h) (Or.inl ⟨by rfl, ?_⟩) hS ?_
      rotate_left
      · intro wq hq
        first | (go_simp; done) | (go_simp; rfl)
      try simp only [Act.put, zP, zQ, zR]
      refine wpAnyH_take (i := 14) (oi := ⟨some 54, _, _, _, _, _⟩) (v := ?_) rfl (by kernel_rfl) (by kernel_rfl) (by kernel_rfl) (fun _ _ _ h => h) (Or.inl ⟨by rfl, ?_⟩) hS ?_
      rotate_left
      · intro wq hq
        first | (go_simp; done) | (go_simp; rfl)
      try simp only [Act.put, zP, zQ, zR]
      refine wpAnyH_take (i := 15) (oi := ⟨some 55, _, _, _, _, _⟩) (v := ?_) rfl (by kernel_rfl) (by kernel_rfl) (by kernel_rfl) (fun _ _ _ h => h) (Or.inl ⟨by rfl, ?_⟩) hS ?_
      rotate_left
      · intro wq hq
        have hc := hq.src.cL2 HR.out
        first | (go_simp; done) | (go_simp; rfl)
      try simp only [Act.put, zP, zQ, zR]
      clear HBd
      generalize wc.drew = wd at *
      refine wpAnyH_ready (rs := [3, 16]) (by kernel_rfl) (by simp) ?_
      refine AllReadyH.cons (o := ⟨some 43, _, _, _, _, _⟩) rfl (fun K hK => ?_) (AllReadyH.cons (o := ⟨some 56, _, _, _, _, _⟩) rfl (fun K hK => ?_) AllReadyH.nil)
      · rw [if_pos (by rfl)]
        go_wp2
        have h48a := byt1_rd wd 48 (by omega) (by omega)
        have hS7 := hS.below (below_one wd (.cells #[.int .u8 48] 5))
        refine hK.out _ _ (hS7) (fun hS => ?_)
        clear hK K
        try simp only [Act.put, zP, zQ, zR]
        refine wpAnyH_ready (rs := [16]) (by kernel_rfl) (by simp) ?_
        refine AllReadyH.cons (o := ⟨some 56, _, _, _, _, _⟩) rfl (fun K hK => ?_) AllReadyH.nil
        rw [if_pos (by rfl)]
        go_wp2_with fail
        refine (HSc.out _).mono ?_
        rintro e w8 ⟨A10, c10, rfl, _, hr10, hB10⟩
        have hS9 := hS7.below hB10
        have h48 := (h48a.below hB10).more hB10.size
        refine hK.out _ _ (hS9) (fun hS => ?_)
        clear hK K
        try simp only [Act.put, zP, zQ, zR]
        have HL : Hid (RdL (w8.alloc (.cells #[.slice (some ⟨w.heap.size, 1, none⟩) 8 8, .slice (some ⟨w.heap.size, 9, none⟩) 10 10, .slice A5 4 c5, .slice (some ⟨wd.heap.size, 0, none⟩) 1 1, .slice (some ⟨w.heap.size, 20, none⟩) 6 6, .slice A7 1 c7, .slice A8 4 16, .slice A6 3 c6, .slice A10 (sec r.l2).length c10] 38)) (w8.alloc (.cells #[.slice (some ⟨w.heap.size, 1, none⟩) 8 8, .slice (some ⟨w.heap.size, 9, none⟩) 10 10, .slice A5 4 c5, .slice (some ⟨wd.heap.size, 0, none⟩) 1 1, .slice (some ⟨w.heap.size, 20, none⟩) 6 6, .slice A7 1 c7, .slice A8 4 16, .slice A6 3 c6, .slice A10 (sec r.l2).length c10] 38)).heap.size (some ⟨w8.heap.size, 0, none⟩) 9 [r.rd, r.es, be 4 r.tg, [48], r.mc, [r.pn % 256], r.pl.take 4, be 3 r.lb, sec r.l2]) := Lib.hid (rdl_new_at (W := w8) (vs := [(some ⟨w.heap.size, 1, none⟩, 8, 8), (some ⟨w.heap.size, 9, none⟩, 10, 10), (A5, 4, c5), (some ⟨wd.heap.size, 0, none⟩, 1, 1), (some ⟨w.heap.size, 20, none⟩, 6, 6), (A7, 1, c7), (A8, 4, 16), (A6, 3, c6), (A10, (sec r.l2).length, c10)]) (ls := [r.rd, r.es, be 4 r.tg, [48], r.mc, [r.pn % 256], r.pl.take 4, be 3 r.lb, sec r.l2]) ⟨hS9.src.sRd HR.out hS9.src.lt, hS9.src.sEs HR.out hS9.src.lt, hS9.r5, h48, hS9.src.sMc HR.out hS9.src.lt, hS9.r7, HCut.out _ _ hS9.r8, hS9.r6, hr10, trivial⟩ 38 _ rfl _ (by simp))
        have hlow := hS9.low
        refine wpAnyH_ready (rs := [17]) (by kernel_rfl) (by simp) ?_
        refine AllReadyH.cons (o := ⟨some 57, _, _, _, _, _⟩) rfl (fun K hK => ?_) AllReadyH.nil
        rw [if_pos (by rfl)]
        go_wp2
        have hS10 := hS9.below (below_one w8 (.cells #[.slice (some ⟨w.heap.size, 1, none⟩) 8 8, .slice (some ⟨w.heap.size, 9, none⟩) 10 10, .slice A5 4 c5, .slice (some ⟨wd.heap.size, 0, none⟩) 1 1, .slice (some ⟨w.heap.size, 20, none⟩) 6 6, .slice A7 1 c7, .slice A8 4 16, .slice A6 3 c6, .slice A10 (sec r.l2).length c10] 38))
        refine hK.out _ _ (hS10) (fun hS => ?_)
        clear hK K
        try simp only [Act.put, zP, zQ, zR]
        refine wpAnyH_ready (rs := [18]) (by kernel_rfl) (by simp) ?_
        refine AllReadyH.cons (o := ⟨some 58, _, _, _, _, _⟩) rfl (fun K hK => ?_) AllReadyH.nil
        rw [if_pos (by rfl)]
        go_wp2_with fail
        refine (concat_is _ _ 9 9 _ HL.out (by omega) (by rw [HF.out]; exact HLen.out)).mono ?_
        rintro e w9 ⟨v, rfl, hO, hB9⟩
        have hS11 := hS10.below hB9
        have HEnd := Lib.hid (show OwnB w.heap.size w9 v (bodyR r) ∧ Below w.heap.size w w9 from ⟨by rw [← HF.out]; exact hO.low (by have := hlow.size; simp at this ⊢; omega), hS11.low⟩)
        refine hK.out _ _ (hS11) (fun hS => ?_)
        clear hK K
        try simp only [Act.put, zP, zQ, zR]
        refine wpAnyH_take (i := 19) (oi := ⟨some 2, _, _, _, _, _⟩) (v := ?_) rfl (by kernel_rfl) (by kernel_rfl) (by kernel_rfl) (fun _ _ _ h => h) (Or.inl ⟨by rfl, ?_⟩) hS ?_
        rotate_left
        · intro wq hq
          first | (go_simp; done) | (go_simp; rfl)
        try simp only [Act.put, zP, zQ, zR]
        refine wpAnyH_done (by kernel_rfl) ?_ _
        clear hS hS9 hS10 hS11 hO hB9 HL
        go_wp2
        go_ret
        exact ⟨v, rfl, HEnd.out.1, HEnd.out.2⟩
      · rw [if_pos (by rfl)]
        go_wp2_with fail
        refine (HSc.out _).mono ?_
        rintro e w8 ⟨A10, c10, rfl, _, hr10a, hB10⟩
        have hS8 := hS.below hB10
        refine hK.out _ _ (hS8) (fun hS => ?_)
        clear hK K
        try simp only [Act.put, zP, zQ, zR]
        refine wpAnyH_ready (rs := [3]) (by kernel_rfl) (by simp) ?_
        refine AllReadyH.cons (o := ⟨some 43, _, _, _, _, _⟩) rfl (fun K hK => ?_) AllReadyH.nil
        rw [if_pos (by rfl)]
        go_wp2
        have h48 := byt1_rd w8 48 (by omega) (by omega)
        have hb1 := below_one w8 (.cells #[.int .u8 48] 5)
        have hS9 := hS8.below hb1
        have hr10 := (hr10a.below hb1).more hb1.size
        refine hK.out _ _ (hS9) (fun hS => ?_)
        clear hK K
        try simp only [Act.put, zP, zQ, zR]
        have HL : Hid (RdL ((w8.alloc (.cells #[.int .u8 48] 5)).alloc (.cells #[.slice (some ⟨w.heap.size, 1, none⟩) 8 8, .slice (some ⟨w.heap.size, 9, none⟩) 10 10, .slice A5 4 c5, .slice (some ⟨w8.heap.size, 0, none⟩) 1 1, .slice (some ⟨w.heap.size, 20, none⟩) 6 6, .slice A7 1 c7, .slice A8 4 16, .slice A6 3 c6, .slice A10 (sec r.l2).length c10] 38)) ((w8.alloc (.cells #[.int .u8 48] 5)).alloc (.cells #[.slice (some ⟨w.heap.size, 1, none⟩) 8 8, .slice (some ⟨w.heap.size, 9, none⟩) 10 10, .slice A5 4 c5, .slice (some ⟨w8.heap.size, 0, none⟩) 1 1, .slice (some ⟨w.heap.size, 20, none⟩) 6 6, .slice A7 1 c7, .slice A8 4 16, .slice A6 3 c6, .slice A10 (sec r.l2).length c10] 38)).heap.size (some ⟨w8.heap.size + 1, 0, none⟩) 9 [r.rd, r.es, be 4 r.tg, [48], r.mc, [r.pn % 256], r.pl.take 4, be 3 r.lb, sec r.l2]) := Lib.hid (rdl_new_at (W := (w8.alloc (.cells #[.int .u8 48] 5))) (vs := [(some ⟨w.heap.size, 1, none⟩, 8, 8), (some ⟨w.heap.size, 9, none⟩, 10, 10), (A5, 4, c5), (some ⟨w8.heap.size, 0, none⟩, 1, 1), (some ⟨w.heap.size, 20, none⟩, 6, 6), (A7, 1, c7), (A8, 4, 16), (A6, 3, c6), (A10, (sec r.l2).length, c10)]) (ls := [r.rd, r.es, be 4 r.tg, [48], r.mc, [r.pn % 256], r.pl.take 4, be 3 r.lb, sec r.l2]) ⟨hS9.src.sRd HR.out hS9.src.lt, hS9.src.sEs HR.out hS9.src.lt, hS9.r5, h48, hS9.src.sMc HR.out hS9.src.lt, hS9.r7, HCut.out _ _ hS9.r8, hS9.r6, hr10, trivial⟩ 38 _ rfl _ (by simp))
        have hlow := hS9.low
        refine wpAnyH_ready (rs := [17]) (by kernel_rfl) (by simp) ?_
        refine AllReadyH.cons (o := ⟨some 57, _, _, _, _, _⟩) rfl (fun K hK => ?_) AllReadyH.nil
        rw [if_pos (by rfl)]
        go_wp2
        have hS10 := hS9.below (below_one (w8.alloc (.cells #[.int .u8 48] 5)) (.cells #[.slice (some ⟨w.heap.size, 1, none⟩) 8 8, .slice (some ⟨w.heap.size, 9, none⟩) 10 10, .slice A5 4 c5, .slice (some ⟨w8.heap.size, 0, none⟩) 1 1, .slice (some ⟨w.heap.size, 20, none⟩) 6 6, .slice A7 1 c7, .slice A8 4 16, .slice A6 3 c6, .slice A10 (sec r.l2).length c10] 38))
        refine hK.out _ _ (hS10) (fun hS => ?_)
        clear hK K
        try simp only [Act.put, zP, zQ, zR]
        refine wpAnyH_ready (rs := [18]) (by kernel_rfl) (by simp) ?_
        refine AllReadyH.cons (o := ⟨some 58, _, _, _, _, _⟩) rfl (fun K hK => ?_) AllReadyH.nil
        rw [if_pos (by rfl)]
        go_wp2_with fail
        refine (concat_is _ _ 9 9 _ HL.out (by omega) (by rw [HF.out]; exact HLen.out)).mono ?_
        rintro e w9 ⟨v, rfl, hO, hB9⟩
        have hS11 := hS10.below hB9
        have HEnd := Lib.hid (show OwnB w.heap.size w9 v (bodyR r) ∧ Below w.heap.size w w9 from ⟨by rw [← HF.out]; exact hO.low (by have := hlow.size; simp at this ⊢; omega), hS11.low⟩)
        refine hK.out _ _ (hS11) (fun hS => ?_)
        clear hK K
        try simp only [Act.put, zP, zQ, zR]
        refine wpAnyH_take (i := 19) (oi := ⟨some 2, _, _, _, _, _⟩) (v := ?_) rfl (by kernel_rfl) (by kernel_rfl) (by kernel_rfl) (fun _ _ _ h => h) (Or.inl ⟨by rfl, ?_⟩) hS ?_
        rotate_left
        · intro wq hq
          first | (go_simp; done) | (go_simp; rfl)
        try simp only [Act.put, zP, zQ, zR]
        refine wpAnyH_done (by kernel_rfl) ?_ _
        clear hS hS9 hS10 hS11 hO hB9 HL
        go_wp2
        go_ret
        exact ⟨v, rfl, HEnd.out.1, HEnd.out.2⟩

end Go.Proofs.YtdgoeibfggjbmaaGreatDoor
namespace Go.Proofs.YtdgoeibfggjbmaaGreatDoor
open Go.RowKit
set_option maxRecDepth 100000
set_option linter.unusedSimpArgs false
set_option linter.unusedVariables false


set_option maxHeartbeats 4000000 in
set_option maxRecDepth 100000 in
theorem body_2_128 (w : World) (r : Rt) (hr : RtOk r) (hf : RightF r) (hk : r.k = 2) (hpn : r.pn = 128) (hnb : 16 ≤ nb r.v6) : Calls Tryz.prog 196 #[.agg (rtc r).toArray] w fun e w' => ∃ v, e = .returned v ∧ OwnB w.heap.size w' v (bodyR r) ∧ Below w.heap.size w w' := by
  have HR := Lib.hid hr
  have H1 := Lib.hid ((RtAt.new w r hr 53).keep (w' := (w.alloc (.cells (rtc r).toArray 53)).drew) rfl)
  have HB1 := Lib.hid (below_drewN ((Below.refl w.heap.size w).alloc (Nat.le_refl _) (.cells (rtc r).toArray 53)) 1)
  have HN4 : Hid (∀ W, Calls Tryz.prog 220 #[.int .u32 r.tg, .int .i64 4] W fun e W' => ∃ A c, e = .returned (.slice A 4 c) ∧ Rd W' W'.heap.size A 4 (be 4 r.tg) ∧ Below W.heap.size W W') := Lib.hid (fun W => (numb_is W r.tg 4 hr.tg (by omega) (by omega) (be4_fit hr.tg)).mono (by
    rintro e W' ⟨A, c, rfl, _, h2, h3⟩
    exact ⟨A, c, rfl, h2, h3⟩))
  have HN3 : Hid (∀ W, Calls Tryz.prog 220 #[.int .u32 r.lb, .int .i64 3] W fun e W' => ∃ A c, e = .returned (.slice A 3 c) ∧ Rd W' W'.heap.size A 3 (be 3 r.lb) ∧ Below W.heap.size W W') := Lib.hid (fun W => (numb_is W r.lb 3 hr.lb (by omega) (by omega) (by have := hf.lb.2; omega)).mono (by
    rintro e W' ⟨A, c, rfl, _, h2, h3⟩
    exact ⟨A, c, rfl, h2, h3⟩))
  have HAd : Hid (∀ W, Calls Tryz.prog 221 #[.agg (ipc r.v6 r.pl).toArray] W fun e W' => ∃ A, e = .returned (.slice A (nb r.v6) 16) ∧ Rd W' W'.heap.size A (nb r.v6) (r.pl.take (nb r.v6)) ∧ Below W.heap.size W W') := Lib.hid (fun W => addr_at W r.v6 r.pl hr.pl hr.opl)
  have hs8 : ∀ W, (Instr.sliceAt 45 (.pointer (some ⟨w.heap.size, 1, none⟩)) none none none).run Tryz.prog W = .ok (.slice (some ⟨w.heap.size, 1, none⟩) 8 8) W := fun W => by go_simp
  have hs10 : ∀ W, (Instr.sliceAt 47 (.pointer (some ⟨w.heap.size, 9, none⟩)) none none none).run Tryz.prog W = .ok (.slice (some ⟨w.heap.size, 9, none⟩) 10 10) W := fun W => by go_simp
  have HSc : Hid (∀ W, Calls Tryz.prog 222 #[.int .u32 r.l2] W (Bts W (sec r.l2))) := Lib.hid (fun W => second_is W r.l2 hf.l2)
  have hs6 : ∀ W, (Instr.sliceAt 49 (.pointer (some ⟨w.heap.size, 20, none⟩)) none none none).run Tryz.prog W = .ok (.slice (some ⟨w.heap.size, 20, none⟩) 6 6) W := fun W => by go_simp
  have HCut : Hid (∀ W A, Rd W W.heap.size A (nb r.v6) (r.pl.take (nb r.v6)) → Rd W W.heap.size A 16 (r.pl.take 16)) := Lib.hid (fun W A h => by
    have hle : 16 ≤ nb r.v6 := by have := hnb; omega
    have hh := h.cut (c := 16) (k := 0) (m := 16) (by omega) (nb_le16 r.v6)
    simp only [List.drop_zero, List.take_take, Nat.min_eq_left hle] at hh
    have e : (if 16 = 0 then A else A.map (fun x => x.add 0)) = A := by
      rw [if_neg (by omega)]
      cases A with
      | none => rfl
      | some a => simp [Addr.add]
    rwa [e] at hh)
  have HF : Hid (([r.rd, r.es, be 4 r.tg, [48], r.mc, [r.pn % 256], r.pl.take 16, be 3 r.lb, sec r.l2] : List (List Int)).flatten = bodyR r) := Lib.hid (by unfold bodyR; rw [if_neg (by omega)]; rw [if_pos hk]; rw [show (r.pn / 8).toNat = 16 by rw [hpn]; rfl]; simp)
  have HLen : Hid ((bodyR r).length ≤ 140737488355328) := Lib.hid (by rw [← HF.out]; simp [be_len, hr.rd, hr.es, hr.pl, hr.mc]; unfold sec; split <;> simp [be_len] <;> omega)
  have e1 : (r.k == 1) = false := by rw [beq_eq_false_iff_ne]; omega
  have e2 : (r.k == 2) = true := by rw [beq_iff_eq]; omega
  have HPN := Lib.hid hpn
  clear hk hpn hnb
  clear hr hf
  go_enter Tryz.func196, Tryz.ntmps196
  go_wp2
  refine wp_region_held_drew (S := fun W => RtAt W w.heap.size r) (by kernel_rfl) (H1.out) (fun hS => ?_)
  refine wpAnyH_take (i := 0) (oi := ⟨some 9, _, _, _, _, _⟩) (v := ?_) rfl (by kernel_rfl) (by kernel_rfl) (by kernel_rfl) (fun _ _ _ h => h) (Or.inl ⟨by rfl, ?_⟩) hS ?_
  rotate_left
  · intro wq hq
    first | (go_simp; done) | (go_simp; rfl)
  try simp only [Act.put, zP, zQ, zR]
  refine wpAnyH_take (i := 1) (oi := ⟨some 10, _, _, _, _, _⟩) (v := ?_) rfl (by kernel_rfl) (by kernel_rfl) (by kernel_rfl) (fun _ _ _ h => h) (Or.inl ⟨by rfl, ?_⟩) hS ?_
  rotate_left
  · intro wq hq
    first | (go_simp; done) | (go_simp; rfl)
  try simp only [Act.put, zP, zQ, zR]
  refine wpAnyH_take (i := 2) (oi := ⟨some 11, _, _, _, _, _⟩) (v := ?_) rfl (by kernel_rfl) (by kernel_rfl) (by kernel_rfl) (fun _ _ _ h => h) (Or.inl ⟨by rfl, ?_⟩) hS ?_
  rotate_left
  · intro wq hq
    first | (go_simp; done) | (go_simp; rfl)
  try simp only [Act.put, zP, zQ, zR]
  refine wpAnyH_take (i := 3) (oi := ⟨some 12, _, _, _, _, _⟩) (v := ?_) rfl (by kernel_rfl) (by kernel_rfl) (by kernel_rfl) (fun _ _ _ h => h) (Or.inl ⟨by rfl, ?_⟩) hS ?_
  rotate_left
  · intro wq hq
    first | (go_simp; done) | (go_simp; rfl)
  try simp only [Act.put, zP, zQ, zR]
  refine wpAnyH_take (i := 4) (oi := ⟨some 3, _, _, _, _, _⟩) (v := ?_) rfl (by kernel_rfl) (by kernel_rfl) (by kernel_rfl) (fun _ _ _ h => h) (Or.inl ⟨by rfl, ?_⟩) hS ?_
  rotate_left
  · intro wq hq
    first | (go_simp; done) | (go_simp; rfl)
  try simp only [Act.put, zP, zQ, zR]
  refine wpAnyH_take (i := 5) (oi := ⟨some 4, _, _, _, _, _⟩) (v := ?_) rfl (by kernel_rfl) (by kernel_rfl) (by kernel_rfl) (fun _ _ _ h => h) (Or.inl ⟨by rfl, ?_⟩) hS ?_
  rotate_left
  · intro wq hq
    first | (go_simp; done) | (go_simp; rfl)
  try simp only [Act.put, zP, zQ, zR]
  refine wpAnyH_done (by kernel_rfl) ?_ _
  clear hS hs8 hs10
  go_wp2_with fail
  have HW1 := Lib.hid (show RtAt ((w.alloc (.cells (rtc r).toArray 53)).drew) w.heap.size r ∧ Below w.heap.size w ((w.alloc (.cells (rtc r).toArray 53)).drew) from ⟨H1.out, HB1.out⟩)
  clear H1 HB1
  generalize (w.alloc (.cells (rtc r).toArray 53)).drew = W1 at *
  go_cut [5, 6] (fun s5 s6 wx => CutA w r s5 s6 wx)
  case first =>
    refine wp_region_held_drew (S := fun W => RtAt W w.heap.size r ∧ Below w.heap.size w W) (by kernel_rfl) (⟨HW1.out.1.keep rfl, below_drewN HW1.out.2 1⟩) (fun hS => ?_)
    refine wpAnyH_take (i := 0) (oi := ⟨some 13, _, _, _, _, _⟩) (v := ?_) rfl (by kernel_rfl) (by kernel_rfl) (by kernel_rfl) (fun _ _ _ h => h) (Or.inl ⟨by rfl, ?_⟩) hS ?_
    rotate_left
    · intro wq hq
      first | (go_simp; done) | (go_simp; rfl)
    try simp only [Act.put, zP, zQ, zR]
    refine wpAnyH_take (i := 1) (oi := ⟨some 14, _, _, _, _, _⟩) (v := ?_) rfl (by kernel_rfl) (by kernel_rfl) (by kernel_rfl) (fun _ _ _ h => h) (Or.inl ⟨by rfl, ?_⟩) hS ?_
    rotate_left
    · intro wq hq
      have hc := hq.1.cTg HR.out
      first | (go_simp; done) | (go_simp; rfl)
    try simp only [Act.put, zP, zQ, zR]
    refine wpAnyH_take (i := 3) (oi := ⟨some 16, _, _, _, _, _⟩) (v := ?_) rfl (by kernel_rfl) (by kernel_rfl) (by kernel_rfl) (fun _ _ _ h => h) (Or.inl ⟨by rfl, ?_⟩) hS ?_
    rotate_left
    · intro wq hq
      first | (go_simp; done) | (go_simp; rfl)
    try simp only [Act.put, zP, zQ, zR]
    refine wpAnyH_take (i := 4) (oi := ⟨some 17, _, _, _, _, _⟩) (v := ?_) rfl (by kernel_rfl) (by kernel_rfl) (by kernel_rfl) (fun _ _ _ h => h) (Or.inl ⟨by rfl, ?_⟩) hS ?_
    rotate_left
    · intro wq hq
      have hc := hq.1.cLb HR.out
      first | (go_simp; done) | (go_simp; rfl)
    try simp only [Act.put, zP, zQ, zR]
    refine wpAnyH_ready (rs := [2]) (by kernel_rfl) (by simp) ?_
    refine AllReadyH.cons (o := ⟨some 15, _, _, _, _, _⟩) rfl (fun K hK => ?_) AllReadyH.nil
    rw [if_pos (by rfl)]
    go_wp2_with fail
    refine (HN4.out _).mono ?_
    rintro e w2 ⟨A5, c5, rfl, hr5, hB5⟩
    have hS2 : RtAt w2 w.heap.size r ∧ Below w.heap.size w w2 := ⟨hS.1.below hB5 hS.1.lt, hS.2.trans (hB5.mono hS.2.size)⟩
    refine hK.out _ _ (hS2) (fun hS => ?_)
    clear hK K
    try simp only [Act.put, zP, zQ, zR]
    refine wpAnyH_ready (rs := [5]) (by kernel_rfl) (by simp) ?_
    refine AllReadyH.cons (o := ⟨some 18, _, _, _, _, _⟩) rfl (fun K hK => ?_) AllReadyH.nil
    rw [if_pos (by rfl)]
    go_wp2_with fail
    refine (HN3.out _).mono ?_
    rintro e w3 ⟨A6, c6, rfl, hr6, hB6⟩
    have hS3 : RtAt w3 w.heap.size r ∧ Below w.heap.size w w3 := ⟨hS.1.below hB6 hS.1.lt, hS.2.trans (hB6.mono hS.2.size)⟩
    refine hK.out _ _ (hS3) (fun hS => ?_)
    clear hK K
    try simp only [Act.put, zP, zQ, zR]
    refine wpAnyH_take (i := 6) (oi := ⟨some 5, _, _, _, _, _⟩) (v := ?_) rfl (by kernel_rfl) (by kernel_rfl) (by kernel_rfl) (fun _ _ _ h => h) (Or.inl ⟨by rfl, ?_⟩) hS ?_
    rotate_left
    · intro wq hq
      first | (go_simp; done) | (go_simp; rfl)
    try simp only [Act.put, zP, zQ, zR]
    refine wpAnyH_take (i := 7) (oi := ⟨some 6, _, _, _, _, _⟩) (v := ?_) rfl (by kernel_rfl) (by kernel_rfl) (by kernel_rfl) (fun _ _ _ h => h) (Or.inl ⟨by rfl, ?_⟩) hS ?_
    rotate_left
    · intro wq hq
      first | (go_simp; done) | (go_simp; rfl)
    try simp only [Act.put, zP, zQ, zR]
    refine wpAnyH_done (by kernel_rfl) ?_ _
    go_wp2_with fail
    go_meet
    exact ⟨A5, c5, A6, c6, rfl, rfl, hS3.1, hS3.2, (hr5.below hB6).more hB6.size, hr6⟩
  case rest =>
    obtain ⟨A5, c5, A6, c6, rfl, rfl, hA⟩ := hcut
    have HA := Lib.hid (show BdA w wc.drew r A5 A6 from hA.below (below_drew wc))
    clear hA
    go_wp2_with fail
    go_cut [7, 8] (fun s7 s8 wx => CutB w r A5 A6 s7 s8 wx)
    case first =>
      refine wp_region_held_drew (S := fun W => BdA w W r A5 A6) (by kernel_rfl) (HA.out) (fun hS => ?_)
      refine wpAnyH_take (i := 0) (oi := ⟨some 19, _, _, _, _, _⟩) (v := ?_) rfl (by kernel_rfl) (by kernel_rfl) (by kernel_rfl) (fun _ _ _ h => h) (Or.inl ⟨by rfl, ?_⟩) hS ?_
      rotate_left
      · intro wq hq
        first | (go_simp; done) | (go_simp; rfl)
      try simp only [Act.put, zP, zQ, zR]
      refine wpAnyH_take (i := 1) (oi := ⟨some 20, _, _, _, _, _⟩) (v := ?_) rfl (by kernel_rfl) (by kernel_rfl) (by kernel_rfl) (fun _ _ _ h => h) (Or.inl ⟨by rfl, ?_⟩) hS ?_
      rotate_left
      · intro wq hq
        first | (go_simp; done) | (go_simp; rfl)
      try simp only [Act.put, zP, zQ, zR]
      refine wpAnyH_take (i := 2) (oi := ⟨some 21, _, _, _, _, _⟩) (v := ?_) rfl (by kernel_rfl) (by kernel_rfl) (by kernel_rfl) (fun _ _ _ h => h) (Or.inl ⟨by rfl, ?_⟩) hS ?_
      rotate_left
      · intro wq hq
        have hc := hq.src.cPn HR.out
        first | (go_simp; done) | (go_simp; rfl)
      try simp only [Act.put, zP, zQ, zR]
      refine wpAnyH_take (i := 3) (oi := ⟨some 22, _, _, _, _, _⟩) (v := ?_) rfl (by kernel_rfl) (by kernel_rfl) (by kernel_rfl) (fun _ _ _ h => h) (Or.inl ⟨by rfl, ?_⟩) hS ?_
      rotate_left
      · intro wq hq
        first | (go_simp; done) | (go_simp; rfl)
      try simp only [Act.put, zP, zQ, zR]
      refine wpAnyH_take (i := 5) (oi := ⟨some 24, _, _, _, _, _⟩) (v := ?_) rfl (by kernel_rfl) (by kernel_rfl) (by kernel_rfl) (fun _ _ _ h => h) (Or.inl ⟨by rfl, ?_⟩) hS ?_
      rotate_left
      · intro wq hq
        first | (go_simp; done) | (go_simp; rfl)
      try simp only [Act.put, zP, zQ, zR]
      refine wpAnyH_take (i := 6) (oi := ⟨some 25, _, _, _, _, _⟩) (v := ?_) rfl (by kernel_rfl) (by kernel_rfl) (by kernel_rfl) (fun _ _ _ h => h) (Or.inl ⟨by rfl, ?_⟩) hS ?_
      rotate_left
      · intro wq hq
        first | (go_simp; done) | (go_simp; rfl)
      try simp only [Act.put, zP, zQ, zR]
      refine wpAnyH_take (i := 7) (oi := ⟨some 26, _, _, _, _, _⟩) rfl (by kernel_rfl) (by kernel_rfl) (by kernel_rfl) (fun _ _ _ h => h) (yieldsIf_load_mid (by rfl) 27 _ rfl _ _ rfl (ipc r.v6 r.pl) _ (fun wq hq => hq.src.rIp HR.out) Tryz.underlying27 rfl (sz_ip HR.out)) hS ?_
      try simp only [Act.put, zP, zQ, zR]
      refine wpAnyH_ready (rs := [4, 8]) (by kernel_rfl) (by simp) ?_
      refine AllReadyH.cons (o := ⟨some 23, _, _, _, _, _⟩) rfl (fun K hK => ?_) (AllReadyH.cons (o := ⟨some 27, _, _, _, _, _⟩) rfl (fun K hK => ?_) AllReadyH.nil)
      · rw [if_pos (by rfl)]
        go_wp2
        have h7 := byt1_rd wc.drew (r.pn % 256) (Int.emod_nonneg _ (by decide)) (Int.emod_lt_of_pos _ (by decide))
        have hS2 := hS.below (below_one wc.drew (.cells #[.int .u8 (r.pn % 256)] 5))
        refine hK.out _ _ (hS2) (fun hS => ?_)
        clear hK K
        try simp only [Act.put, zP, zQ, zR]
        refine wpAnyH_ready (rs := [8]) (by kernel_rfl) (by simp) ?_
        refine AllReadyH.cons (o := ⟨some 27, _, _, _, _, _⟩) rfl (fun K hK => ?_) AllReadyH.nil
        rw [if_pos (by rfl)]
        go_wp2_with fail
        refine (HAd.out _).mono ?_
        rintro e w3 ⟨A8, rfl, hr8, hB8⟩
        have hS3 := hS.below hB8
        refine hK.out _ _ (hS3) (fun hS => ?_)
        clear hK K
        try simp only [Act.put, zP, zQ, zR]
        refine wpAnyH_take (i := 9) (oi := ⟨some 7, _, _, _, _, _⟩) (v := ?_) rfl (by kernel_rfl) (by kernel_rfl) (by kernel_rfl) (fun _ _ _ h => h) (Or.inl ⟨by rfl, ?_⟩) hS ?_
        rotate_left
        · intro wq hq
          first | (go_simp; done) | (go_simp; rfl)
        try simp only [Act.put, zP, zQ, zR]
        refine wpAnyH_take (i := 10) (oi := ⟨some 8, _, _, _, _, _⟩) (v := ?_) rfl (by kernel_rfl) (by kernel_rfl) (by kernel_rfl) (fun _ _ _ h => h) (Or.inl ⟨by rfl, ?_⟩) hS ?_
        rotate_left
        · intro wq hq
          first | (go_simp; done) | (go_simp; rfl)
        try simp only [Act.put, zP, zQ, zR]
        refine wpAnyH_done (by kernel_rfl) ?_ _
        go_wp2_with fail
        go_meet
        exact ⟨_, _, A8, rfl, rfl, hS3, (h7.below hB8).more hB8.size, hr8⟩
      · rw [if_pos (by rfl)]
        go_wp2_with fail
        refine (HAd.out _).mono ?_
        rintro e w2 ⟨A8, rfl, hr8, hB8⟩
        have hS2 := hS.below hB8
        refine hK.out _ _ (hS2) (fun hS => ?_)
        clear hK K
        try simp only [Act.put, zP, zQ, zR]
        refine wpAnyH_ready (rs := [4]) (by kernel_rfl) (by simp) ?_
        refine AllReadyH.cons (o := ⟨some 23, _, _, _, _, _⟩) rfl (fun K hK => ?_) AllReadyH.nil
        rw [if_pos (by rfl)]
        go_wp2
        have h7 := byt1_rd w2 (r.pn % 256) (Int.emod_nonneg _ (by decide)) (Int.emod_lt_of_pos _ (by decide))
        have hb1 := below_one w2 (.cells #[.int .u8 (r.pn % 256)] 5)
        have hS3 := hS.below hb1
        refine hK.out _ _ (hS3) (fun hS => ?_)
        clear hK K
        try simp only [Act.put, zP, zQ, zR]
        refine wpAnyH_take (i := 9) (oi := ⟨some 7, _, _, _, _, _⟩) (v := ?_) rfl (by kernel_rfl) (by kernel_rfl) (by kernel_rfl) (fun _ _ _ h => h) (Or.inl ⟨by rfl, ?_⟩) hS ?_
        rotate_left
        · intro wq hq
          first | (go_simp; done) | (go_simp; rfl)
        try simp only [Act.put, zP, zQ, zR]
        refine wpAnyH_take (i := 10) (oi := ⟨some 8, _, _, _, _, _⟩) (v := ?_) rfl (by kernel_rfl) (by kernel_rfl) (by kernel_rfl) (fun _ _ _ h => h) (Or.inl ⟨by rfl, ?_⟩) hS ?_
        rotate_left
        · intro wq hq
          first | (go_simp; done) | (go_simp; rfl)
        try simp only [Act.put, zP, zQ, zR]
        refine wpAnyH_done (by kernel_rfl) ?_ _
        go_wp2_with fail
        go_meet
        exact ⟨_, _, A8, rfl, rfl, hS3, h7, (hr8.below hb1).more hb1.size⟩
    case rest =>
      obtain ⟨A7, c7, A8, rfl, rfl, hB⟩ := hcut
      have cK := hB.src.cK
      have HBd := Lib.hid hB
      clear hB
      go_wp2_with fail
      refine wp_region_held_drew (S := fun W => BdB w W r A5 A6 A7 A8) (by kernel_rfl) (HBd.out.below (below_drew wc)) (fun hS => ?_)
      refine wpAnyH_take (i := 0) (oi := ⟨some 40, _, _, _, _, _⟩) (v := ?_) rfl (by kernel_rfl) (by kernel_rfl) (by kernel_rfl) (fun _ _ _ h => h) (Or.inl ⟨by rfl, ?_⟩) hS ?_
      rotate_left
      · intro wq hq
        first | (go_simp; done) | (go_simp; rfl)
      try simp only [Act.put, zP, zQ, zR]
      refine wpAnyH_take (i := 1) (oi := ⟨some 41, _, _, _, _, _⟩) (v := ?_) rfl (by kernel_rfl) (by kernel_rfl) (by kernel_rfl) (fun _ _ _ h => h) (Or.inl ⟨by rfl, ?_⟩) hS ?_
      rotate_left
      · intro wq hq
        first | (go_simp; done) | (go_simp; rfl)
      try simp only [Act.put, zP, zQ, zR]
      refine wpAnyH_take (i := 2) (oi := ⟨some 42, _, _, _, _, _⟩) (v := ?_) rfl (by kernel_rfl) (by kernel_rfl) (by kernel_rfl) (fun _ _ _ h => h) (Or.inl ⟨by rfl, ?_⟩) hS ?_
      rotate_left
      · intro wq hq
        first | (go_simp; done) | (go_simp; rfl)
      try simp only [Act.put, zP, zQ, zR]
      refine wpAnyH_take (i := 4) (oi := ⟨some 44, _, _, _, _, _⟩) (v := ?_) rfl (by kernel_rfl) (by kernel_rfl) (by kernel_rfl) (fun _ _ _ h => h) (Or.inl ⟨by rfl, ?_⟩) hS ?_
      rotate_left
      · intro wq hq
        first | (go_simp; done) | (go_simp; rfl)
      try simp only [Act.put, zP, zQ, zR]
      refine wpAnyH_take (i := 5) (oi := ⟨some 45, _, _, _, _, _⟩) (v := ?_) rfl (by kernel_rfl) (by kernel_rfl) (by kernel_rfl) (fun _ _ _ h => h) (Or.inl ⟨by rfl, ?_⟩) hS ?_
      rotate_left
      · intro wq hq
        first | (go_simp; done) | (go_simp; rfl)
      try simp only [Act.put, zP, zQ, zR]
      refine wpAnyH_take (i := 6) (oi := ⟨some 46, _, _, _, _, _⟩) (v := ?_) rfl (by kernel_rfl) (by kernel_rfl) (by kernel_rfl) (fun _ _ _ h => h) (Or.inl ⟨by rfl, ?_⟩) hS ?_
      rotate_left
      · intro wq hq
        first | (go_simp; done) | (go_simp; rfl)
      try simp only [Act.put, zP, zQ, zR]
      refine wpAnyH_take (i := 7) (oi := ⟨some 47, _, _, _, _, _⟩) (v := ?_) rfl (by kernel_rfl) (by kernel_rfl) (by kernel_rfl) (fun _ _ _ h => h) (Or.inl ⟨by rfl, ?_⟩) hS ?_
      rotate_left
      · intro wq hq
        first | (go_simp; done) | (go_simp; rfl)
      try simp only [Act.put, zP, zQ, zR]
      refine wpAnyH_take (i := 8) (oi := ⟨some 48, _, _, _, _, _⟩) (v := ?_) rfl (by kernel_rfl) (by kernel_rfl) (by kernel_rfl) (fun _ _ _ h => h) (Or.inl ⟨by rfl, ?_⟩) hS ?_
      rotate_left
      · intro wq hq
        first | (go_simp; done) | (go_simp; rfl)
      try simp only [Act.put, zP, zQ, zR]
      refine wpAnyH_take (i := 9) (oi := ⟨some 49, _, _, _, _, _⟩) (v := ?_) rfl (by kernel_rfl) (by kernel_rfl) (by kernel_rfl) (fun _ _ _ h => h) (Or.inl ⟨by rfl, ?_⟩) hS ?_
      rotate_left
      · intro wq hq
        first | (go_simp; done) | (go_simp; rfl)
      try simp only [Act.put, zP, zQ, zR]
      refine wpAnyH_take (i := 10) (oi := ⟨some 50, _, _, _, _, _⟩) (v := ?_) rfl (by kernel_rfl) (by kernel_rfl) (by kernel_rfl) (fun _ _ _ h => h) (Or.inl ⟨by rfl, ?_⟩) hS ?_
      rotate_left
      · intro wq hq
        have hc := hq.src.cPn HR.out; rw [HPN.out] at hc
        first | (go_simp; done) | (go_simp; rfl)
      try simp only [Act.put, zP, zQ, zR]
      refine wpAnyH_take (i := 11) (oi := ⟨some 51, _, _, _, _, _⟩) (v := ?_) rfl (by kernel_rfl) (by kernel_rfl) (by kernel_rfl) (fun _ _ _ h => h) (Or.inl ⟨by rfl, ?_⟩) hS ?_
      rotate_left
      · intro wq hq
        first | (go_simp; done) | (go_simp; rfl)
      try simp only [Act.put, zP, zQ, zR]
      refine wpAnyH_take (i := 12) (oi := ⟨some 52, _, _, _, _, _⟩) (v := ?_) rfl (by kernel_rfl) (by kernel_rfl) (by kernel_rfl) (fun _ _ _ h => h) (Or.inl ⟨by rfl, ?_⟩) hS ?_
      rotate_left
      · intro wq hq
        first | (go_simp; done) | (go_simp; rfl)
      try simp only [Act.put, zP, zQ, zR]
      refine wpAnyH_take (i := 13) (oi := ⟨some 53, _, _, _, _, _⟩) (v := ?_) rfl (by kernel_rfl) (by kernel_rfl) (by kernel_rfl) (fun _ _ _ h => h) (Or.inl ⟨by rfl, ?_⟩) hS ?_
      rotate_left
      · intro wq hq
        first | (go_simp; done) | (go_simp; rfl)
      try simp only [Act.put, zP, zQ, zR]
      refine wpAnyH_take (i := 14) (oi := ⟨some 54, _, _, _, _, _⟩) (v := ?_) rfl (by kernel_rfl) (by kernel_rfl) (by kernel_rfl) (fun _ _ _ h => h) (Or.inl ⟨by rfl, ?_⟩) hS ?_
      rotate_left
      · intro wq hq
        first | (go_simp; done) | (go_simp; rfl)
      try simp only [Act.put, zP, zQ, zR]
      refine wpAnyH_take (i := 15) (oi := ⟨some 55, _, _, _, _, _⟩) (v := ?_) rfl (by kernel_rfl) (by kernel_rfl) (by kernel_rfl) (fun _ _ _ h => h) (Or.inl ⟨by rfl, ?_⟩) hS ?_
      rotate_left
      · intro wq hq
        have hc := hq.src.cL2 HR.out
        first | (go_simp; done) | (go_simp; rfl)
      try simp only [Act.put, zP, zQ, zR]
      clear HBd
      generalize wc.drew = wd at *
      refine wpAnyH_ready (rs := [3, 16]) (by kernel_rfl) (by simp) ?_
      refine AllReadyH.cons (o := ⟨some 43, _, _, _, _, _⟩) rfl (fun K hK => ?_) (AllReadyH.cons (o := ⟨some 56, _, _, _, _, _⟩) rfl (fun K hK => ?_) AllReadyH.nil)
      · rw [if_pos (by rfl)]
        go_wp2
        have h48a := byt1_rd wd 48 (by omega) (by omega)
        have hS7 := hS.below (below_one wd (.cells #[.int .u8 48] 5))
        refine hK.out _ _ (hS7) (fun hS => ?_)
        clear hK K
        try simp only [Act.put, zP, zQ, zR]
        refine wpAnyH_ready (rs := [16]) (by kernel_rfl) (by simp) ?_
        refine AllReadyH.cons (o := ⟨some 56, _, _, _, _, _⟩) rfl (fun K hK => ?_) AllReadyH.nil
        rw [if_pos (by rfl)]
        go_wp2_with fail
        refine (HSc.out _).mono ?_
        rintro e w8 ⟨A10, c10, rfl, _, hr10, hB10⟩
        have hS9 := hS7.below hB10
        have h48 := (h48a.below hB10).more hB10.size
        refine hK.out _ _ (hS9) (fun hS => ?_)
        clear hK K
        try simp only [Act.put, zP, zQ, zR]
        have HL : Hid (RdL (w8.alloc (.cells #[.slice (some ⟨w.heap.size, 1, none⟩) 8 8, .slice (some ⟨w.heap.size, 9, none⟩) 10 10, .slice A5 4 c5, .slice (some ⟨wd.heap.size, 0, none⟩) 1 1, .slice (some ⟨w.heap.size, 20, none⟩) 6 6, .slice A7 1 c7, .slice A8 16 16, .slice A6 3 c6, .slice A10 (sec r.l2).length c10] 38)) (w8.alloc (.cells #[.slice (some ⟨w.heap.size, 1, none⟩) 8 8, .slice (some ⟨w.heap.size, 9, none⟩) 10 10, .slice A5 4 c5, .slice (some ⟨wd.heap.size, 0, none⟩) 1 1, .slice (some ⟨w.heap.size, 20, none⟩) 6 6, .slice A7 1 c7, .slice A8 16 16, .slice A6 3 c6, .slice A10 (sec r.l2).length c10] 38)).heap.size (some ⟨w8.heap.size, 0, none⟩) 9 [r.rd, r.es, be 4 r.tg, [48], r.mc, [r.pn % 256], r.pl.take 16, be 3 r.lb, sec r.l2]) := Lib.hid (rdl_new_at (W := w8) (vs := [(some ⟨w.heap.size, 1, none⟩, 8, 8), (some ⟨w.heap.size, 9, none⟩, 10, 10), (A5, 4, c5), (some ⟨wd.heap.size, 0, none⟩, 1, 1), (some ⟨w.heap.size, 20, none⟩, 6, 6), (A7, 1, c7), (A8, 16, 16), (A6, 3, c6), (A10, (sec r.l2).length, c10)]) (ls := [r.rd, r.es, be 4 r.tg, [48], r.mc, [r.pn % 256], r.pl.take 16, be 3 r.lb, sec r.l2]) ⟨hS9.src.sRd HR.out hS9.src.lt, hS9.src.sEs HR.out hS9.src.lt, hS9.r5, h48, hS9.src.sMc HR.out hS9.src.lt, hS9.r7, HCut.out _ _ hS9.r8, hS9.r6, hr10, trivial⟩ 38 _ rfl _ (by simp))
        have hlow := hS9.low
        refine wpAnyH_ready (rs := [17]) (by kernel_rfl) (by simp) ?_
        refine AllReadyH.cons (o := ⟨some 57, _, _, _, _, _⟩) rfl (fun K hK => ?_) AllReadyH.nil
        rw [if_pos (by rfl)]
        go_wp2
        have hS10 := hS9.below (below_one w8 (.cells #[.slice (some ⟨w.heap.size, 1, none⟩) 8 8, .slice (some ⟨w.heap.size, 9, none⟩) 10 10, .slice A5 4 c5, .slice (some ⟨wd.heap.size, 0, none⟩) 1 1, .slice (some ⟨w.heap.size, 20, none⟩) 6 6, .slice A7 1 c7, .slice A8 16 16, .slice A6 3 c6, .slice A10 (sec r.l2).length c10] 38))
        refine hK.out _ _ (hS10) (fun hS => ?_)
        clear hK K
        try simp only [Act.put, zP, zQ, zR]
        refine wpAnyH_ready (rs := [18]) (by kernel_rfl) (by simp) ?_
        refine AllReadyH.cons (o := ⟨some 58, _, _, _, _, _⟩) rfl (fun K hK => ?_) AllReadyH.nil
        rw [if_pos (by rfl)]
        go_wp2_with fail
        refine (concat_is _ _ 9 9 _ HL.out (by omega) (by rw [HF.out]; exact HLen.out)).mono ?_
        rintro e w9 ⟨v, rfl, hO, hB9⟩
        have hS11 := hS10.below hB9
        have HEnd := Lib.hid (show OwnB w.heap.size w9 v (bodyR r) ∧ Below w.heap.size w w9 from ⟨by rw [← HF.out]; exact hO.low (by have := hlow.size; simp at this ⊢; omega), hS11.low⟩)
        refine hK.out _ _ (hS11) (fun hS => ?_)
        clear hK K
        try simp only [Act.put, zP, zQ, zR]
        refine wpAnyH_take (i := 19) (oi := ⟨some 2, _, _, _, _, _⟩) (v := ?_) rfl (by kernel_rfl) (by kernel_rfl) (by kernel_rfl) (fun _ _ _ h => h) (Or.inl ⟨by rfl, ?_⟩) hS ?_
        rotate_left
        · intro wq hq
          first | (go_simp; done) | (go_simp; rfl)
        try simp only [Act.put, zP, zQ, zR]
        refine wpAnyH_done (by kernel_rfl) ?_ _
        clear hS hS9 hS10 hS11 hO hB9 HL
        go_wp2
        go_ret
        exact ⟨v, rfl, HEnd.out.1, HEnd.out.2⟩
      · rw [if_pos (by rfl)]
        go_wp2_with fail
        refine (HSc.out _).mono ?_
        rintro e w8 ⟨A10, c10, rfl, _, hr10a, hB10⟩
        have hS8 := hS.below hB10
        refine hK.out _ _ (hS8) (fun hS => ?_)
        clear hK K
        try simp only [Act.put, zP, zQ, zR]
        refine wpAnyH_ready (rs := [3]) (by kernel_rfl) (by simp) ?_
        refine AllReadyH.cons (o := ⟨some 43, _, _, _, _, _⟩) rfl (fun K hK => ?_) AllReadyH.nil
        rw [if_pos (by rfl)]
        go_wp2
        have h48 := byt1_rd w8 48 (by omega) (by omega)
        have hb1 := below_one w8 (.cells #[.int .u8 48] 5)
        have hS9 := hS8.below hb1
        have hr10 := (hr10a.below hb1).more hb1.size
        refine hK.out _ _ (hS9) (fun hS => ?_)
        clear hK K
        try simp only [Act.put, zP, zQ, zR]
        have HL : Hid (RdL ((w8.alloc (.cells #[.int .u8 48] 5)).alloc (.cells #[.slice (some ⟨w.heap.size, 1, none⟩) 8 8, .slice (some ⟨w.heap.size, 9, none⟩) 10 10, .slice A5 4 c5, .slice (some ⟨w8.heap.size, 0, none⟩) 1 1, .slice (some ⟨w.heap.size, 20, none⟩) 6 6, .slice A7 1 c7, .slice A8 16 16, .slice A6 3 c6, .slice A10 (sec r.l2).length c10] 38)) ((w8.alloc (.cells #[.int .u8 48] 5)).alloc (.cells #[.slice (some ⟨w.heap.size, 1, none⟩) 8 8, .slice (some ⟨w.heap.size, 9, none⟩) 10 10, .slice A5 4 c5, .slice (some ⟨w8.heap.size, 0, none⟩) 1 1, .slice (some ⟨w.heap.size, 20, none⟩) 6 6, .slice A7 1 c7, .slice A8 16 16, .slice A6 3 c6, .slice A10 (sec r.l2).length c10] 38)).heap.size (some ⟨w8.heap.size + 1, 0, none⟩) 9 [r.rd, r.es, be 4 r.tg, [48], r.mc, [r.pn % 256], r.pl.take 16, be 3 r.lb, sec r.l2]) := Lib.hid (rdl_new_at (W := (w8.alloc (.cells #[.int .u8 48] 5))) (vs := [(some ⟨w.heap.size, 1, none⟩, 8, 8), (some ⟨w.heap.size, 9, none⟩, 10, 10), (A5, 4, c5), (some ⟨w8.heap.size, 0, none⟩, 1, 1), (some ⟨w.heap.size, 20, none⟩, 6, 6), (A7, 1, c7), (A8, 16, 16), (A6, 3, c6), (A10, (sec r.l2).length, c10)]) (ls := [r.rd, r.es, be 4 r.tg, [48], r.mc, [r.pn % 256], r.pl.take 16, be 3 r.lb, sec r.l2]) ⟨hS9.src.sRd HR.out hS9.src.lt, hS9.src.sEs HR.out hS9.src.lt, hS9.r5, h48, hS9.src.sMc HR.out hS9.src.lt, hS9.r7, HCut.out _ _ hS9.r8, hS9.r6, hr10, trivial⟩ 38 _ rfl _ (by simp))
        have hlow := hS9.low
        refine wpAnyH_ready (rs := [17]) (by kernel_rfl) (by simp) ?_
        refine AllReadyH.cons (o := ⟨some 57, _, _, _, _, _⟩) rfl (fun K hK => ?_) AllReadyH.nil
        rw [if_pos (by rfl)]
        go_wp2
        have hS10 := hS9.below (below_one (w8.alloc (.cells #[.int .u8 48] 5)) (.cells #[.slice (some ⟨w.heap.size, 1, none⟩) 8 8, .slice (some ⟨w.heap.size, 9, none⟩) 10 10, .slice A5 4 c5, .slice (some ⟨w8.heap.size, 0, none⟩) 1 1, .slice (some ⟨w.heap.size, 20, none⟩) 6 6, .slice A7 1 c7, .slice A8 16 16, .slice A6 3 c6, .slice A10 (sec r.l2).length c10] 38))
        refine hK.out _ _ (hS10) (fun hS => ?_)
        clear hK K
        try simp only [Act.put, zP, zQ, zR]
        refine wpAnyH_ready (rs := [18]) (by kernel_rfl) (by simp) ?_
        refine AllReadyH.cons (o := ⟨some 58, _, _, _, _, _⟩) rfl (fun K hK => ?_) AllReadyH.nil
        rw [if_pos (by rfl)]
        go_wp2_with fail
        refine (concat_is _ _ 9 9 _ HL.out (by omega) (by rw [HF.out]; exact HLen.out)).mono ?_
        rintro e w9 ⟨v, rfl, hO, hB9⟩
        have hS11 := hS10.below hB9
        have HEnd := Lib.hid (show OwnB w.heap.size w9 v (bodyR r) ∧ Below w.heap.size w w9 from ⟨by rw [← HF.out]; exact hO.low (by have := hlow.size; simp at this ⊢; omega), hS11.low⟩)
        refine hK.out _ _ (hS11) (fun hS => ?_)
        clear hK K
        try simp only [Act.put, zP, zQ, zR]
        refine wpAnyH_take (i := 19) (oi := ⟨some 2, _, _, _, _, _⟩) (v := ?_) rfl (by kernel_rfl) (by kernel_rfl) (by kernel_rfl) (fun _ _ _ h => h) (Or.inl ⟨by rfl, ?_⟩) hS ?_
        rotate_left
        · intro wq hq
          first | (go_simp; done) | (go_simp; rfl)
        try simp only [Act.put, zP, zQ, zR]
        refine wpAnyH_done (by kernel_rfl) ?_ _
        clear hS hS9 hS10 hS11 hO hB9 HL
        go_wp2
        go_ret
        exact ⟨v, rfl, HEnd.out.1, HEnd.out.2⟩

end Go.Proofs.YtdgoeibfggjbmaaGreatDoor
namespace Go.Proofs.YtdgoeibfggjbmaaGreatDoor
open Go.RowKit
set_option maxRecDepth 100000
set_option linter.unusedSimpArgs false
set_option linter.unusedVariables false

def BodyPost (w : World) (r : Rt) (e : Ending) (w' : World) : Prop := ∃ v, e = .returned v ∧ OwnB w.heap.size w' v (bodyR r) ∧ Below w.heap.size w w'
theorem body_is (w : World) (r : Rt) (hr : RtOk r) (hf : RightF r) : Calls Tryz.prog 196 #[.agg (rtc r).toArray] w (BodyPost w r) := by
  have hk := hf.k
  have : r.k = 1 ∨ r.k = 2 ∨ r.k = 3 ∨ r.k = 4 ∨ r.k = 5 := by omega
  rcases this with e | e | e | e | e
  · exact body_1 w r hr hf e
  · rcases hf.two e with ⟨hp, hv⟩ | ⟨hp, hv⟩ | ⟨hp, hv⟩
    · exact body_2_0 w r hr hf e hp (by omega)
    · exact body_2_32 w r hr hf e hp (by rw [hv]; simp [nb])
    · exact body_2_128 w r hr hf e hp (by rw [hv]; simp [nb])
  · exact body_3 w r hr hf e
  · exact body_4 w r hr hf e
  · exact body_5 w r hr hf e
theorem sec_le (n : Int) : (sec n).length ≤ 3 := by unfold sec; split <;> simp [be_len]
theorem bodyR_le {r : Rt} (hr : RtOk r) : (bodyR r).length ≤ 100 := by
  have h1 := sec_le r.l2
  have h2 : nb r.v6 ≤ 16 := nb_le16 _
  have h3 : nb r.gv ≤ 16 := nb_le16 _
  unfold bodyR
  repeat' split
  all_goals (simp [be_len, hr.rd, hr.es, hr.mc, hr.pl, hr.gl]; try omega)
theorem byt2_rd (W : World) (x y : Int) (h : Oct [x, y]) : Rd (W.alloc (.cells #[.int .u8 x, .int .u8 y] 5)) (W.alloc (.cells #[.int .u8 x, .int .u8 y] 5)).heap.size (some ⟨W.heap.size, 0, none⟩) 2 [x, y] := by
  have hb : Byt (W.alloc (.cells #[.int .u8 x, .int .u8 y] 5)) W.heap.size 5 [x, y] := Blk.new W 5 #[.int .u8 x, .int .u8 y]
  exact hb.rd_all h (by simp)

def putR (r : Rt) : List Int := r.k :: ((bodyR r).length : Int) :: bodyR r
def PutPost (w : World) (l : List Int) (r : Rt) (e : Ending) (w' : World) : Prop := ∃ v, e = .returned (.tuple #[v, .int .i64 (errR r)]) ∧ OwnB w.heap.size w' v (if rightR r then l ++ putR r else []) ∧ Below w.heap.size w w'
set_option maxHeartbeats 400000 in
set_option maxRecDepth 100000 in
theorem putNl_is (w : World) (A : Option Addr) (m c : Nat) (l : List Int) (r : Rt) (hr : RtOk r) (hb : Rd w w.heap.size A m l) (hm : m ≤ 140737488355200) : Calls Tryz.prog 151 #[.slice A m c, .agg (rtc r).toArray] w (PutPost w l r) := by
  have HR := Lib.hid hr
  have H1 := Lib.hid (RtAt.new w r hr 53)
  have HB1 := Lib.hid ((Below.refl w.heap.size w).alloc (Nat.le_refl _) (.cells (rtc r).toArray 53))
  have HL := Lib.hid hb
  have hlen := hb.len
  have HRi := Lib.hid (fun W => rightRt_is W r hr)
  clear hb hr
  cases hrr : rightR r
  · have HE : Hid (errR r = 2) := Lib.hid (by unfold errR; rw [hrr]; rfl)
    go_enter Tryz.func151, Tryz.ntmps151
    go_wp2_with (first | (refine rt_fetch rfl _ rfl w.heap.size r HR.out rfl H1.out ?_) | fail)
    refine (HRi.out _).mono ?_
    rintro e w2 ⟨rfl, hB⟩
    have HB2 := Lib.hid (HB1.out.trans (hB.mono HB1.out.size))
    clear hB
    rw [HE.out]
    go_wp2
    go_ret2
    exact ⟨_, by rw [HE.out]; rfl, by rw [hrr]; exact OwnB.nil_ _ _, HB2.out⟩
  · have HE : Hid (errR r = 0) := Lib.hid (by unfold errR; rw [hrr]; rfl)
    have hf := rightF HR.out hrr
    have HF := Lib.hid hf
    have hk := hf.k
    obtain ⟨hk1, hk5⟩ := hk
    have HBd := Lib.hid (fun W => body_is W r HR.out hf)
    have hble := bodyR_le HR.out
    clear hf
    go_enter Tryz.func151, Tryz.ntmps151
    go_wp2_with (first | (refine rt_fetch rfl _ rfl w.heap.size r HR.out rfl H1.out ?_) | fail)
    refine (HRi.out _).mono ?_
    rintro e w2 ⟨rfl, hB⟩
    have HB2 := Lib.hid (HB1.out.trans (hB.mono HB1.out.size))
    have H2 := Lib.hid (H1.out.below hB H1.out.lt)
    clear hB HB1 H1
    rw [HE.out]
    go_wp2_with (first | (refine rt_fetch rfl _ rfl w.heap.size r HR.out rfl H2.out ?_) | fail)
    refine (HBd.out _).mono ?_
    rintro e w3 ⟨v, rfl, hO, hB⟩
    have HB3 := Lib.hid (HB2.out.trans (hB.mono HB2.out.size))
    have H3 := Lib.hid (H2.out.below hB H2.out.lt)
    have hck := H3.out.cK
    obtain ⟨A3, c3, rfl, hc3, hr3, _⟩ := hO.at_
    have HR3 := Lib.hid hr3
    have HP : Hid (putR r = [r.k, ((bodyR r).length : Int)] ++ bodyR r) := Lib.hid rfl
    clear hB HB2 H2 hO hr3 HBd
    generalize hbr : bodyR r = bd at *
    generalize r.k = k at *
    have HL3 := Lib.hid ((HL.out.below HB3.out).more HB3.out.size)
    have hb2 := byt2_rd w3 k bd.length (fun y hy => by
      simp only [List.mem_cons, List.mem_nil_iff, or_false] at hy
      rcases hy with rfl | rfl <;> omega)
    have HLd : Hid (RdL ((w3.alloc (.cells #[.int .u8 k, .int .u8 (bd.length : Int)] 5)).alloc (.cells #[.slice A m c, .slice (some ⟨w3.heap.size, 0, none⟩) 2 2, .slice A3 bd.length c3] 38)) ((w3.alloc (.cells #[.int .u8 k, .int .u8 (bd.length : Int)] 5)).alloc (.cells #[.slice A m c, .slice (some ⟨w3.heap.size, 0, none⟩) 2 2, .slice A3 bd.length c3] 38)).heap.size (some ⟨w3.heap.size + 1, 0, none⟩) 3 [l, [k, (bd.length : Int)], bd]) := Lib.hid (rdl_new_at (W := w3.alloc (.cells #[.int .u8 k, .int .u8 (bd.length : Int)] 5)) (vs := [(A, m, c), (some ⟨w3.heap.size, 0, none⟩, 2, 2), (A3, bd.length, c3)]) (ls := [l, [k, (bd.length : Int)], bd]) ⟨(HL3.out.below (below_one _ _)).more (below_one _ _).size, hb2, (HR3.out.below (below_one _ _)).more (below_one _ _).size, trivial⟩ 38 _ rfl _ (by simp))
    have hs3 := HB3.out.size
    have h256 : (bd.length : Int) < 256 := by omega
    have h255 : (0 : Int) ≤ (bd.length : Int) := by omega
    clear hb2
    go_wp2_with fail
    refine (concat_is _ _ 3 3 _ HLd.out (by omega) (by simp; omega)).mono ?_
    rintro e w9 ⟨v, rfl, hO, hB9⟩
    have hfl : ([l, [k, (bd.length : Int)], bd] : List (List Int)).flatten = l ++ putR r := by rw [HP.out]; simp
    rw [hfl] at hO
    have HO := Lib.hid (hO.low (lo' := w.heap.size) (by simp; omega))
    have HB9 := Lib.hid ((HB3.out.trans (((below_one w3 (.cells #[.int .u8 k, .int .u8 (bd.length : Int)] 5)).trans (((below_one _ _).trans (hB9.mono (by simp))).mono (by simp))).mono hs3)))
    clear hO hB9 HLd
    go_wp2
    go_ret2
    exact ⟨v, by rw [HE.out]; rfl, by rw [hrr, if_pos rfl]; exact HO.out, HB9.out⟩
end Go.Proofs.YtdgoeibfggjbmaaGreatDoor
