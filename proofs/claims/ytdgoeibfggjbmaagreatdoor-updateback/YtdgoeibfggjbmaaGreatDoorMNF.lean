/-
  Put together: NlF.
-/
import Derived.Test.YtdgoeibfggjbmaaGreatDoorMNC
import Derived.Deep.CutRange
import Derived.Deep.DeepCutAuto
namespace Go.Proofs.YtdgoeibfggjbmaaGreatDoor
open Go.RowKit
set_option maxRecDepth 100000
set_option linter.unusedSimpArgs false
set_option linter.unusedVariables false

theorem rd_of_range {W : World} {b o B : Nat} {l : List Int} (h : W.rangeAt b o (u8s l)) (ho : Oct l) (hB : b < B) : Rd W B (some ⟨b, o, none⟩) l.length l :=
  ⟨rfl, ho, fun _ => ⟨b, o, rfl, hB, fun i hi => h i _ (by simp [List.getD, hi])⟩⟩
section
variable {W : World} {g B : Nat} {r : Rt} (h : RtAt W g r) (hr : RtOk r) (hB : g < B)
include h hr hB
theorem RtAt.sRd : Rd W B (some ⟨g, 1, none⟩) 8 r.rd := by have := rd_of_range h.rRd hr.ord hB; rwa [hr.rd] at this
theorem RtAt.sEs : Rd W B (some ⟨g, 9, none⟩) 10 r.es := by have := rd_of_range (h.rEs hr) hr.oes hB; rwa [hr.es] at this
theorem RtAt.sMc : Rd W B (some ⟨g, 20, none⟩) 6 r.mc := by have := rd_of_range (h.rMc hr) hr.omc hB; rwa [hr.mc] at this
end
theorem be4_fit {n : Int} (h : U32 n) : n < 256 ^ 4 := by have := h.2; omega

def bodyR (r : Rt) : List Int :=
  if r.k = 1 then r.rd ++ (r.es ++ (be 4 r.tg ++ be 3 r.lb))
  else if r.k = 2 then r.rd ++ (r.es ++ (be 4 r.tg ++ ([48] ++ (r.mc ++ ([r.pn % 256] ++ (r.pl.take (r.pn / 8).toNat ++ (be 3 r.lb ++ sec r.l2)))))))
  else if r.k = 3 then r.rd ++ (be 4 r.tg ++ ([r.pn % 256] ++ r.pl.take (nb r.v6)))
  else if r.k = 4 then r.rd ++ (r.es ++ ([r.pn % 256] ++ r.pl.take (nb r.v6)))
  else r.rd ++ (r.es ++ (be 4 r.tg ++ ([r.pn % 256] ++ (r.pl.take (nb r.v6) ++ (r.gl.take (nb r.gv) ++ be 3 r.lb)))))

structure BdA (w W : World) (r : Rt) (A5 A6 : Option Addr) : Prop where
  src : RtAt W w.heap.size r
  low : Below w.heap.size w W
  r5 : Rd W W.heap.size A5 4 (be 4 r.tg)
  r6 : Rd W W.heap.size A6 3 (be 3 r.lb)
structure BdB (w W : World) (r : Rt) (A5 A6 A7 A8 : Option Addr) : Prop extends BdA w W r A5 A6 where
  r7 : Rd W W.heap.size A7 1 [r.pn % 256]
  r8 : Rd W W.heap.size A8 (nb r.v6) (r.pl.take (nb r.v6))
section
variable {w W W' : World} {r : Rt} {A5 A6 A7 A8 : Option Addr}
theorem BdA.below (h : BdA w W r A5 A6) (hB : Below W.heap.size W W') : BdA w W' r A5 A6 := ⟨h.src.below hB h.src.lt, h.low.trans (hB.mono h.low.size), (h.r5.below hB).more hB.size, (h.r6.below hB).more hB.size⟩
theorem BdB.below (h : BdB w W r A5 A6 A7 A8) (hB : Below W.heap.size W W') : BdB w W' r A5 A6 A7 A8 := ⟨h.toBdA.below hB, (h.r7.below hB).more hB.size, (h.r8.below hB).more hB.size⟩
end
def CutA (w : World) (r : Rt) (s5 s6 : Value) (W : World) : Prop := ∃ A5 c5 A6 c6, s5 = .slice A5 4 c5 ∧ s6 = .slice A6 3 c6 ∧ BdA w W r A5 A6
def CutB (w : World) (r : Rt) (A5 A6 : Option Addr) (s7 s8 : Value) (W : World) : Prop := ∃ A7 c7 A8, s7 = .slice A7 1 c7 ∧ s8 = .slice A8 (nb r.v6) 16 ∧ BdB w W r A5 A6 A7 A8
theorem byt1_rd (W : World) (x : Int) (h0 : 0 ≤ x) (h1 : x < 256) : Rd (W.alloc (.cells #[.int .u8 x] 5)) (W.alloc (.cells #[.int .u8 x] 5)).heap.size (some ⟨W.heap.size, 0, none⟩) 1 [x] := by
  have hb : Byt (W.alloc (.cells #[.int .u8 x] 5)) W.heap.size 5 [x] := Blk.new W 5 #[.int .u8 x]
  exact hb.rd_all (fun y hy => by rw [List.mem_singleton] at hy; subst hy; exact ⟨h0, h1⟩) (by simp)
theorem below_one (W : World) (o : Obj) : Below W.heap.size W (W.alloc o) := (Below.refl _ _).alloc (Nat.le_refl _) _
theorem below_drew (W : World) : Below W.heap.size W W.drew := below_drewN (Below.refl _ _) 1

structure RightF (r : Rt) : Prop where
  lb : 0 ≤ r.lb ∧ r.lb ≤ 16777215
  l2 : 0 ≤ r.l2 ∧ r.l2 ≤ 16777215
  k : 1 ≤ r.k ∧ r.k ≤ 5
  two : r.k = 2 → (r.pn = 0 ∧ r.v6 = false) ∨ (r.pn = 32 ∧ r.v6 = false) ∨ (r.pn = 128 ∧ r.v6 = true)
theorem rightF {r : Rt} (hr : RtOk r) (h : rightR r = true) : RightF r := by
  unfold rightR at h
  simp only [Bool.and_eq_true, decide_eq_true_eq] at h
  obtain ⟨hk, _, hl, ha⟩ := h
  unfold labelsB at hl
  simp only [Bool.and_eq_true, decide_eq_true_eq] at hl
  refine ⟨⟨hr.lb.1, hl.1⟩, ⟨hr.l2.1, hl.2⟩, hk, fun h2 => ?_⟩
  unfold addrsB at ha
  rw [if_pos h2, Bool.or_eq_true] at ha
  rcases ha with ha | ha
  · unfold zeroPf at ha
    rw [decide_eq_true_eq] at ha
    exact .inl ⟨ha.2.2, ha.1⟩
  · unfold wholeB at ha
    rw [Bool.and_eq_true, decide_eq_true_eq] at ha
    have hb := ha.2
    cases hv : r.v6
    · rw [hv] at hb
      exact .inr (.inl ⟨hb, rfl⟩)
    · rw [hv] at hb
      exact .inr (.inr ⟨hb, rfl⟩)
theorem addr_at (W : World) (v : Bool) (l : List Int) (hl : l.length = 16) (ho : Oct l) : Calls Tryz.prog 221 #[.agg (ipc v l).toArray] W fun e W' => ∃ A, e = .returned (.slice A (nb v) 16) ∧ Rd W' W'.heap.size A (nb v) (l.take (nb v)) ∧ Below W.heap.size W W' := address_at W v l hl ho

set_option maxHeartbeats 4000000 in
set_option maxRecDepth 100000 in
theorem body_1 (w : World) (r : Rt) (hr : RtOk r) (hf : RightF r) (hk : r.k = 1) : Calls Tryz.prog 196 #[.agg (rtc r).toArray] w fun e w' => ∃ v, e = .returned v ∧ OwnB w.heap.size w' v (bodyR r) ∧ Below w.heap.size w w' := by
  have HR := Lib.hid hr
  have H1 := Lib.hid ((RtAt.new w r hr 53).keep (w' := (w.alloc (.cells (rtc r).toArray 53)).drew) rfl)
  have HB1 := Lib.hid (below_drewN ((Below.refl w.heap.size w).alloc (Nat.le_refl _) (.cells (rtc r).toArray 53)) 1)
  have HN4 : Hid (∀ W, Calls Tryz.prog 220 #[.int .u32 r.tg, .int .i64 4] W fun e W' => ∃ A c, e = .returned (.slice A 4 c) ∧ Rd W' W'.heap.size A 4 (be 4 r.tg) ∧ Below W.heap.size W W') := Lib.hid (fun W => (numb_is W r.tg 4 hr.tg (by omega) (by omega) (be4_fit hr.tg)).mono (by
    rintro e W' ⟨A, c, rfl, _, h2, h3⟩
    exact ⟨A, c, rfl, h2, h3⟩))
  have HN3 : Hid (∀ W, Calls Tryz.prog 220 #[.int .u32 r.lb, .int .i64 3] W fun e W' => ∃ A c, e = .returned (.slice A 3 c) ∧ Rd W' W'.heap.size A 3 (be 3 r.lb) ∧ Below W.heap.size W W') := Lib.hid (fun W => (numb_is W r.lb 3 hr.lb (by omega) (by omega) (by have := hf.lb.2; omega)).mono (by
    rintro e W' ⟨A, c, rfl, _, h2, h3⟩
    exact ⟨A, c, rfl, h2, h3⟩))
  have HAd : Hid (∀ W, Calls Tryz.prog 221 #[.agg (ipc r.v6 r.pl).toArray] W fun e W' => ∃ A, e = .returned (.slice A (nb r.v6) 16) ∧ Rd W' W'.heap.size A (nb r.v6) (r.pl.take (nb r.v6)) ∧ Below W.heap.size W W') := Lib.hid (fun W => addr_at W r.v6 r.pl hr.pl hr.opl)
  have hs8 : ∀ W, (Instr.sliceAt 45 (.pointer (some ⟨w.heap.size, 1, none⟩)) none none none).run Tryz.prog W = .ok (.slice (some ⟨w.heap.size, 1, none⟩) 8 8) W := fun W => by go_simp
  have hs10 : ∀ W, (Instr.sliceAt 47 (.pointer (some ⟨w.heap.size, 9, none⟩)) none none none).run Tryz.prog W = .ok (.slice (some ⟨w.heap.size, 9, none⟩) 10 10) W := fun W => by go_simp
  have HF : Hid (([r.rd, r.es, be 4 r.tg, be 3 r.lb] : List (List Int)).flatten = bodyR r) := Lib.hid (by unfold bodyR; rw [if_pos hk]; simp)
  have HLen : Hid ((bodyR r).length ≤ 140737488355328) := Lib.hid (by unfold bodyR; rw [if_pos hk]; simp [be_len, hr.rd, hr.es, hr.pl, hr.gl] <;> omega)
  have e1 : (r.k == 1) = true := by rw [beq_iff_eq]; omega
  clear hk
  clear hr hf
  go_enter Tryz.func196, Tryz.ntmps196
  go_wp2
  refine wp_region_held_drew (S := fun W => RtAt W w.heap.size r) (by kernel_rfl) (H1.out) (fun hS => ?_)
  refine wpAnyH_take (i := 0) (oi := ⟨some 9, _, _, _, _, _⟩) (v := ?_) rfl (by kernel_rfl) (by kernel_rfl) (by kernel_rfl) (fun _ _ _ h => h) (Or.inl ⟨by rfl, ?_⟩) hS ?_
  rotate_left
  · intro wq hq
    first | (go_simp; done) | (go_simp; rfl)
  try simp only [Act.put, zP, zQ, zR]
  refine wpAnyH_take (i := 1) (oi := ⟨some 10, _, _, _, _, _⟩) (v := ?_) rfl (by kernel_rfl) (by kernel_rfl) (by kernel_rfl) (fun _ _ _ h => h) (Or.inl ⟨by rfl, ?_⟩) hS ?_
  rotate_left
  · intro wq hq
    first | (go_simp; done) | (go_simp; rfl)
  try simp only [Act.put, zP, zQ, zR]
  refine wpAnyH_take (i := 2) (oi := ⟨some 11, _, _, _, _, _⟩) (v := ?_) rfl (by kernel_rfl) (by kernel_rfl) (by kernel_rfl) (fun _ _ _ h => h) (Or.inl ⟨by rfl, ?_⟩) hS ?_
  rotate_left
  · intro wq hq
    first | (go_simp; done) | (go_simp; rfl)
  try simp only [Act.put, zP, zQ, zR]
  refine wpAnyH_take (i := 3) (oi := ⟨some 12, _, _, _, _, _⟩) (v := ?_) rfl (by kernel_rfl) (by kernel_rfl) (by kernel_rfl) (fun _ _ _ h => h) (Or.inl ⟨by rfl, ?_⟩) hS ?_
  rotate_left
  · intro wq hq
    first | (go_simp; done) | (go_simp; rfl)
  try simp only [Act.put, zP, zQ, zR]
  refine wpAnyH_take (i := 4) (oi := ⟨some 3, _, _, _, _, _⟩) (v := ?_) rfl (by kernel_rfl) (by kernel_rfl) (by kernel_rfl) (fun _ _ _ h => h) (Or.inl ⟨by rfl, ?_⟩) hS ?_
  rotate_left
  · intro wq hq
    first | (go_simp; done) | (go_simp; rfl)
  try simp only [Act.put, zP, zQ, zR]
  refine wpAnyH_take (i := 5) (oi := ⟨some 4, _, _, _, _, _⟩) (v := ?_) rfl (by kernel_rfl) (by kernel_rfl) (by kernel_rfl) (fun _ _ _ h => h) (Or.inl ⟨by rfl, ?_⟩) hS ?_
  rotate_left
  · intro wq hq
    first | (go_simp; done) | (go_simp; rfl)
  try simp only [Act.put, zP, zQ, zR]
  refine wpAnyH_done (by kernel_rfl) ?_ _
  clear hS hs8 hs10
  go_wp2_with fail
  have HW1 := Lib.hid (show RtAt ((w.alloc (.cells (rtc r).toArray 53)).drew) w.heap.size r ∧ Below w.heap.size w ((w.alloc (.cells (rtc r).toArray 53)).drew) from ⟨H1.out, HB1.out⟩)
  clear H1 HB1
  generalize (w.alloc (.cells (rtc r).toArray 53)).drew = W1 at *
  go_cut [5, 6] (fun s5 s6 wx => CutA w r s5 s6 wx)
  case first =>
    refine wp_region_held_drew (S := fun W => RtAt W w.heap.size r ∧ Below w.heap.size w W) (by kernel_rfl) (⟨HW1.out.1.keep rfl, below_drewN HW1.out.2 1⟩) (fun hS => ?_)
    refine wpAnyH_take (i := 0) (oi := ⟨some 13, _, _, _, _, _⟩) (v := ?_) rfl (by kernel_rfl) (by kernel_rfl) (by kernel_rfl) (fun _ _ _ h => h) (Or.inl ⟨by rfl, ?_⟩) hS ?_
    rotate_left
    · intro wq hq
      first | (go_simp; done) | (go_simp; rfl)
    try simp only [Act.put, zP, zQ, zR]
    refine wpAnyH_take (i := 1) (oi := ⟨some 14, _, _, _, _, _⟩) (v := ?_) rfl (by kernel_rfl) (by kernel_rfl) (by kernel_rfl) (fun _ _ _ h => h) (Or.inl ⟨by rfl, ?_⟩) hS ?_
    rotate_left
    · intro wq hq
      have hc := hq.1.cTg HR.out
      first | (go_simp; done) | (go_simp; rfl)
    try simp only [Act.put, zP, zQ, zR]
    refine wpAnyH_take (i := 3) (oi := ⟨some 16, _, _, _, _, _⟩) (v := ?_) rfl (by kernel_rfl) (by kernel_rfl) (by kernel_rfl) (fun _ _ _ h => h) (Or.inl ⟨by rfl, ?_⟩) hS ?_
    rotate_left
    · intro wq hq
      first | (go_simp; done) | (go_simp; rfl)
    try simp only [Act.put, zP, zQ, zR]
    refine wpAnyH_take (i := 4) (oi := ⟨some 17, _, _, _, _, _⟩) (v := ?_) rfl (by kernel_rfl) (by kernel_rfl) (by kernel_rfl) (fun _ _ _ h => h) (Or.inl ⟨by rfl, ?_⟩) hS ?_
    rotate_left
    · intro wq hq
      have hc := hq.1.cLb HR.out
      first | (go_simp; done) | (go_simp; rfl)
    try simp only [Act.put, zP, zQ, zR]
    refine wpAnyH_ready (rs := [2]) (by kernel_rfl) (by simp) ?_
    refine AllReadyH.cons (o := ⟨some 15, _, _, _, _, _⟩) rfl (fun K hK => ?_) AllReadyH.nil
    rw [if_pos (by rfl)]
    go_wp2_with fail
    refine (HN4.out _).mono ?_
    rintro e w2 ⟨A5, c5, rfl, hr5, hB5⟩
    have hS2 : RtAt w2 w.heap.size r ∧ Below w.heap.size w w2 := ⟨hS.1.below hB5 hS.1.lt, hS.2.trans (hB5.mono hS.2.size)⟩
    refine hK.out _ _ (hS2) (fun hS => ?_)
    clear hK K
    try simp only [Act.put, zP, zQ, zR]
    refine wpAnyH_ready (rs := [5]) (by kernel_rfl) (by simp) ?_
    refine AllReadyH.cons (o := ⟨some 18, _, _, _, _, _⟩) rfl (fun K hK => ?_) AllReadyH.nil
    rw [if_pos (by rfl)]
    go_wp2_with fail
    refine (HN3.out _).mono ?_
    rintro e w3 ⟨A6, c6, rfl, hr6, hB6⟩
    have hS3 : RtAt w3 w.heap.size r ∧ Below w.heap.size w w3 := ⟨hS.1.below hB6 hS.1.lt, hS.2.trans (hB6.mono hS.2.size)⟩
    refine hK.out _ _ (hS3) (fun hS => ?_)
    clear hK K
    try simp only [Act.put, zP, zQ, zR]
    refine wpAnyH_take (i := 6) (oi := ⟨some 5, _, _, _, _, _⟩) (v := ?_) rfl (by kernel_rfl) (by kernel_rfl) (by kernel_rfl) (fun _ _ _ h => h) (Or.inl ⟨by rfl, ?_⟩) hS ?_
    rotate_left
    · intro wq hq
      first | (go_simp; done) | (go_simp; rfl)
    try simp only [Act.put, zP, zQ, zR]
    refine wpAnyH_take (i := 7) (oi := ⟨some 6, _, _, _, _, _⟩) (v := ?_) rfl (by kernel_rfl) (by kernel_rfl) (by kernel_rfl) (fun _ _ _ h => h) (Or.inl ⟨by rfl, ?_⟩) hS ?_
    rotate_left
    · intro wq hq
      first | (go_simp; done) | (go_simp; rfl)
    try simp only [Act.put, zP, zQ, zR]
    refine wpAnyH_done (by kernel_rfl) ?_ _
    go_wp2_with fail
    go_meet
    exact ⟨A5, c5, A6, c6, rfl, rfl, hS3.1, hS3.2, (hr5.below hB6).more hB6.size, hr6⟩
  case rest =>
    obtain ⟨A5, c5, A6, c6, rfl, rfl, hA⟩ := hcut
    have HA := Lib.hid (show BdA w wc.drew r A5 A6 from hA.below (below_drew wc))
    clear hA
    go_wp2_with fail
    go_cut [7, 8] (fun s7 s8 wx => CutB w r A5 A6 s7 s8 wx)
    case first =>
      refine wp_region_held_drew (S := fun W => BdA w W r A5 A6) (by kernel_rfl) (HA.out) (fun hS => ?_)
      refine wpAnyH_take (i := 0) (oi := ⟨some 19, _, _, _, _, _⟩) (v := ?_) rfl (by kernel_rfl) (by kernel_rfl) (by kernel_rfl) (fun _ _ _ h => h) (Or.inl ⟨by rfl, ?_⟩) hS ?_
      rotate_left
      · intro wq hq
        first | (go_simp; done) | (go_simp; rfl)
      try simp only [Act.put, zP, zQ, zR]
      refine wpAnyH_take (i := 1) (oi := ⟨some 20, _, _, _, _, _⟩) (v := ?_) rfl (by kernel_rfl) (by kernel_rfl) (by kernel_rfl) (fun _ _ _ h => h) (Or.inl ⟨by rfl, ?_⟩) hS ?_
      rotate_left
      · intro wq hq
        first | (go_simp; done) | (go_simp; rfl)
      try simp only [Act.put, zP, zQ, zR]
      refine wpAnyH_take (i := 2) (oi := ⟨some 21, _, _, _, _, _⟩) (v := ?_) rfl (by kernel_rfl) (by kernel_rfl) (by kernel_rfl) (fun _ _ _ h => h) (Or.inl ⟨by rfl, ?_⟩) hS ?_
      rotate_left
      · intro wq hq
        have hc := hq.src.cPn HR.out
        first | (go_simp; done) | (go_simp; rfl)
      try simp only [Act.put, zP, zQ, zR]
      refine wpAnyH_take (i := 3) (oi := ⟨some 22, _, _, _, _, _⟩) (v := ?_) rfl (by kernel_rfl) (by kernel_rfl) (by kernel_rfl) (fun _ _ _ h => h) (Or.inl ⟨by rfl, ?_⟩) hS ?_
      rotate_left
      · intro wq hq
        first | (go_simp; done) | (go_simp; rfl)
      try simp only [Act.put, zP, zQ, zR]
      refine wpAnyH_take (i := 5) (oi := ⟨some 24, _, _, _, _, _⟩) (v := ?_) rfl (by kernel_rfl) (by kernel_rfl) (by kernel_rfl) (fun _ _ _ h => h) (Or.inl ⟨by rfl, ?_⟩) hS ?_
      rotate_left
      · intro wq hq
        first | (go_simp; done) | (go_simp; rfl)
      try simp only [Act.put, zP, zQ, zR]
      refine wpAnyH_take (i := 6) (oi := ⟨some 25, _, _, _, _, _⟩) (v := ?_) rfl (by kernel_rfl) (by kernel_rfl) (by kernel_rfl) (fun _ _ _ h => h) (Or.inl ⟨by rfl, ?_⟩) hS ?_
      rotate_left
      · intro wq hq
        first | (go_simp; done) | (go_simp; rfl)
      try simp only [Act.put, zP, zQ, zR]
      refine wpAnyH_take (i := 7) (oi := ⟨some 26, _, _, _, _, _⟩) rfl (by kernel_rfl) (by kernel_rfl) (by kernel_rfl) (fun _ _ _ h => h) (yieldsIf_load_mid (by rfl) 27 _ rfl _ _ rfl (ipc r.v6 r.pl) _ (fun wq hq => hq.src.rIp HR.out) Tryz.underlying27 rfl (sz_ip HR.out)) hS ?_
      try simp only [Act.put, zP, zQ, zR]
      refine wpAnyH_ready (rs := [4, 8]) (by kernel_rfl) (by simp) ?_
      refine AllReadyH.cons (o := ⟨some 23, _, _, _, _, _⟩) rfl (fun K hK => ?_) (AllReadyH.cons (o := ⟨some 27, _, _, _, _, _⟩) rfl (fun K hK => ?_) AllReadyH.nil)
      · rw [if_pos (by rfl)]
        go_wp2
        have h7 := byt1_rd wc.drew (r.pn % 256) (Int.emod_nonneg _ (by decide)) (Int.emod_lt_of_pos _ (by decide))
        have hS2 := hS.below (below_one wc.drew (.cells #[.int .u8 (r.pn % 256)] 5))
        refine hK.out _ _ (hS2) (fun hS => ?_)
        clear hK K
        try simp only [Act.put, zP, zQ, zR]
        refine wpAnyH_ready (rs := [8]) (by kernel_rfl) (by simp) ?_
        refine AllReadyH.cons (o := ⟨some 27, _, _, _, _, _⟩) rfl (fun K hK => ?_) AllReadyH.nil
        rw [if_pos (by rfl)]
        go_wp2_with fail
        refine (HAd.out _).mono ?_
        rintro e w3 ⟨A8, rfl, hr8, hB8⟩
        have hS3 := hS.below hB8
        refine hK.out _ _ (hS3) (fun hS => ?_)
        clear hK K
        try simp only [Act.put, zP, zQ, zR]
        refine wpAnyH_take (i := 9) (oi := ⟨some 7, _, _, _, _, _⟩) (v := ?_) rfl (by kernel_rfl) (by kernel_rfl) (by kernel_rfl) (fun _ _ _ h => h) (Or.inl ⟨by rfl, ?_⟩) hS ?_
        rotate_left
        · intro wq hq
          first | (go_simp; done) | (go_simp; rfl)
        try simp only [Act.put, zP, zQ, zR]
        refine wpAnyH_take (i := 10) (oi := ⟨some 8, _, _, _, _, _⟩) (v := ?_) rfl (by kernel_rfl) (by kernel_rfl) (by kernel_rfl) (fun _ _ _ h => h) (Or.inl ⟨by rfl, ?_⟩) hS ?_
        rotate_left
        · intro wq hq
          first | (go_simp; done) | (go_simp; rfl)
        try simp only [Act.put, zP, zQ, zR]
        refine wpAnyH_done (by kernel_rfl) ?_ _
        go_wp2_with fail
        go_meet
        exact ⟨_, _, A8, rfl, rfl, hS3, (h7.below hB8).more hB8.size, hr8⟩
      · rw [if_pos (by rfl)]
        go_wp2_with fail
        refine (HAd.out _).mono ?_
        rintro e w2 ⟨A8, rfl, hr8, hB8⟩
        have hS2 := hS.below hB8
        refine hK.out _ _ (hS2) (fun hS => ?_)
        clear hK K
        try simp only [Act.put, zP, zQ, zR]
        refine wpAnyH_ready (rs := [4]) (by kernel_rfl) (by simp) ?_
        refine AllReadyH.cons (o := ⟨some 23, _, _, _, _, _⟩) rfl (fun K hK => ?_) AllReadyH.nil
        rw [if_pos (by rfl)]
        go_wp2
        have h7 := byt1_rd w2 (r.pn % 256) (Int.emod_nonneg _ (by decide)) (Int.emod_lt_of_pos _ (by decide))
        have hb1 := below_one w2 (.cells #[.int .u8 (r.pn % 256)] 5)
        have hS3 := hS.below hb1
        refine hK.out _ _ (hS3) (fun hS => ?_)
        clear hK K
        try simp only [Act.put, zP, zQ, zR]
        refine wpAnyH_take (i := 9) (oi := ⟨some 7, _, _, _, _, _⟩) (v := ?_) rfl (by kernel_rfl) (by kernel_rfl) (by kernel_rfl) (fun _ _ _ h => h) (Or.inl ⟨by rfl, ?_⟩) hS ?_
        rotate_left
        · intro wq hq
          first | (go_simp; done) | (go_simp; rfl)
        try simp only [Act.put, zP, zQ, zR]
        refine wpAnyH_take (i := 10) (oi := ⟨some 8, _, _, _, _, _⟩) (v := ?_) rfl (by kernel_rfl) (by kernel_rfl) (by kernel_rfl) (fun _ _ _ h => h) (Or.inl ⟨by rfl, ?_⟩) hS ?_
        rotate_left
        · intro wq hq
          first | (go_simp; done) | (go_simp; rfl)
        try simp only [Act.put, zP, zQ, zR]
        refine wpAnyH_done (by kernel_rfl) ?_ _
        go_wp2_with fail
        go_meet
        exact ⟨_, _, A8, rfl, rfl, hS3, h7, (hr8.below hb1).more hb1.size⟩
    case rest =>
      obtain ⟨A7, c7, A8, rfl, rfl, hB⟩ := hcut
      have cK := hB.src.cK
      have HBd := Lib.hid hB
      clear hB
      have HL : Hid (RdL (wc.alloc (.cells (([(some ⟨w.heap.size, 1, none⟩, 8, 8), (some ⟨w.heap.size, 9, none⟩, 10, 10), (A5, 4, c5), (A6, 3, c6)] : List (Option Addr × Nat × Nat)).map fun v => Value.slice v.1 v.2.1 v.2.2).toArray 38)) (wc.alloc (.cells (([(some ⟨w.heap.size, 1, none⟩, 8, 8), (some ⟨w.heap.size, 9, none⟩, 10, 10), (A5, 4, c5), (A6, 3, c6)] : List (Option Addr × Nat × Nat)).map fun v => Value.slice v.1 v.2.1 v.2.2).toArray 38)).heap.size (some ⟨wc.heap.size, 0, none⟩) 4 [r.rd, r.es, be 4 r.tg, be 3 r.lb]) := Lib.hid (rdl_new (W := wc) (vs := [(some ⟨w.heap.size, 1, none⟩, 8, 8), (some ⟨w.heap.size, 9, none⟩, 10, 10), (A5, 4, c5), (A6, 3, c6)]) (ls := [r.rd, r.es, be 4 r.tg, be 3 r.lb]) ⟨HBd.out.src.sRd HR.out HBd.out.src.lt, HBd.out.src.sEs HR.out HBd.out.src.lt, HBd.out.r5, HBd.out.r6, trivial⟩ 38 _ rfl)
      have HLow := Lib.hid HBd.out.low
      clear HBd
      go_wp2_with fail
      refine (concat_is _ _ 4 4 _ HL.out (by omega) (by rw [HF.out]; exact HLen.out)).mono ?_
      rintro e w9 ⟨v, rfl, hO, hB9⟩
      have HEnd := Lib.hid (show OwnB w.heap.size w9 v (bodyR r) ∧ Below w.heap.size w w9 from ⟨by rw [← HF.out]; exact hO.low (by have := HLow.out.size; simp; omega), (HLow.out.trans ((below_one wc _).mono HLow.out.size)).trans (hB9.mono (by have := HLow.out.size; simp; omega))⟩)
      clear hO hB9
      go_wp2
      go_ret
      exact ⟨v, rfl, HEnd.out.1, HEnd.out.2⟩

set_option maxHeartbeats 4000000 in
set_option maxRecDepth 100000 in
theorem body_3 (w : World) (r : Rt) (hr : RtOk r) (hf : RightF r) (hk : r.k = 3) : Calls Tryz.prog 196 #[.agg (rtc r).toArray] w fun e w' => ∃ v, e = .returned v ∧ OwnB w.heap.size w' v (bodyR r) ∧ Below w.heap.size w w' := by
  have HR := Lib.hid hr
  have H1 := Lib.hid ((RtAt.new w r hr 53).keep (w' := (w.alloc (.cells (rtc r).toArray 53)).drew) rfl)
  have HB1 := Lib.hid (below_drewN ((Below.refl w.heap.size w).alloc (Nat.le_refl _) (.cells (rtc r).toArray 53)) 1)
  have HN4 : Hid (∀ W, Calls Tryz.prog 220 #[.int .u32 r.tg, .int .i64 4] W fun e W' => ∃ A c, e = .returned (.slice A 4 c) ∧ Rd W' W'.heap.size A 4 (be 4 r.tg) ∧ Below W.heap.size W W') := Lib.hid (fun W => (numb_is W r.tg 4 hr.tg (by omega) (by omega) (be4_fit hr.tg)).mono (by
    rintro e W' ⟨A, c, rfl, _, h2, h3⟩
    exact ⟨A, c, rfl, h2, h3⟩))
  have HN3 : Hid (∀ W, Calls Tryz.prog 220 #[.int .u32 r.lb, .int .i64 3] W fun e W' => ∃ A c, e = .returned (.slice A 3 c) ∧ Rd W' W'.heap.size A 3 (be 3 r.lb) ∧ Below W.heap.size W W') := Lib.hid (fun W => (numb_is W r.lb 3 hr.lb (by omega) (by omega) (by have := hf.lb.2; omega)).mono (by
    rintro e W' ⟨A, c, rfl, _, h2, h3⟩
    exact ⟨A, c, rfl, h2, h3⟩))
  have HAd : Hid (∀ W, Calls Tryz.prog 221 #[.agg (ipc r.v6 r.pl).toArray] W fun e W' => ∃ A, e = .returned (.slice A (nb r.v6) 16) ∧ Rd W' W'.heap.size A (nb r.v6) (r.pl.take (nb r.v6)) ∧ Below W.heap.size W W') := Lib.hid (fun W => addr_at W r.v6 r.pl hr.pl hr.opl)
  have hs8 : ∀ W, (Instr.sliceAt 45 (.pointer (some ⟨w.heap.size, 1, none⟩)) none none none).run Tryz.prog W = .ok (.slice (some ⟨w.heap.size, 1, none⟩) 8 8) W := fun W => by go_simp
  have hs10 : ∀ W, (Instr.sliceAt 47 (.pointer (some ⟨w.heap.size, 9, none⟩)) none none none).run Tryz.prog W = .ok (.slice (some ⟨w.heap.size, 9, none⟩) 10 10) W := fun W => by go_simp
  have HF : Hid (([r.rd, be 4 r.tg, [r.pn % 256], r.pl.take (nb r.v6)] : List (List Int)).flatten = bodyR r) := Lib.hid (by unfold bodyR; rw [if_neg (by omega)]; rw [if_neg (by omega)]; rw [if_pos hk]; simp)
  have HLen : Hid ((bodyR r).length ≤ 140737488355328) := Lib.hid (by unfold bodyR; rw [if_neg (by omega)]; rw [if_neg (by omega)]; rw [if_pos hk]; simp [be_len, hr.rd, hr.es, hr.pl, hr.gl] <;> omega)
  have e1 : (r.k == 1) = false := by rw [beq_eq_false_iff_ne]; omega
  have e2 : (r.k == 2) = false := by rw [beq_eq_false_iff_ne]; omega
  have e3 : (r.k == 3) = true := by rw [beq_iff_eq]; omega
  clear hk
  clear hr hf
  go_enter Tryz.func196, Tryz.ntmps196
  go_wp2
  refine wp_region_held_drew (S := fun W => RtAt W w.heap.size r) (by kernel_rfl) (H1.out) (fun hS => ?_)
  refine wpAnyH_take (i := 0) (oi := ⟨some 9, _, _, _, _, _⟩) (v := ?_) rfl (by kernel_rfl) (by kernel_rfl) (by kernel_rfl) (fun _ _ _ h => h) (Or.inl ⟨by rfl, ?_⟩) hS ?_
  rotate_left
  · intro wq hq
    first | (go_simp; done) | (go_simp; rfl)
  try simp only [Act.put, zP, zQ, zR]
  refine wpAnyH_take (i := 1) (oi := ⟨some 10, _, _, _, _, _⟩) (v := ?_) rfl (by kernel_rfl) (by kernel_rfl) (by kernel_rfl) (fun _ _ _ h => h) (Or.inl ⟨by rfl, ?_⟩) hS ?_
  rotate_left
  · intro wq hq
    first | (go_simp; done) | (go_simp; rfl)
  try simp only [Act.put, zP, zQ, zR]
  refine wpAnyH_take (i := 2) (oi := ⟨some 11, _, _, _, _, _⟩) (v := ?_) rfl (by kernel_rfl) (by kernel_rfl) (by kernel_rfl) (fun _ _ _ h => h) (Or.inl ⟨by rfl, ?_⟩) hS ?_
  rotate_left
  · intro wq hq
    first | (go_simp; done) | (go_simp; rfl)
  try simp only [Act.put, zP, zQ, zR]
  refine wpAnyH_take (i := 3) (oi := ⟨some 12, _, _, _, _, _⟩) (v := ?_) rfl (by kernel_rfl) (by kernel_rfl) (by kernel_rfl) (fun _ _ _ h => h) (Or.inl ⟨by rfl, ?_⟩) hS ?_
  rotate_left
  · intro wq hq
    first | (go_simp; done) | (go_simp; rfl)
  try simp only [Act.put, zP, zQ, zR]
  refine wpAnyH_take (i := 4) (oi := ⟨some 3, _, _, _, _, _⟩) (v := ?_) rfl (by kernel_rfl) (by kernel_rfl) (by kernel_rfl) (fun _ _ _ h => h) (Or.inl ⟨by rfl, ?_⟩) hS ?_
  rotate_left
  · intro wq hq
    first | (go_simp; done) | (go_simp; rfl)
  try simp only [Act.put, zP, zQ, zR]
  refine wpAnyH_take (i := 5) (oi := ⟨some 4, _, _, _, _, _⟩) (v := ?_) rfl (by kernel_rfl) (by kernel_rfl) (by kernel_rfl) (fun _ _ _ h => h) (Or.inl ⟨by rfl, ?_⟩) hS ?_
  rotate_left
  · intro wq hq
    first | (go_simp; done) | (go_simp; rfl)
  try simp only [Act.put, zP, zQ, zR]
  refine wpAnyH_done (by kernel_rfl) ?_ _
  clear hS hs8 hs10
  go_wp2_with fail
  have HW1 := Lib.hid (show RtAt ((w.alloc (.cells (rtc r).toArray 53)).drew) w.heap.size r ∧ Below w.heap.size w ((w.alloc (.cells (rtc r).toArray 53)).drew) from ⟨H1.out, HB1.out⟩)
  clear H1 HB1
  generalize (w.alloc (.cells (rtc r).toArray 53)).drew = W1 at *
  go_cut [5, 6] (fun s5 s6 wx => CutA w r s5 s6 wx)
  case first =>
    refine wp_region_held_drew (S := fun W => RtAt W w.heap.size r ∧ Below w.heap.size w W) (by kernel_rfl) (⟨HW1.out.1.keep rfl, below_drewN HW1.out.2 1⟩) (fun hS => ?_)
    refine wpAnyH_take (i := 0) (oi := ⟨some 13, _, _, _, _, _⟩) (v := ?_) rfl (by kernel_rfl) (by kernel_rfl) (by kernel_rfl) (fun _ _ _ h => h) (Or.inl ⟨by rfl, ?_⟩) hS ?_
    rotate_left
    · intro wq hq
      first | (go_simp; done) | (go_simp; rfl)
    try simp only [Act.put, zP, zQ, zR]
    refine wpAnyH_take (i := 1) (oi := ⟨some 14, _, _, _, _, _⟩) (v := ?_) rfl (by kernel_rfl) (by kernel_rfl) (by kernel_rfl) (fun _ _ _ h => h) (Or.inl ⟨by rfl, ?_⟩) hS ?_
    rotate_left
    · intro wq hq
      have hc := hq.1.cTg HR.out
      first | (go_simp; done) | (go_simp; rfl)
    try simp only [Act.put, zP, zQ, zR]
    refine wpAnyH_take (i := 3) (oi := ⟨some 16, _, _, _, _, _⟩) (v := ?_) rfl (by kernel_rfl) (by kernel_rfl) (by kernel_rfl) (fun _ _ _ h => h) (Or.inl ⟨by rfl, ?_⟩) hS ?_
    rotate_left
    · intro wq hq
      first | (go_simp; done) | (go_simp; rfl)
    try simp only [Act.put, zP, zQ, zR]
    refine wpAnyH_take (i := 4) (oi := ⟨some 17, _, _, _, _, _⟩) (v := ?_) rfl (by kernel_rfl) (by kernel_rfl) (by kernel_rfl) (fun _ _ _ h => h) (Or.inl ⟨by rfl, ?_⟩) hS ?_
    rotate_left
    · intro wq hq
      have hc := hq.1.cLb HR.out
      first | (go_simp; done) | (go_simp; rfl)
    try simp only [Act.put, zP, zQ, zR]
    refine wpAnyH_ready (rs := [2]) (by kernel_rfl) (by simp) ?_
    refine AllReadyH.cons (o := ⟨some 15, _, _, _, _, _⟩) rfl (fun K hK => ?_) AllReadyH.nil
    rw [if_pos (by rfl)]
    go_wp2_with fail
    refine (HN4.out _).mono ?_
    rintro e w2 ⟨A5, c5, rfl, hr5, hB5⟩
    have hS2 : RtAt w2 w.heap.size r ∧ Below w.heap.size w w2 := ⟨hS.1.below hB5 hS.1.lt, hS.2.trans (hB5.mono hS.2.size)⟩
    refine hK.out _ _ (hS2) (fun hS => ?_)
    clear hK K
    try simp only [Act.put, zP, zQ, zR]
    refine wpAnyH_ready (rs := [5]) (by kernel_rfl) (by simp) ?_
    refine AllReadyH.cons (o := ⟨some 18, _, _, _, _, _⟩) rfl (fun K hK => ?_) AllReadyH.nil
    rw [if_pos (by rfl)]
    go_wp2_with fail
    refine (HN3.out _).mono ?_
    rintro e w3 ⟨A6, c6, rfl, hr6, hB6⟩
    have hS3 : RtAt w3 w.heap.size r ∧ Below w.heap.size w w3 := ⟨hS.1.below hB6 hS.1.lt, hS.2.trans (hB6.mono hS.2.size)⟩
    refine hK.out _ _ (hS3) (fun hS => ?_)
    clear hK K
    try simp only [Act.put, zP, zQ, zR]
    refine wpAnyH_take (i := 6) (oi := ⟨some 5, _, _, _, _, _⟩) (v := ?_) rfl (by kernel_rfl) (by kernel_rfl) (by kernel_rfl) (fun _ _ _ h => h) (Or.inl ⟨by rfl, ?_⟩) hS ?_
    rotate_left
    · intro wq hq
      first | (go_simp; done) | (go_simp; rfl)
    try simp only [Act.put, zP, zQ, zR]
    refine wpAnyH_take (i := 7) (oi := ⟨some 6, _, _, _, _, _⟩) (v := ?_) rfl (by kernel_rfl) (by kernel_rfl) (by kernel_rfl) (fun _ _ _ h => h) (Or.inl ⟨by rfl, ?_⟩) hS ?_
    rotate_left
    · intro wq hq
      first | (go_simp; done) | (go_simp; rfl)
    try simp only [Act.put, zP, zQ, zR]
    refine wpAnyH_done (by kernel_rfl) ?_ _
    go_wp2_with fail
    go_meet
    exact ⟨A5, c5, A6, c6, rfl, rfl, hS3.1, hS3.2, (hr5.below hB6).more hB6.size, hr6⟩
  case rest =>
    obtain ⟨A5, c5, A6, c6, rfl, rfl, hA⟩ := hcut
    have HA := Lib.hid (show BdA w wc.drew r A5 A6 from hA.below (below_drew wc))
    clear hA
    go_wp2_with fail
    go_cut [7, 8] (fun s7 s8 wx => CutB w r A5 A6 s7 s8 wx)
    case first =>
      refine wp_region_held_drew (S := fun W => BdA w W r A5 A6) (by kernel_rfl) (HA.out) (fun hS => ?_)
      refine wpAnyH_take (i := 0) (oi := ⟨some 19, _, _, _, _, _⟩) (v := ?_) rfl (by kernel_rfl) (by kernel_rfl) (by kernel_rfl) (fun _ _ _ h => h) (Or.inl ⟨by rfl, ?_⟩) hS ?_
      rotate_left
      · intro wq hq
        first | (go_simp; done) | (go_simp; rfl)
      try simp only [Act.put, zP, zQ, zR]
      refine wpAnyH_take (i := 1) (oi := ⟨some 20, _, _, _, _, _⟩) (v := ?_) rfl (by kernel_rfl) (by kernel_rfl) (by kernel_rfl) (fun _ _ _ h => h) (Or.inl ⟨by rfl, ?_⟩) hS ?_
      rotate_left
      · intro wq hq
        first | (go_simp; done) | (go_simp; rfl)
      try simp only [Act.put, zP, zQ, zR]
      refine wpAnyH_take (i := 2) (oi := ⟨some 21, _, _, _, _, _⟩) (v := ?_) rfl (by kernel_rfl) (by kernel_rfl) (by kernel_rfl) (fun _ _ _ h => h) (Or.inl ⟨by rfl, ?_⟩) hS ?_
      rotate_left
      · intro wq hq
        have hc := hq.src.cPn HR.out
        first | (go_simp; done) | (go_simp; rfl)
      try simp only [Act.put, zP, zQ, zR]
      refine wpAnyH_take (i := 3) (oi := ⟨some 22, _, _, _, _, _⟩) (v := ?_) rfl (by kernel_rfl) (by kernel_rfl) (by kernel_rfl) (fun _ _ _ h => h) (Or.inl ⟨by rfl, ?_⟩) hS ?_
      rotate_left
      · intro wq hq
        first | (go_simp; done) | (go_simp; rfl)
      try simp only [Act.put, zP, zQ, zR]
      refine wpAnyH_take (i := 5) (oi := ⟨some 24, _, _, _, _, _⟩) (v := ?_) rfl (by kernel_rfl) (by kernel_rfl) (by kernel_rfl) (fun _ _ _ h => h) (Or.inl ⟨by rfl, ?_⟩) hS ?_
      rotate_left
      · intro wq hq
        first | (go_simp; done) | (go_simp; rfl)
      try simp only [Act.put, zP, zQ, zR]
      refine wpAnyH_take (i := 6) (oi := ⟨some 25, _, _, _, _, _⟩) (v := ?_) rfl (by kernel_rfl) (by kernel_rfl) (by kernel_rfl) (fun _ _ _ h => h) (Or.inl ⟨by rfl, ?_⟩) hS ?_
      rotate_left
      · intro wq hq
        first | (go_simp; done) | (go_simp; rfl)
      try simp only [Act.put, zP, zQ, zR]
      refine wpAnyH_take (i := 7) (oi := ⟨some 26, _, _, _, _, _⟩) rfl (by kernel_rfl) (by kernel_rfl) (by kernel_rfl) (fun _ _ _ h => h) (yieldsIf_load_mid (by rfl) 27 _ rfl _ _ rfl (ipc r.v6 r.pl) _ (fun wq hq => hq.src.rIp HR.out) Tryz.underlying27 rfl (sz_ip HR.out)) hS ?_
      try simp only [Act.put, zP, zQ, zR]
      refine wpAnyH_ready (rs := [4, 8]) (by kernel_rfl) (by simp) ?_
      refine AllReadyH.cons (o := ⟨some 23, _, _, _, _, _⟩) rfl (fun K hK => ?_) (AllReadyH.cons (o := ⟨some 27, _, _, _, _, _⟩) rfl (fun K hK => ?_) AllReadyH.nil)
      · rw [if_pos (by rfl)]
        go_wp2
        have h7 := byt1_rd wc.drew (r.pn % 256) (Int.emod_nonneg _ (by decide)) (Int.emod_lt_of_pos _ (by decide))
        have hS2 := hS.below (below_one wc.drew (.cells #[.int .u8 (r.pn % 256)] 5))
        refine hK.out _ _ (hS2) (fun hS => ?_)
        clear hK K
        try simp only [Act.put, zP, zQ, zR]
        refine wpAnyH_ready (rs := [8]) (by kernel_rfl) (by simp) ?_
        refine AllReadyH.cons (o := ⟨some 27, _, _, _, _, _⟩) rfl (fun K hK => ?_) AllReadyH.nil
        rw [if_pos (by rfl)]
        go_wp2_with fail
        refine (HAd.out _).mono ?_
        rintro e w3 ⟨A8, rfl, hr8, hB8⟩
        have hS3 := hS.below hB8
        refine hK.out _ _ (hS3) (fun hS => ?_)
        clear hK K
        try simp only [Act.put, zP, zQ, zR]
        refine wpAnyH_take (i := 9) (oi := ⟨some 7, _, _, _, _, _⟩) (v := ?_) rfl (by kernel_rfl) (by kernel_rfl) (by kernel_rfl) (fun _ _ _ h => h) (Or.inl ⟨by rfl, ?_⟩) hS ?_
        rotate_left
        · intro wq hq
          first | (go_simp; done) | (go_simp; rfl)
        try simp only [Act.put, zP, zQ, zR]
        refine wpAnyH_take (i := 10) (oi := ⟨some 8, _, _, _, _, _⟩) (v := ?_) rfl (by kernel_rfl) (by kernel_rfl) (by kernel_rfl) (fun _ _ _ h => h) (Or.inl ⟨by rfl, ?_⟩) hS ?_
        rotate_left
        · intro wq hq
          first | (go_simp; done) | (go_simp; rfl)
        try simp only [Act.put, zP, zQ, zR]
        refine wpAnyH_done (by kernel_rfl) ?_ _
        go_wp2_with fail
        go_meet
        exact ⟨_, _, A8, rfl, rfl, hS3, (h7.below hB8).more hB8.size, hr8⟩
      · rw [if_pos (by rfl)]
        go_wp2_with fail
        refine (HAd.out _).mono ?_
        rintro e w2 ⟨A8, rfl, hr8, hB8⟩
        have hS2 := hS.below hB8
        refine hK.out _ _ (hS2) (fun hS => ?_)
        clear hK K
        try simp only [Act.put, zP, zQ, zR]
        refine wpAnyH_ready (rs := [4]) (by kernel_rfl) (by simp) ?_
        refine AllReadyH.cons (o := ⟨some 23, _, _, _, _, _⟩) rfl (fun K hK => ?_) AllReadyH.nil
        rw [if_pos (by rfl)]
        go_wp2
        have h7 := byt1_rd w2 (r.pn % 256) (Int.emod_nonneg _ (by decide)) (Int.emod_lt_of_pos _ (by decide))
        have hb1 := below_one w2 (.cells #[.int .u8 (r.pn % 256)] 5)
        have hS3 := hS.below hb1
        refine hK.out _ _ (hS3) (fun hS => ?_)
        clear hK K
        try simp only [Act.put, zP, zQ, zR]
        refine wpAnyH_take (i := 9) (oi := ⟨some 7, _, _, _, _, _⟩) (v := ?_) rfl (by kernel_rfl) (by kernel_rfl) (by kernel_rfl) (fun _ _ _ h => h) (Or.inl ⟨by rfl, ?_⟩) hS ?_
        rotate_left
        · intro wq hq
          first | (go_simp; done) | (go_simp; rfl)
        try simp only [Act.put, zP, zQ, zR]
        refine wpAnyH_take (i := 10) (oi := ⟨some 8, _, _, _, _, _⟩) (v := ?_) rfl (by kernel_rfl) (by kernel_rfl) (by kernel_rfl) (fun _ _ _ h => h) (Or.inl ⟨by rfl, ?_⟩) hS ?_
        rotate_left
        · intro wq hq
          first | (go_simp; done) | (go_simp; rfl)
        try simp only [Act.put, zP, zQ, zR]
        refine wpAnyH_done (by kernel_rfl) ?_ _
        go_wp2_with fail
        go_meet
        exact ⟨_, _, A8, rfl, rfl, hS3, h7, (hr8.below hb1).more hb1.size⟩
    case rest =>
      obtain ⟨A7, c7, A8, rfl, rfl, hB⟩ := hcut
      have cK := hB.src.cK
      have HBd := Lib.hid hB
      clear hB
      have HL : Hid (RdL (wc.alloc (.cells (([(some ⟨w.heap.size, 1, none⟩, 8, 8), (A5, 4, c5), (A7, 1, c7), (A8, nb r.v6, 16)] : List (Option Addr × Nat × Nat)).map fun v => Value.slice v.1 v.2.1 v.2.2).toArray 38)) (wc.alloc (.cells (([(some ⟨w.heap.size, 1, none⟩, 8, 8), (A5, 4, c5), (A7, 1, c7), (A8, nb r.v6, 16)] : List (Option Addr × Nat × Nat)).map fun v => Value.slice v.1 v.2.1 v.2.2).toArray 38)).heap.size (some ⟨wc.heap.size, 0, none⟩) 4 [r.rd, be 4 r.tg, [r.pn % 256], r.pl.take (nb r.v6)]) := Lib.hid (rdl_new (W := wc) (vs := [(some ⟨w.heap.size, 1, none⟩, 8, 8), (A5, 4, c5), (A7, 1, c7), (A8, nb r.v6, 16)]) (ls := [r.rd, be 4 r.tg, [r.pn % 256], r.pl.take (nb r.v6)]) ⟨HBd.out.src.sRd HR.out HBd.out.src.lt, HBd.out.r5, HBd.out.r7, HBd.out.r8, trivial⟩ 38 _ rfl)
      have HLow := Lib.hid HBd.out.low
      clear HBd
      go_wp2_with fail
      refine (concat_is _ _ 4 4 _ HL.out (by omega) (by rw [HF.out]; exact HLen.out)).mono ?_
      rintro e w9 ⟨v, rfl, hO, hB9⟩
      have HEnd := Lib.hid (show OwnB w.heap.size w9 v (bodyR r) ∧ Below w.heap.size w w9 from ⟨by rw [← HF.out]; exact hO.low (by have := HLow.out.size; simp; omega), (HLow.out.trans ((below_one wc _).mono HLow.out.size)).trans (hB9.mono (by have := HLow.out.size; simp; omega))⟩)
      clear hO hB9
      go_wp2
      go_ret
      exact ⟨v, rfl, HEnd.out.1, HEnd.out.2⟩

set_option maxHeartbeats 4000000 in
set_option maxRecDepth 100000 in
theorem body_4 (w : World) (r : Rt) (hr : RtOk r) (hf : RightF r) (hk : r.k = 4) : Calls Tryz.prog 196 #[.agg (rtc r).toArray] w fun e w' => ∃ v, e = .returned v ∧ OwnB w.heap.size w' v (bodyR r) ∧ Below w.heap.size w w' := by
  have HR := Lib.hid hr
  have H1 := Lib.hid ((RtAt.new w r hr 53).keep (w' := (w.alloc (.cells (rtc r).toArray 53)).drew) rfl)
  have HB1 := Lib.hid (below_drewN ((Below.refl w.heap.size w).alloc (Nat.le_refl _) (.cells (rtc r).toArray 53)) 1)
  have HN4 : Hid (∀ W, Calls Tryz.prog 220 #[.int .u32 r.tg, .int .i64 4] W fun e W' => ∃ A c, e = .returned (.slice A 4 c) ∧ Rd W' W'.heap.size A 4 (be 4 r.tg) ∧ Below W.heap.size W W') := Lib.hid (fun W => (numb_is W r.tg 4 hr.tg (by omega) (by omega) (be4_fit hr.tg)).mono (by
    rintro e W' ⟨A, c, rfl, _, h2, h3⟩
    exact ⟨A, c, rfl, h2, h3⟩))
  have HN3 : Hid (∀ W, Calls Tryz.prog 220 #[.int .u32 r.lb, .int .i64 3] W fun e W' => ∃ A c, e = .returned (.slice A 3 c) ∧ Rd W' W'.heap.size A 3 (be 3 r.lb) ∧ Below W.heap.size W W') := Lib.hid (fun W => (numb_is W r.lb 3 hr.lb (by omega) (by omega) (by have := hf.lb.2; omega)).mono (by
    rintro e W' ⟨A, c, rfl, _, h2, h3⟩
    exact ⟨A, c, rfl, h2, h3⟩))
  have HAd : Hid (∀ W, Calls Tryz.prog 221 #[.agg (ipc r.v6 r.pl).toArray] W fun e W' => ∃ A, e = .returned (.slice A (nb r.v6) 16) ∧ Rd W' W'.heap.size A (nb r.v6) (r.pl.take (nb r.v6)) ∧ Below W.heap.size W W') := Lib.hid (fun W => addr_at W r.v6 r.pl hr.pl hr.opl)
  have hs8 : ∀ W, (Instr.sliceAt 45 (.pointer (some ⟨w.heap.size, 1, none⟩)) none none none).run Tryz.prog W = .ok (.slice (some ⟨w.heap.size, 1, none⟩) 8 8) W := fun W => by go_simp
  have hs10 : ∀ W, (Instr.sliceAt 47 (.pointer (some ⟨w.heap.size, 9, none⟩)) none none none).run Tryz.prog W = .ok (.slice (some ⟨w.heap.size, 9, none⟩) 10 10) W := fun W => by go_simp
  have HF : Hid (([r.rd, r.es, [r.pn % 256], r.pl.take (nb r.v6)] : List (List Int)).flatten = bodyR r) := Lib.hid (by unfold bodyR; rw [if_neg (by omega)]; rw [if_neg (by omega)]; rw [if_neg (by omega)]; rw [if_pos hk]; simp)
  have HLen : Hid ((bodyR r).length ≤ 140737488355328) := Lib.hid (by unfold bodyR; rw [if_neg (by omega)]; rw [if_neg (by omega)]; rw [if_neg (by omega)]; rw [if_pos hk]; simp [be_len, hr.rd, hr.es, hr.pl, hr.gl] <;> omega)
  have e1 : (r.k == 1) = false := by rw [beq_eq_false_iff_ne]; omega
  have e2 : (r.k == 2) = false := by rw [beq_eq_false_iff_ne]; omega
  have e3 : (r.k == 3) = false := by rw [beq_eq_false_iff_ne]; omega
  have e4 : (r.k == 4) = true := by rw [beq_iff_eq]; omega
  clear hk
  clear hr hf
  go_enter Tryz.func196, Tryz.ntmps196
  go_wp2
  refine wp_region_held_drew (S := fun W => RtAt W w.heap.size r) (by kernel_rfl) (H1.out) (fun hS => ?_)
  refine wpAnyH_take (i := 0) (oi := ⟨some 9, _, _, _, _, _⟩) (v := ?_) rfl (by kernel_rfl) (by kernel_rfl) (by kernel_rfl) (fun _ _ _ h => h) (Or.inl ⟨by rfl, ?_⟩) hS ?_
  rotate_left
  · intro wq hq
    first | (go_simp; done) | (go_simp; rfl)
  try simp only [Act.put, zP, zQ, zR]
  refine wpAnyH_take (i := 1) (oi := ⟨some 10, _, _, _, _, _⟩) (v := ?_) rfl (by kernel_rfl) (by kernel_rfl) (by kernel_rfl) (fun _ _ _ h => h) (Or.inl ⟨by rfl, ?_⟩) hS ?_
  rotate_left
  · intro wq hq
    first | (go_simp; done) | (go_simp; rfl)
  try simp only [Act.put, zP, zQ, zR]
  refine wpAnyH_take (i := 2) (oi := ⟨some 11, _, _, _, _, _⟩) (v := ?_) rfl (by kernel_rfl) (by kernel_rfl) (by kernel_rfl) (fun _ _ _ h => h) (Or.inl ⟨by rfl, ?_⟩) hS ?_
  rotate_left
  · intro wq hq
    first | (go_simp; done) | (go_simp; rfl)
  try simp only [Act.put, zP, zQ, zR]
  refine wpAnyH_take (i := 3) (oi := ⟨some 12, _, _, _, _, _⟩) (v := ?_) rfl (by kernel_rfl) (by kernel_rfl) (by kernel_rfl) (fun _ _ _ h => h) (Or.inl ⟨by rfl, ?_⟩) hS ?_
  rotate_left
  · intro wq hq
    first | (go_simp; done) | (go_simp; rfl)
  try simp only [Act.put, zP, zQ, zR]
  refine wpAnyH_take (i := 4) (oi := ⟨some 3, _, _, _, _, _⟩) (v := ?_) rfl (by kernel_rfl) (by kernel_rfl) (by kernel_rfl) (fun _ _ _ h => h) (Or.inl ⟨by rfl, ?_⟩) hS ?_
  rotate_left
  · intro wq hq
    first | (go_simp; done) | (go_simp; rfl)
  try simp only [Act.put, zP, zQ, zR]
  refine wpAnyH_take (i := 5) (oi := ⟨some 4, _, _, _, _, _⟩) (v := ?_) rfl (by kernel_rfl) (by kernel_rfl) (by kernel_rfl) (fun _ _ _ h => h) (Or.inl ⟨by rfl, ?_⟩) hS ?_
  rotate_left
  · intro wq hq
    first | (go_simp; done) | (go_simp; rfl)
  try simp only [Act.put, zP, zQ, zR]
  refine wpAnyH_done (by kernel_rfl) ?_ _
  clear hS hs8 hs10
  go_wp2_with fail
  have HW1 := Lib.hid (show RtAt ((w.alloc (.cells (rtc r).toArray 53)).drew) w.heap.size r ∧ Below w.heap.size w ((w.alloc (.cells (rtc r).toArray 53)).drew) from ⟨H1.out, HB1.out⟩)
  clear H1 HB1
  generalize (w.alloc (.cells (rtc r).toArray 53)).drew = W1 at *
  go_cut [5, 6] (fun s5 s6 wx => CutA w r s5 s6 wx)
  case first =>
    refine wp_region_held_drew (S := fun W => RtAt W w.heap.size r ∧ Below w.heap.size w W) (by kernel_rfl) (⟨HW1.out.1.keep rfl, below_drewN HW1.out.2 1⟩) (fun hS => ?_)
    refine wpAnyH_take (i := 0) (oi := ⟨some 13, _, _, _, _, _⟩) (v := ?_) rfl (by kernel_rfl) (by kernel_rfl) (by kernel_rfl) (fun _ _ _ h => h) (Or.inl ⟨by rfl, ?_⟩) hS ?_
    rotate_left
    · intro wq hq
      first | (go_simp; done) | (go_simp; rfl)
    try simp only [Act.put, zP, zQ, zR]
    refine wpAnyH_take (i := 1) (oi := ⟨some 14, _, _, _, _, _⟩) (v := ?_) rfl (by kernel_rfl) (by kernel_rfl) (by kernel_rfl) (fun _ _ _ h => h) (Or.inl ⟨by rfl, ?_⟩) hS ?_
    rotate_left
    · intro wq hq
      have hc := hq.1.cTg HR.out
      first | (go_simp; done) | (go_simp; rfl)
    try simp only [Act.put, zP, zQ, zR]
    refine wpAnyH_take (i := 3) (oi := ⟨some 16, _, _, _, _, _⟩) (v := ?_) rfl (by kernel_rfl) (by kernel_rfl) (by kernel_rfl) (fun _ _ _ h => h) (Or.inl ⟨by rfl, ?_⟩) hS ?_
    rotate_left
    · intro wq hq
      first | (go_simp; done) | (go_simp; rfl)
    try simp only [Act.put, zP, zQ, zR]
    refine wpAnyH_take (i := 4) (oi := ⟨some 17, _, _, _, _, _⟩) (v := ?_) rfl (by kernel_rfl) (by kernel_rfl) (by kernel_rfl) (fun _ _ _ h => h) (Or.inl ⟨by rfl, ?_⟩) hS ?_
    rotate_left
    · intro wq hq
      have hc := hq.1.cLb HR.out
      first | (go_simp; done) | (go_simp; rfl)
    try simp only [Act.put, zP, zQ, zR]
    refine wpAnyH_ready (rs := [2]) (by kernel_rfl) (by simp) ?_
    refine AllReadyH.cons (o := ⟨some 15, _, _, _, _, _⟩) rfl (fun K hK => ?_) AllReadyH.nil
    rw [if_pos (by rfl)]
    go_wp2_with fail
    refine (HN4.out _).mono ?_
    rintro e w2 ⟨A5, c5, rfl, hr5, hB5⟩
    have hS2 : RtAt w2 w.heap.size r ∧ Below w.heap.size w w2 := ⟨hS.1.below hB5 hS.1.lt, hS.2.trans (hB5.mono hS.2.size)⟩
    refine hK.out _ _ (hS2) (fun hS => ?_)
    clear hK K
    try simp only [Act.put, zP, zQ, zR]
    refine wpAnyH_ready (rs := [5]) (by kernel_rfl) (by simp) ?_
    refine AllReadyH.cons (o := ⟨some 18, _, _, _, _, _⟩) rfl (fun K hK => ?_) AllReadyH.nil
    rw [if_pos (by rfl)]
    go_wp2_with fail
    refine (HN3.out _).mono ?_
    rintro e w3 ⟨A6, c6, rfl, hr6, hB6⟩
    have hS3 : RtAt w3 w.heap.size r ∧ Below w.heap.size w w3 := ⟨hS.1.below hB6 hS.1.lt, hS.2.trans (hB6.mono hS.2.size)⟩
    refine hK.out _ _ (hS3) (fun hS => ?_)
    clear hK K
    try simp only [Act.put, zP, zQ, zR]
    refine wpAnyH_take (i := 6) (oi := ⟨some 5, _, _, _, _, _⟩) (v := ?_) rfl (by kernel_rfl) (by kernel_rfl) (by kernel_rfl) (fun _ _ _ h => h) (Or.inl ⟨by rfl, ?_⟩) hS ?_
    rotate_left
    · intro wq hq
      first | (go_simp; done) | (go_simp; rfl)
    try simp only [Act.put, zP, zQ, zR]
    refine wpAnyH_take (i := 7) (oi := ⟨some 6, _, _, _, _, _⟩) (v := ?_) rfl (by kernel_rfl) (by kernel_rfl) (by kernel_rfl) (fun _ _ _ h => h) (Or.inl ⟨by rfl, ?_⟩) hS ?_
    rotate_left
    · intro wq hq
      first | (go_simp; done) | (go_simp; rfl)
    try simp only [Act.put, zP, zQ, zR]
    refine wpAnyH_done (by kernel_rfl) ?_ _
    go_wp2_with fail
    go_meet
    exact ⟨A5, c5, A6, c6, rfl, rfl, hS3.1, hS3.2, (hr5.below hB6).more hB6.size, hr6⟩
  case rest =>
    obtain ⟨A5, c5, A6, c6, rfl, rfl, hA⟩ := hcut
    have HA := Lib.hid (show BdA w wc.drew r A5 A6 from hA.below (below_drew wc))
    clear hA
    go_wp2_with fail
    go_cut [7, 8] (fun s7 s8 wx => CutB w r A5 A6 s7 s8 wx)
    case first =>
      refine wp_region_held_drew (S := fun W => BdA w W r A5 A6) (by kernel_rfl) (HA.out) (fun hS => ?_)
      refine wpAnyH_take (i := 0) (oi := ⟨some 19, _, _, _, _, _⟩) (v := ?_) rfl (by kernel_rfl) (by kernel_rfl) (by kernel_rfl) (fun _ _ _ h => h) (Or.inl ⟨by rfl, ?_⟩) hS ?_
      rotate_left
      · intro wq hq
        first | (go_simp; done) | (go_simp; rfl)
      try simp only [Act.put, zP, zQ, zR]
      refine wpAnyH_take (i := 1) (oi := ⟨some 20, _, _, _, _, _⟩) (v := ?_) rfl (by kernel_rfl) (by kernel_rfl) (by kernel_rfl) (fun _ _ _ h => h) (Or.inl ⟨by rfl, ?_⟩) hS ?_
      rotate_left
      · intro wq hq
        first | (go_simp; done) | (go_simp; rfl)
      try simp only [Act.put, zP, zQ, zR]
      refine wpAnyH_take (i := 2) (oi := ⟨some 21, _, _, _, _, _⟩) (v := ?_) rfl (by kernel_rfl) (by kernel_rfl) (by kernel_rfl) (fun _ _ _ h => h) (Or.inl ⟨by rfl, ?_⟩) hS ?_
      rotate_left
      · intro wq hq
        have hc := hq.src.cPn HR.out
        first | (go_simp; done) | (go_simp; rfl)
      try simp only [Act.put, zP, zQ, zR]
      refine wpAnyH_take (i := 3) (oi := ⟨some 22, _, _, _, _, _⟩) (v := ?_) rfl (by kernel_rfl) (by kernel_rfl) (by kernel_rfl) (fun _ _ _ h => h) (Or.inl ⟨by rfl, ?_⟩) hS ?_
      rotate_left
      · intro wq hq
        first | (go_simp; done) | (go_simp; rfl)
      try simp only [Act.put, zP, zQ, zR]
      refine wpAnyH_take (i := 5) (oi := ⟨some 24, _, _, _, _, _⟩) (v := ?_) rfl (by kernel_rfl) (by kernel_rfl) (by kernel_rfl) (fun _ _ _ h => h) (Or.inl ⟨by rfl, ?_⟩) hS ?_
      rotate_left
      · intro wq hq
        first | (go_simp; done) | (go_simp; rfl)
      try simp only [Act.put, zP, zQ, zR]
      refine wpAnyH_take (i := 6) (oi := ⟨some 25, _, _, _, _, _⟩) (v := ?_) rfl (by kernel_rfl) (by kernel_rfl) (by kernel_rfl) (fun _ _ _ h => h) (Or.inl ⟨by rfl, ?_⟩) hS ?_
      rotate_left
      · intro wq hq
        first | (go_simp; done) | (go_simp; rfl)
      try simp only [Act.put, zP, zQ, zR]
      refine wpAnyH_take (i := 7) (oi := ⟨some 26, _, _, _, _, _⟩) rfl (by kernel_rfl) (by kernel_rfl) (by kernel_rfl) (fun _ _ _ h => h) (yieldsIf_load_mid (by rfl) 27 _ rfl _ _ rfl (ipc r.v6 r.pl) _ (fun wq hq => hq.src.rIp HR.out) Tryz.underlying27 rfl (sz_ip HR.out)) hS ?_
      try simp only [Act.put, zP, zQ, zR]
      refine wpAnyH_ready (rs := [4, 8]) (by kernel_rfl) (by simp) ?_
      refine AllReadyH.cons (o := ⟨some 23, _, _, _, _, _⟩) rfl (fun K hK => ?_) (AllReadyH.cons (o := ⟨some 27, _, _, _, _, _⟩) rfl (fun K hK => ?_) AllReadyH.nil)
      · rw [if_pos (by rfl)]
        go_wp2
        have h7 := byt1_rd wc.drew (r.pn % 256) (Int.emod_nonneg _ (by decide)) (Int.emod_lt_of_pos _ (by decide))
        have hS2 := hS.below (below_one wc.drew (.cells #[.int .u8 (r.pn % 256)] 5))
        refine hK.out _ _ (hS2) (fun hS => ?_)
        clear hK K
        try simp only [Act.put, zP, zQ, zR]
        refine wpAnyH_ready (rs := [8]) (by kernel_rfl) (by simp) ?_
        refine AllReadyH.cons (o := ⟨some 27, _, _, _, _, _⟩) rfl (fun K hK => ?_) AllReadyH.nil
        rw [if_pos (by rfl)]
        go_wp2_with fail
        refine (HAd.out _).mono ?_
        rintro e w3 ⟨A8, rfl, hr8, hB8⟩
        have hS3 := hS.below hB8
        refine hK.out _ _ (hS3) (fun hS => ?_)
        clear hK K
        try simp only [Act.put, zP, zQ, zR]
        refine wpAnyH_take (i := 9) (oi := ⟨some 7, _, _, _, _, _⟩) (v := ?_) rfl (by kernel_rfl) (by kernel_rfl) (by kernel_rfl) (fun _ _ _ h => h) (Or.inl ⟨by rfl, ?_⟩) hS ?_
        rotate_left
        · intro wq hq
          first | (go_simp; done) | (go_simp; rfl)
        try simp only [Act.put, zP, zQ, zR]
        refine wpAnyH_take (i := 10) (oi := ⟨some 8, _, _, _, _, _⟩) (v := ?_) rfl (by kernel_rfl) (by kernel_rfl) (by kernel_rfl) (fun _ _ _ h => h) (Or.inl ⟨by rfl, ?_⟩) hS ?_
        rotate_left
        · intro wq hq
          first | (go_simp; done) | (go_simp; rfl)
        try simp only [Act.put, zP, zQ, zR]
        refine wpAnyH_done (by kernel_rfl) ?_ _
        go_wp2_with fail
        go_meet
        exact ⟨_, _, A8, rfl, rfl, hS3, (h7.below hB8).more hB8.size, hr8⟩
      · rw [if_pos (by rfl)]
        go_wp2_with fail
        refine (HAd.out _).mono ?_
        rintro e w2 ⟨A8, rfl, hr8, hB8⟩
        have hS2 := hS.below hB8
        refine hK.out _ _ (hS2) (fun hS => ?_)
        clear hK K
        try simp only [Act.put, zP, zQ, zR]
        refine wpAnyH_ready (rs := [4]) (by kernel_rfl) (by simp) ?_
        refine AllReadyH.cons (o := ⟨some 23, _, _, _, _, _⟩) rfl (fun K hK => ?_) AllReadyH.nil
        rw [if_pos (by rfl)]
        go_wp2
        have h7 := byt1_rd w2 (r.pn % 256) (Int.emod_nonneg _ (by decide)) (Int.emod_lt_of_pos _ (by decide))
        have hb1 := below_one w2 (.cells #[.int .u8 (r.pn % 256)] 5)
        have hS3 := hS.below hb1
        refine hK.out _ _ (hS3) (fun hS => ?_)
        clear hK K
        try simp only [Act.put, zP, zQ, zR]
        refine wpAnyH_take (i := 9) (oi := ⟨some 7, _, _, _, _, _⟩) (v := ?_) rfl (by kernel_rfl) (by kernel_rfl) (by kernel_rfl) (fun _ _ _ h => h) (Or.inl ⟨by rfl, ?_⟩) hS ?_
        rotate_left
        · intro wq hq
          first | (go_simp; done) | (go_simp; rfl)
        try simp only [Act.put, zP, zQ, zR]
        refine wpAnyH_take (i := 10) (oi := ⟨some 8, _, _, _, _, _⟩) (v := ?_) rfl (by kernel_rfl) (by kernel_rfl) (by kernel_rfl) (fun _ _ _ h => h) (Or.inl ⟨by rfl, ?_⟩) hS ?_
        rotate_left
        · intro wq hq
          first | (go_simp; done) | (go_simp; rfl)
        try simp only [Act.put, zP, zQ, zR]
        refine wpAnyH_done (by kernel_rfl) ?_ _
        go_wp2_with fail
        go_meet
        exact ⟨_, _, A8, rfl, rfl, hS3, h7, (hr8.below hb1).more hb1.size⟩
    case rest =>
      obtain ⟨A7, c7, A8, rfl, rfl, hB⟩ := hcut
      have cK := hB.src.cK
      have HBd := Lib.hid hB
      clear hB
      have HL : Hid (RdL (wc.alloc (.cells (([(some ⟨w.heap.size, 1, none⟩, 8, 8), (some ⟨w.heap.size, 9, none⟩, 10, 10), (A7, 1, c7), (A8, nb r.v6, 16)] : List (Option Addr × Nat × Nat)).map fun v => Value.slice v.1 v.2.1 v.2.2).toArray 38)) (wc.alloc (.cells (([(some ⟨w.heap.size, 1, none⟩, 8, 8), (some ⟨w.heap.size, 9, none⟩, 10, 10), (A7, 1, c7), (A8, nb r.v6, 16)] : List (Option Addr × Nat × Nat)).map fun v => Value.slice v.1 v.2.1 v.2.2).toArray 38)).heap.size (some ⟨wc.heap.size, 0, none⟩) 4 [r.rd, r.es, [r.pn % 256], r.pl.take (nb r.v6)]) := Lib.hid (rdl_new (W := wc) (vs := [(some ⟨w.heap.size, 1, none⟩, 8, 8), (some ⟨w.heap.size, 9, none⟩, 10, 10), (A7, 1, c7), (A8, nb r.v6, 16)]) (ls := [r.rd, r.es, [r.pn % 256], r.pl.take (nb r.v6)]) ⟨HBd.out.src.sRd HR.out HBd.out.src.lt, HBd.out.src.sEs HR.out HBd.out.src.lt, HBd.out.r7, HBd.out.r8, trivial⟩ 38 _ rfl)
      have HLow := Lib.hid HBd.out.low
      clear HBd
      go_wp2_with fail
      refine (concat_is _ _ 4 4 _ HL.out (by omega) (by rw [HF.out]; exact HLen.out)).mono ?_
      rintro e w9 ⟨v, rfl, hO, hB9⟩
      have HEnd := Lib.hid (show OwnB w.heap.size w9 v (bodyR r) ∧ Below w.heap.size w w9 from ⟨by rw [← HF.out]; exact hO.low (by have := HLow.out.size; simp; omega), (HLow.out.trans ((below_one wc _).mono HLow.out.size)).trans (hB9.mono (by have := HLow.out.size; simp; omega))⟩)
      clear hO hB9
      go_wp2
      go_ret
      exact ⟨v, rfl, HEnd.out.1, HEnd.out.2⟩

end Go.Proofs.YtdgoeibfggjbmaaGreatDoor
