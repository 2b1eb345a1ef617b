/-
  Put together: NlC NlD NlE.
-/
import Derived.Test.YtdgoeibfggjbmaaGreatDoorMNA
import Derived.Test.YtdgoeibfggjbmaaGreatDoorMU
import Derived.Test.YtdgoeibfggjbmaaGreatDoorMO
import Derived.Lib.AppendZerosOnto
import Derived.Laws.MakeOwn
import Derived.Maps.AppendAt
namespace Go.Proofs.YtdgoeibfggjbmaaGreatDoor
open Go.RowKit
set_option maxRecDepth 100000
set_option linter.unusedSimpArgs false
set_option linter.unusedVariables false

theorem isKind_is (w : World) (k : Int) : Calls Tryz.prog 189 #[.int .i64 k] w fun e w' => e = .returned (.bool (decide (1 ≤ k ∧ k ≤ 5))) ∧ w' = w := by
  by_cases h1 : 1 ≤ k
  · by_cases h5 : k ≤ 5
    · rw [show decide (1 ≤ k ∧ k ≤ 5) = true from decide_eq_true ⟨h1, h5⟩]
      go_enter Tryz.func189, Tryz.ntmps189
      go_wp2
      go_ret
      exact ⟨rfl, rfl⟩
    · rw [show decide (1 ≤ k ∧ k ≤ 5) = false from decide_eq_false (fun h => h5 h.2)]
      go_enter Tryz.func189, Tryz.ntmps189
      go_wp2
      go_ret
      exact ⟨rfl, rfl⟩
  · rw [show decide (1 ≤ k ∧ k ≤ 5) = false from decide_eq_false (fun h => h1 h.1)]
    go_enter Tryz.func189, Tryz.ntmps189
    go_wp2
    go_ret
    exact ⟨rfl, rfl⟩

def labelsB (r : Rt) : Bool := decide (r.lb ≤ 16777215) && decide (r.l2 ≤ 16777215)
theorem rtc_at {r : Rt} {pre post : List Value} {v : Value} {o : Nat} (e : rtc r = pre ++ ([v] ++ post)) (ho : pre.length = o) : (rtc r)[o]? = some v := by
  subst ho
  rw [e, List.getElem?_append_right (Nat.le_refl _), Nat.sub_self]
  rfl
theorem labels_is (w : World) (r : Rt) (hr : RtOk r) : Calls Tryz.prog 191 #[.agg (rtc r).toArray] w fun e w' => e = .returned (.bool (labelsB r)) ∧ Below w.heap.size w w' := by
  have c1 := rtc_at (rtc_lb r) (preLb_len hr)
  have c2 := rtc_at (rtc_l2 r) (preL2_len hr)
  unfold labelsB
  by_cases h1 : r.lb ≤ 16777215
  · by_cases h2 : r.l2 ≤ 16777215
    · rw [decide_eq_true h1, decide_eq_true h2]
      go_enter Tryz.func191, Tryz.ntmps191
      go_wp2
      go_ret
      exact ⟨rfl, (Below.refl _ _).alloc (Nat.le_refl _) _⟩
    · rw [decide_eq_true h1, decide_eq_false h2]
      go_enter Tryz.func191, Tryz.ntmps191
      go_wp2
      go_ret
      exact ⟨rfl, (Below.refl _ _).alloc (Nat.le_refl _) _⟩
  · rw [decide_eq_false h1]
    go_enter Tryz.func191, Tryz.ntmps191
    go_wp2
    go_ret
    exact ⟨rfl, (Below.refl _ _).alloc (Nat.le_refl _) _⟩

def wholeB (v : Bool) (l : List Int) (n : Int) : Bool := rightPfB v l n && decide (n = bitsOf v)
theorem pfsz (v : Bool) (l : List Int) (n : Int) (hl : l.length = 16) : (Tryz.prog.info? 51).map (·.size) = some (pfc v l n).length := by rw [pfc_len, hl]; kernel_rfl
set_option maxHeartbeats 1000000 in
theorem whole_is (w : World) (v : Bool) (l : List Int) (n : Int) (hl : l.length = 16) (ho : Oct l) (hn : I64 n) : Calls Tryz.prog 218 #[.agg (pfc v l n).toArray] w fun e w' => e = .returned (.bool (wholeB v l n)) ∧ Below w.heap.size w w' := by
  have HL := Lib.hid hl
  have HC : Hid (∀ W : World, W.rangeAt w.heap.size 0 (pfc v l n) → W.cell? ⟨w.heap.size, 17, none⟩ = some (.int .i64 n)) := Lib.hid (fun W hW => by
    have := (range_post (cs := ipc v l) (ds := [Value.int .i64 n]) hW) 0 _ rfl
    rwa [show 0 + (ipc v l).length + 0 = 17 by simp [hl]] at this)
  have HS0 := Lib.hid (range_drewN (range_new w 51 (pfc v l n)) 1)
  have HB0 := Lib.hid (below_drewN ((Below.refl w.heap.size w).alloc (Nat.le_refl _) (.cells (pfc v l n).toArray 51)) 1)
  have HE : Hid (∀ b, rightPfB v l n = b → wholeB v l n = (b && decide (n = bitsOf v))) := Lib.hid (fun b hb => by unfold wholeB; rw [hb])
  have HPF := Lib.hid (fun W => rpf_is W v l n hl ho hn)
  clear hl ho hn
  go_enter Tryz.func218, Tryz.ntmps218
  go_wp2
  refine wp_region_held_drew (S := fun w' => w'.rangeAt w.heap.size 0 (pfc v l n)) (by kernel_rfl) (HS0.out) (fun hS => ?_)
  refine wpAnyH_take (i := 0) (oi := ⟨some 3, _, _, _, _, _⟩) rfl (by kernel_rfl) (by kernel_rfl) (by kernel_rfl) (fun _ _ _ h => h) (yieldsIf_load_mid (by rfl) 51 _ rfl _ _ rfl (pfc v l n) _ (fun wq hq => hq) Tryz.underlying51 rfl (pfsz v l n HL.out)) hS ?_
  try simp only [Act.put, zP, zQ, zR]
  refine wpAnyH_ready (rs := [1]) (by kernel_rfl) (by simp) ?_
  refine AllReadyH.cons (o := ⟨some 4, _, _, _, _, _⟩) rfl (fun K hK => ?_) AllReadyH.nil
  rw [if_pos (by rfl)]
  go_wp2_with fail
  refine (HPF.out _).mono ?_
  rintro e w1 ⟨rfl, hB⟩
  have hS1 := range_below hS hB (by simp)
  have HB := Lib.hid (HB0.out.trans (hB.mono HB0.out.size))
  have hsz : w.heap.size < w1.heap.size := by have := hB.size; simp at this; omega
  clear hB
  refine hK.out _ _ (hS1) (fun hS => ?_)
  clear hK K
  try simp only [Act.put, zP, zQ, zR]
  refine wpAnyH_take (i := 2) (oi := ⟨some 5, _, _, _, _, _⟩) (v := ?_) rfl (by kernel_rfl) (by kernel_rfl) (by kernel_rfl) (fun _ _ _ h => h) (Or.inl ⟨by rfl, ?_⟩) hS ?_
  rotate_left
  · intro wq hq
    first | (go_simp; done) | (go_simp; rfl)
  try simp only [Act.put, zP, zQ, zR]
  cases hp : rightPfB v l n
  · have HV := Lib.hid (HE.out false hp)
    clear hp
    refine wpAnyH_take (i := 3) (oi := ⟨some 6, _, _, _, _, _⟩) (v := undef) rfl (by kernel_rfl) (by kernel_rfl) (by kernel_rfl) (fun _ _ _ h => h) (Or.inr ⟨by rfl, rfl⟩) hS ?_
    try simp only [Act.put, zP, zQ, zR]
    refine wpAnyH_take (i := 4) (oi := ⟨some 7, _, _, _, _, _⟩) (v := undef) rfl (by kernel_rfl) (by kernel_rfl) (by kernel_rfl) (fun _ _ _ h => h) (Or.inr ⟨by rfl, rfl⟩) hS ?_
    try simp only [Act.put, zP, zQ, zR]
    refine wpAnyH_take (i := 5) (oi := ⟨some 8, _, _, _, _, _⟩) (v := undef) rfl (by kernel_rfl) (by kernel_rfl) (by kernel_rfl) (fun _ _ _ h => h) (Or.inr ⟨by rfl, rfl⟩) hS ?_
    try simp only [Act.put, zP, zQ, zR]
    refine wpAnyH_take (i := 6) (oi := ⟨some 9, _, _, _, _, _⟩) (v := undef) rfl (by kernel_rfl) (by kernel_rfl) (by kernel_rfl) (fun _ _ _ h => h) (Or.inr ⟨by rfl, rfl⟩) hS ?_
    try simp only [Act.put, zP, zQ, zR]
    refine wpAnyH_take (i := 7) (oi := ⟨some 10, _, _, _, _, _⟩) (v := undef) rfl (by kernel_rfl) (by kernel_rfl) (by kernel_rfl) (fun _ _ _ h => h) (Or.inr ⟨by rfl, rfl⟩) hS ?_
    try simp only [Act.put, zP, zQ, zR]
    refine wpAnyH_take (i := 8) (oi := ⟨some 11, _, _, _, _, _⟩) (v := undef) rfl (by kernel_rfl) (by kernel_rfl) (by kernel_rfl) (fun _ _ _ h => h) (Or.inr ⟨by rfl, rfl⟩) hS ?_
    try simp only [Act.put, zP, zQ, zR]
    refine wpAnyH_take (i := 9) (oi := ⟨some 12, _, _, _, _, _⟩) (v := ?_) rfl (by kernel_rfl) (by kernel_rfl) (by kernel_rfl) (fun _ _ _ h => h) (Or.inl ⟨by rfl, ?_⟩) hS ?_
    rotate_left
    · intro wq hq
      first | (go_simp; done) | (go_simp; rfl)
    try simp only [Act.put, zP, zQ, zR]
    refine wpAnyH_take (i := 10) (oi := ⟨some 2, _, _, _, _, _⟩) (v := ?_) rfl (by kernel_rfl) (by kernel_rfl) (by kernel_rfl) (fun _ _ _ h => h) (Or.inl ⟨by rfl, ?_⟩) hS ?_
    rotate_left
    · intro wq hq
      first | (go_simp; done) | (go_simp; rfl)
    try simp only [Act.put, zP, zQ, zR]
    refine wpAnyH_done (by kernel_rfl) ?_ _
    go_wp2
    go_ret
    exact ⟨by rw [HV.out]; rfl, HB.out⟩
  · have HV := Lib.hid (HE.out true hp)
    clear hp
    refine wpAnyH_take (i := 3) (oi := ⟨some 6, _, _, _, _, _⟩) (v := ?_) rfl (by kernel_rfl) (by kernel_rfl) (by kernel_rfl) (fun _ _ _ h => h) (Or.inl ⟨by rfl, ?_⟩) hS ?_
    rotate_left
    · intro wq hq
      first | (go_simp; done) | (go_simp; rfl)
    try simp only [Act.put, zP, zQ, zR]
    refine wpAnyH_take (i := 4) (oi := ⟨some 7, _, _, _, _, _⟩) (v := ?_) rfl (by kernel_rfl) (by kernel_rfl) (by kernel_rfl) (fun _ _ _ h => h) (Or.inl ⟨by rfl, ?_⟩) hS ?_
    rotate_left
    · intro wq hq
      have hc := HC.out _ hq
      first | (go_simp; done) | (go_simp; rfl)
    try simp only [Act.put, zP, zQ, zR]
    refine wpAnyH_take (i := 5) (oi := ⟨some 8, _, _, _, _, _⟩) (v := ?_) rfl (by kernel_rfl) (by kernel_rfl) (by kernel_rfl) (fun _ _ _ h => h) (Or.inl ⟨by rfl, ?_⟩) hS ?_
    rotate_left
    · intro wq hq
      first | (go_simp; done) | (go_simp; rfl)
    try simp only [Act.put, zP, zQ, zR]
    refine wpAnyH_take (i := 6) (oi := ⟨some 9, _, _, _, _, _⟩) rfl (by kernel_rfl) (by kernel_rfl) (by kernel_rfl) (fun _ _ _ h => h) (yieldsIf_load_mid (by rfl) 27 _ rfl _ _ rfl (ipc v l) _ (fun wq hq => range_pre (ds := [Value.int .i64 n]) hq) Tryz.underlying27 rfl (ip_size v l HL.out)) hS ?_
    try simp only [Act.put, zP, zQ, zR]
    refine wpAnyH_ready (rs := [7]) (by kernel_rfl) (by simp) ?_
    refine AllReadyH.cons (o := ⟨some 10, _, _, _, _, _⟩) rfl (fun K hK => ?_) AllReadyH.nil
    rw [if_pos (by rfl)]
    go_wp2_with fail
    refine (bits_is _ v l).mono ?_
    rintro e w2 ⟨rfl, hB2⟩
    have hS2 := range_below hS hB2 hsz
    have HB2 := Lib.hid (HB.out.trans (hB2.mono HB.out.size))
    clear hB2
    refine hK.out _ _ (hS2) (fun hS => ?_)
    clear hK K
    try simp only [Act.put, zP, zQ, zR]
    have hq8 : (n == bitsOf v) = decide (n = bitsOf v) := by rw [Bool.eq_iff_iff]; simp
    generalize decide (n = bitsOf v) = dd at *
    generalize bitsOf v = bb at *
    refine wpAnyH_take (i := 8) (oi := ⟨some 11, _, _, _, _, _⟩) (v := ?_) rfl (by kernel_rfl) (by kernel_rfl) (by kernel_rfl) (fun _ _ _ h => h) (Or.inl ⟨by rfl, ?_⟩) hS ?_
    rotate_left
    · intro wq hq
      first | (go_simp; done) | (go_simp; rfl)
    try simp only [Act.put, zP, zQ, zR]
    refine wpAnyH_take (i := 9) (oi := ⟨some 12, _, _, _, _, _⟩) (v := ?_) rfl (by kernel_rfl) (by kernel_rfl) (by kernel_rfl) (fun _ _ _ h => h) (Or.inl ⟨by rfl, ?_⟩) hS ?_
    rotate_left
    · intro wq hq
      first | (go_simp; done) | (go_simp; rfl)
    try simp only [Act.put, zP, zQ, zR]
    refine wpAnyH_take (i := 10) (oi := ⟨some 2, _, _, _, _, _⟩) (v := ?_) rfl (by kernel_rfl) (by kernel_rfl) (by kernel_rfl) (fun _ _ _ h => h) (Or.inl ⟨by rfl, ?_⟩) hS ?_
    rotate_left
    · intro wq hq
      first | (go_simp; done) | (go_simp; rfl)
    try simp only [Act.put, zP, zQ, zR]
    refine wpAnyH_done (by kernel_rfl) ?_ _
    go_wp2
    go_ret
    exact ⟨by rw [HV.out]; rfl, HB2.out⟩

def zeroPf (r : Rt) : Bool := decide (r.v6 = false ∧ r.pl = z16 ∧ r.pn = 0)
def addrsB (r : Rt) : Bool :=
  if r.k = 2 then zeroPf r || wholeB r.v6 r.pl r.pn
  else if r.k = 3 ∨ r.k = 4 then wholeB r.v6 r.pl r.pn
  else if r.k = 5 then rightPfB r.v6 r.pl r.pn && (rightB r.gv r.gl && decide (r.gv = r.v6))
  else true
theorem built_pf0 : Tryz.prog.built 51 [] = some (pfc false z16 0).toArray := by kernel_rfl
theorem pf_build0 {ops : Array Oper} {rest : List Oper} {o : Oper} {a : Act} {w : World} {Q : Exit → Act → World → Prop} (hgd : o.guard = none) (ho : o.op = .build 51 #[]) (h : wpList Tryz.prog ops Q rest (a.put o.dst (.agg (pfc false z16 0).toArray)) w) : wpList Tryz.prog ops Q (o :: rest) a w := by
  have he : ((#[] : Array (Nat × Operand)).map fun (i, x) => (i, a.eval x)).toList = [] := by simp
  refine wpList_build hgd 51 _ ho (by rw [he, built_pf0]; rfl) ?_
  rw [he, built_pf0]
  exact h
set_option maxHeartbeats 1000000 in
theorem addrs_2z (w : World) (r : Rt) (hr : RtOk r) (hk : r.k = 2) (hz : zeroPf r = true) : Calls Tryz.prog 192 #[.agg (rtc r).toArray] w fun e w' => e = .returned (.bool (addrsB r)) ∧ Below w.heap.size w w' := by
  have h1 := RtAt.new w r hr 53
  have H1 := Lib.hid h1
  have HR := Lib.hid hr
  have c0 : (rtc r)[0]? = some (.int .i64 r.k) := rfl
  have HB0 := Lib.hid ((Below.refl w.heap.size w).alloc (Nat.le_refl _) (.cells (rtc r).toArray 53))
  have HPF := Lib.hid (fun W => rpf_is W r.v6 r.pl r.pn hr.pl hr.opl hr.pn)
  have HWH := Lib.hid (fun W => whole_is W r.v6 r.pl r.pn hr.pl hr.opl hr.pn)
  have HRI := Lib.hid (fun W => right_is W r.gv r.gl hr.gl hr.ogl)
  have e2 : (r.k == 2) = true := by rw [beq_iff_eq]; omega
  have HF : Hid (addrsB r = true) := Lib.hid (by unfold addrsB; rw [if_pos hk, hz]; rfl)
  have HQ : Hid (∀ W, (binOp .eql 51 (.agg (pfc r.v6 r.pl r.pn).toArray) (.agg (pfc false z16 0).toArray)).run Tryz.prog W = .ok (.bool true) W) := Lib.hid (pf_eql _ _ _ _ _ _ hr.pl (by simp [z16]) hr.opl (oct_zeros 16) hr.pn i64_0 _ hz)
  have hQ := HQ.out
  clear hk hz HQ
  clear h1 hr
  generalize hkk : r.k = kk at *
  clear hkk
  go_enter Tryz.func192, Tryz.ntmps192
  go_wp2_with (first
    | (refine part_fetch rfl 51 _ rfl w.heap.size 26 (pfc r.v6 r.pl r.pn) _ rfl (H1.out.rPf HR.out) Tryz.underlying51 rfl (sz_pf HR.out) ?_)
    | (refine pf_build0 rfl rfl ?_))
  go_ret
  exact ⟨by rw [HF.out]; rfl, HB0.out⟩
set_option maxHeartbeats 1000000 in
theorem addrs_2w (w : World) (r : Rt) (hr : RtOk r) (hk : r.k = 2) (hz : zeroPf r = false) : Calls Tryz.prog 192 #[.agg (rtc r).toArray] w fun e w' => e = .returned (.bool (addrsB r)) ∧ Below w.heap.size w w' := by
  have h1 := RtAt.new w r hr 53
  have H1 := Lib.hid h1
  have HR := Lib.hid hr
  have c0 : (rtc r)[0]? = some (.int .i64 r.k) := rfl
  have HB0 := Lib.hid ((Below.refl w.heap.size w).alloc (Nat.le_refl _) (.cells (rtc r).toArray 53))
  have HPF := Lib.hid (fun W => rpf_is W r.v6 r.pl r.pn hr.pl hr.opl hr.pn)
  have HWH := Lib.hid (fun W => whole_is W r.v6 r.pl r.pn hr.pl hr.opl hr.pn)
  have HRI := Lib.hid (fun W => right_is W r.gv r.gl hr.gl hr.ogl)
  have e2 : (r.k == 2) = true := by rw [beq_iff_eq]; omega
  have HF : Hid (addrsB r = wholeB r.v6 r.pl r.pn) := Lib.hid (by unfold addrsB; rw [if_pos hk, hz]; rfl)
  have HQ : Hid (∀ W, (binOp .eql 51 (.agg (pfc r.v6 r.pl r.pn).toArray) (.agg (pfc false z16 0).toArray)).run Tryz.prog W = .ok (.bool false) W) := Lib.hid (pf_eql _ _ _ _ _ _ hr.pl (by simp [z16]) hr.opl (oct_zeros 16) hr.pn i64_0 _ hz)
  have hQ := HQ.out
  clear hk hz HQ
  clear h1 hr
  generalize hkk : r.k = kk at *
  clear hkk
  go_enter Tryz.func192, Tryz.ntmps192
  go_wp2_with (first
    | (refine part_fetch rfl 51 _ rfl w.heap.size 26 (pfc r.v6 r.pl r.pn) _ rfl (H1.out.rPf HR.out) Tryz.underlying51 rfl (sz_pf HR.out) ?_)
    | (refine pf_build0 rfl rfl ?_))
  refine (HWH.out _).mono ?_
  rintro e w1 ⟨rfl, hB⟩
  have HB := Lib.hid (HB0.out.trans (hB.mono HB0.out.size))
  clear hB hQ
  go_wp2
  go_ret
  exact ⟨by rw [HF.out]; rfl, HB.out⟩
set_option maxHeartbeats 1000000 in
theorem addrs_3 (w : World) (r : Rt) (hr : RtOk r) (hk : r.k = 3) : Calls Tryz.prog 192 #[.agg (rtc r).toArray] w fun e w' => e = .returned (.bool (addrsB r)) ∧ Below w.heap.size w w' := by
  have h1 := RtAt.new w r hr 53
  have H1 := Lib.hid h1
  have HR := Lib.hid hr
  have c0 : (rtc r)[0]? = some (.int .i64 r.k) := rfl
  have HB0 := Lib.hid ((Below.refl w.heap.size w).alloc (Nat.le_refl _) (.cells (rtc r).toArray 53))
  have HPF := Lib.hid (fun W => rpf_is W r.v6 r.pl r.pn hr.pl hr.opl hr.pn)
  have HWH := Lib.hid (fun W => whole_is W r.v6 r.pl r.pn hr.pl hr.opl hr.pn)
  have HRI := Lib.hid (fun W => right_is W r.gv r.gl hr.gl hr.ogl)
  have e2 : (r.k == 2) = false := by rw [beq_eq_false_iff_ne]; omega
  have e3 : (r.k == 3) = true := by rw [beq_iff_eq]; omega
  have HF : Hid (addrsB r = wholeB r.v6 r.pl r.pn) := Lib.hid (by unfold addrsB; rw [if_neg (by omega), if_pos (by omega)])
  clear hk
  clear h1 hr
  generalize hkk : r.k = kk at *
  clear hkk
  go_enter Tryz.func192, Tryz.ntmps192
  go_wp2_with (first
    | (refine part_fetch rfl 51 _ rfl w.heap.size 26 (pfc r.v6 r.pl r.pn) _ rfl (H1.out.rPf HR.out) Tryz.underlying51 rfl (sz_pf HR.out) ?_))
  refine (HWH.out _).mono ?_
  rintro e w1 ⟨rfl, hB⟩
  have HB := Lib.hid (HB0.out.trans (hB.mono HB0.out.size))
  clear hB
  go_wp2
  go_ret
  exact ⟨by rw [HF.out]; rfl, HB.out⟩
set_option maxHeartbeats 1000000 in
theorem addrs_4 (w : World) (r : Rt) (hr : RtOk r) (hk : r.k = 4) : Calls Tryz.prog 192 #[.agg (rtc r).toArray] w fun e w' => e = .returned (.bool (addrsB r)) ∧ Below w.heap.size w w' := by
  have h1 := RtAt.new w r hr 53
  have H1 := Lib.hid h1
  have HR := Lib.hid hr
  have c0 : (rtc r)[0]? = some (.int .i64 r.k) := rfl
  have HB0 := Lib.hid ((Below.refl w.heap.size w).alloc (Nat.le_refl _) (.cells (rtc r).toArray 53))
  have HPF := Lib.hid (fun W => rpf_is W r.v6 r.pl r.pn hr.pl hr.opl hr.pn)
  have HWH := Lib.hid (fun W => whole_is W r.v6 r.pl r.pn hr.pl hr.opl hr.pn)
  have HRI := Lib.hid (fun W => right_is W r.gv r.gl hr.gl hr.ogl)
  have e2 : (r.k == 2) = false := by rw [beq_eq_false_iff_ne]; omega
  have e3 : (r.k == 3) = false := by rw [beq_eq_false_iff_ne]; omega
  have e4 : (r.k == 4) = true := by rw [beq_iff_eq]; omega
  have HF : Hid (addrsB r = wholeB r.v6 r.pl r.pn) := Lib.hid (by unfold addrsB; rw [if_neg (by omega), if_pos (by omega)])
  clear hk
  clear h1 hr
  generalize hkk : r.k = kk at *
  clear hkk
  go_enter Tryz.func192, Tryz.ntmps192
  go_wp2_with (first
    | (refine part_fetch rfl 51 _ rfl w.heap.size 26 (pfc r.v6 r.pl r.pn) _ rfl (H1.out.rPf HR.out) Tryz.underlying51 rfl (sz_pf HR.out) ?_))
  refine (HWH.out _).mono ?_
  rintro e w1 ⟨rfl, hB⟩
  have HB := Lib.hid (HB0.out.trans (hB.mono HB0.out.size))
  clear hB
  go_wp2
  go_ret
  exact ⟨by rw [HF.out]; rfl, HB.out⟩
set_option maxHeartbeats 1000000 in
theorem addrs_5 (w : World) (r : Rt) (hr : RtOk r) (hk : r.k = 5) : Calls Tryz.prog 192 #[.agg (rtc r).toArray] w fun e w' => e = .returned (.bool (addrsB r)) ∧ Below w.heap.size w w' := by
  have h1 := RtAt.new w r hr 53
  have H1 := Lib.hid h1
  have HR := Lib.hid hr
  have c0 : (rtc r)[0]? = some (.int .i64 r.k) := rfl
  have HB0 := Lib.hid ((Below.refl w.heap.size w).alloc (Nat.le_refl _) (.cells (rtc r).toArray 53))
  have HPF := Lib.hid (fun W => rpf_is W r.v6 r.pl r.pn hr.pl hr.opl hr.pn)
  have HWH := Lib.hid (fun W => whole_is W r.v6 r.pl r.pn hr.pl hr.opl hr.pn)
  have HRI := Lib.hid (fun W => right_is W r.gv r.gl hr.gl hr.ogl)
  have e2 : (r.k == 2) = false := by rw [beq_eq_false_iff_ne]; omega
  have e3 : (r.k == 3) = false := by rw [beq_eq_false_iff_ne]; omega
  have e4 : (r.k == 4) = false := by rw [beq_eq_false_iff_ne]; omega
  have e5 : (r.k == 5) = true := by rw [beq_iff_eq]; omega
  have HF : Hid (addrsB r = (rightPfB r.v6 r.pl r.pn && (rightB r.gv r.gl && decide (r.gv = r.v6)))) := Lib.hid (by unfold addrsB; rw [if_neg (by omega), if_neg (by omega), if_pos hk])
  clear hk
  clear h1 hr
  generalize hkk : r.k = kk at *
  clear hkk
  go_enter Tryz.func192, Tryz.ntmps192
  go_wp2_with (first
    | (refine part_fetch rfl 51 _ rfl w.heap.size 26 (pfc r.v6 r.pl r.pn) _ rfl (H1.out.rPf HR.out) Tryz.underlying51 rfl (sz_pf HR.out) ?_))
  refine (HPF.out _).mono ?_
  rintro e w1 ⟨rfl, hB⟩
  have HA1 := Lib.hid (H1.out.below hB (by simp))
  have HB := Lib.hid (HB0.out.trans (hB.mono HB0.out.size))
  have hs1 : w.heap.size < w1.heap.size := by have := hB.size; simp at this; omega
  clear hB
  cases hp : rightPfB r.v6 r.pl r.pn
  · rw [hp] at HF
    clear hp
    go_wp2
    go_ret
    exact ⟨by rw [HF.out]; rfl, HB.out⟩
  · rw [hp] at HF
    clear hp
    go_wp2_with (first
      | (refine part_fetch rfl 27 _ rfl w.heap.size 44 (ipc r.gv r.gl) _ rfl (HA1.out.rGw HR.out) Tryz.underlying27 rfl (sz_gw HR.out) ?_))
    refine (HRI.out _).mono ?_
    rintro e w2 ⟨rfl, hB2⟩
    have cg := (HA1.out.below hB2 hs1).cGv HR.out
    have cv := (HA1.out.below hB2 hs1).cV6 HR.out
    have HB2 := Lib.hid (HB.out.trans (hB2.mono HB.out.size))
    clear hB2
    cases hq : rightB r.gv r.gl
    · rw [hq] at HF
      clear hq
      go_wp2
      go_ret
      exact ⟨by rw [HF.out]; rfl, HB2.out⟩
    · rw [hq] at HF
      clear hq
      generalize r.gv = gv at *
      generalize r.v6 = v6 at *
      cases gv <;> cases v6
      all_goals
        go_wp2
        go_ret
        exact ⟨by rw [HF.out]; rfl, HB2.out⟩
set_option maxHeartbeats 1000000 in
theorem addrs_o (w : World) (r : Rt) (hr : RtOk r) (hk : r.k ≠ 2 ∧ r.k ≠ 3 ∧ r.k ≠ 4 ∧ r.k ≠ 5) : Calls Tryz.prog 192 #[.agg (rtc r).toArray] w fun e w' => e = .returned (.bool (addrsB r)) ∧ Below w.heap.size w w' := by
  have h1 := RtAt.new w r hr 53
  have H1 := Lib.hid h1
  have HR := Lib.hid hr
  have c0 : (rtc r)[0]? = some (.int .i64 r.k) := rfl
  have HB0 := Lib.hid ((Below.refl w.heap.size w).alloc (Nat.le_refl _) (.cells (rtc r).toArray 53))
  have HPF := Lib.hid (fun W => rpf_is W r.v6 r.pl r.pn hr.pl hr.opl hr.pn)
  have HWH := Lib.hid (fun W => whole_is W r.v6 r.pl r.pn hr.pl hr.opl hr.pn)
  have HRI := Lib.hid (fun W => right_is W r.gv r.gl hr.gl hr.ogl)
  have e2 : (r.k == 2) = false := by rw [beq_eq_false_iff_ne]; omega
  have e3 : (r.k == 3) = false := by rw [beq_eq_false_iff_ne]; omega
  have e4 : (r.k == 4) = false := by rw [beq_eq_false_iff_ne]; omega
  have e5 : (r.k == 5) = false := by rw [beq_eq_false_iff_ne]; omega
  have HF : Hid (addrsB r = true) := Lib.hid (by unfold addrsB; rw [if_neg (by omega), if_neg (by omega), if_neg (by omega)])
  clear hk
  clear h1 hr
  generalize hkk : r.k = kk at *
  clear hkk
  go_enter Tryz.func192, Tryz.ntmps192
  go_wp2
  go_ret
  exact ⟨by rw [HF.out]; rfl, HB0.out⟩
theorem addrs_is (w : World) (r : Rt) (hr : RtOk r) : Calls Tryz.prog 192 #[.agg (rtc r).toArray] w fun e w' => e = .returned (.bool (addrsB r)) ∧ Below w.heap.size w w' := by
  by_cases h2 : r.k = 2
  · cases hz : zeroPf r
    · exact addrs_2w w r hr h2 hz
    · exact addrs_2z w r hr h2 hz
  by_cases h3 : r.k = 3
  · exact addrs_3 w r hr h3
  by_cases h4 : r.k = 4
  · exact addrs_4 w r hr h4
  by_cases h5 : r.k = 5
  · exact addrs_5 w r hr h5
  exact addrs_o w r hr ⟨h2, h3, h4, h5⟩

def sameR (r s : Rt) : Bool := decide (r.k = s.k ∧ r.rd = s.rd ∧ r.es = s.es ∧ r.tg = s.tg ∧ r.mc = s.mc ∧ r.v6 = s.v6 ∧ r.pl = s.pl ∧ r.pn = s.pn ∧ r.gv = s.gv ∧ r.gl = s.gl ∧ r.lb = s.lb ∧ r.l2 = s.l2)
theorem sameR_iff (r s : Rt) : sameR r s = true ↔ r = s := by
  obtain ⟨k, rd, es, tg, mc, v6, pl, pn, gv, gl, lb, l2⟩ := r
  obtain ⟨k', rd', es', tg', mc', v6', pl', pn', gv', gl', lb', l2'⟩ := s
  simp [sameR]
def rightR (r : Rt) : Bool := decide (1 ≤ r.k ∧ r.k ≤ 5) && (sameR r (ownR r) && (labelsB r && addrsB r))
def errR (r : Rt) : Int := if rightR r then 0 else 2
set_option maxHeartbeats 2000000 in
theorem rightRt_is (w : World) (r : Rt) (hr : RtOk r) : Calls Tryz.prog 139 #[.agg (rtc r).toArray] w fun e w' => e = .returned (.int .i64 (errR r)) ∧ Below w.heap.size w w' := by
  have HR := Lib.hid hr
  have HO := Lib.hid (fun W => own_is W r hr)
  have HLb := Lib.hid (fun W => labels_is W r hr)
  have HAd := Lib.hid (fun W => addrs_is W r hr)
  have HQ : Hid (∀ W, (binOp .eql 53 (.agg (rtc r).toArray) (.agg (rtc (ownR r)).toArray)).run Tryz.prog W = .ok (.bool (sameR r (ownR r))) W) := Lib.hid (rt_eql r (ownR r) hr (ownR_ok hr) _ (sameR_iff _ _))
  have HS0 := Lib.hid (show RtAt ((w.alloc (.cells (rtc r).toArray 53)).drewN 1) w.heap.size r from (RtAt.new w r hr 53).keep rfl)
  have HB0 := Lib.hid (below_drewN ((Below.refl w.heap.size w).alloc (Nat.le_refl _) (.cells (rtc r).toArray 53)) 1)
  have HF : Hid (rightR r = (decide (1 ≤ r.k ∧ r.k ≤ 5) && (sameR r (ownR r) && (labelsB r && addrsB r)))) := Lib.hid rfl
  clear hr
  go_enter Tryz.func139, Tryz.ntmps139
  go_wp2
  refine wp_region_held_drew (S := fun W => RtAt W w.heap.size r) (by kernel_rfl) (HS0.out) (fun hS => ?_)
  refine wpAnyH_take (i := 0) (oi := ⟨some 3, _, _, _, _, _⟩) (v := ?_) rfl (by kernel_rfl) (by kernel_rfl) (by kernel_rfl) (fun _ _ _ h => h) (Or.inl ⟨by rfl, ?_⟩) hS ?_
  rotate_left
  · intro wq hq
    first | (go_simp; done) | (go_simp; rfl)
  try simp only [Act.put, zP, zQ, zR]
  refine wpAnyH_take (i := 1) (oi := ⟨some 4, _, _, _, _, _⟩) (v := ?_) rfl (by kernel_rfl) (by kernel_rfl) (by kernel_rfl) (fun _ _ _ h => h) (Or.inl ⟨by rfl, ?_⟩) hS ?_
  rotate_left
  · intro wq hq
    have hc := hq.cK
    first | (go_simp; done) | (go_simp; rfl)
  try simp only [Act.put, zP, zQ, zR]
  refine wpAnyH_ready (rs := [2]) (by kernel_rfl) (by simp) ?_
  refine AllReadyH.cons (o := ⟨some 5, _, _, _, _, _⟩) rfl (fun K hK => ?_) AllReadyH.nil
  rw [if_pos (by rfl)]
  go_wp2_with fail
  refine (isKind_is _ r.k).mono ?_
  rintro e w1 ⟨rfl, rfl⟩
  generalize decide (1 ≤ r.k ∧ r.k ≤ 5) = kb at *
  refine hK.out _ _ (hS) (fun hS => ?_)
  clear hK K
  try simp only [Act.put, zP, zQ, zR]
  refine wpAnyH_take (i := 3) (oi := ⟨some 6, _, _, _, _, _⟩) (v := ?_) rfl (by kernel_rfl) (by kernel_rfl) (by kernel_rfl) (fun _ _ _ h => h) (Or.inl ⟨by rfl, ?_⟩) hS ?_
  rotate_left
  · intro wq hq
    first | (go_simp; done) | (go_simp; rfl)
  try simp only [Act.put, zP, zQ, zR]
  cases kb
  · skip
    refine wpAnyH_take (i := 4) (oi := ⟨some 7, _, _, _, _, _⟩) (v := undef) rfl (by kernel_rfl) (by kernel_rfl) (by kernel_rfl) (fun _ _ _ h => h) (Or.inr ⟨by rfl, rfl⟩) hS ?_
    try simp only [Act.put, zP, zQ, zR]
    refine wpAnyH_take (i := 5) (oi := ⟨some 8, _, _, _, _, _⟩) (v := undef) rfl (by kernel_rfl) (by kernel_rfl) (by kernel_rfl) (fun _ _ _ h => h) (Or.inr ⟨by rfl, rfl⟩) hS ?_
    try simp only [Act.put, zP, zQ, zR]
    refine wpAnyH_take (i := 6) (oi := ⟨some 9, _, _, _, _, _⟩) (v := undef) rfl (by kernel_rfl) (by kernel_rfl) (by kernel_rfl) (fun _ _ _ h => h) (Or.inr ⟨by rfl, rfl⟩) hS ?_
    try simp only [Act.put, zP, zQ, zR]
    refine wpAnyH_take (i := 7) (oi := ⟨some 10, _, _, _, _, _⟩) (v := undef) rfl (by kernel_rfl) (by kernel_rfl) (by kernel_rfl) (fun _ _ _ h => h) (Or.inr ⟨by rfl, rfl⟩) hS ?_
    try simp only [Act.put, zP, zQ, zR]
    refine wpAnyH_take (i := 8) (oi := ⟨some 11, _, _, _, _, _⟩) (v := ?_) rfl (by kernel_rfl) (by kernel_rfl) (by kernel_rfl) (fun _ _ _ h => h) (Or.inl ⟨by rfl, ?_⟩) hS ?_
    rotate_left
    · intro wq hq
      first | (go_simp; done) | (go_simp; rfl)
    try simp only [Act.put, zP, zQ, zR]
    refine wpAnyH_take (i := 9) (oi := ⟨some 12, _, _, _, _, _⟩) (v := ?_) rfl (by kernel_rfl) (by kernel_rfl) (by kernel_rfl) (fun _ _ _ h => h) (Or.inl ⟨by rfl, ?_⟩) hS ?_
    rotate_left
    · intro wq hq
      first | (go_simp; done) | (go_simp; rfl)
    try simp only [Act.put, zP, zQ, zR]
    refine wpAnyH_take (i := 10) (oi := ⟨some 13, _, _, _, _, _⟩) (v := undef) rfl (by kernel_rfl) (by kernel_rfl) (by kernel_rfl) (fun _ _ _ h => h) (Or.inr ⟨by rfl, rfl⟩) hS ?_
    try simp only [Act.put, zP, zQ, zR]
    refine wpAnyH_take (i := 11) (oi := ⟨some 14, _, _, _, _, _⟩) (v := undef) rfl (by kernel_rfl) (by kernel_rfl) (by kernel_rfl) (fun _ _ _ h => h) (Or.inr ⟨by rfl, rfl⟩) hS ?_
    try simp only [Act.put, zP, zQ, zR]
    refine wpAnyH_take (i := 12) (oi := ⟨some 15, _, _, _, _, _⟩) (v := ?_) rfl (by kernel_rfl) (by kernel_rfl) (by kernel_rfl) (fun _ _ _ h => h) (Or.inl ⟨by rfl, ?_⟩) hS ?_
    rotate_left
    · intro wq hq
      first | (go_simp; done) | (go_simp; rfl)
    try simp only [Act.put, zP, zQ, zR]
    refine wpAnyH_take (i := 13) (oi := ⟨some 16, _, _, _, _, _⟩) (v := ?_) rfl (by kernel_rfl) (by kernel_rfl) (by kernel_rfl) (fun _ _ _ h => h) (Or.inl ⟨by rfl, ?_⟩) hS ?_
    rotate_left
    · intro wq hq
      first | (go_simp; done) | (go_simp; rfl)
    try simp only [Act.put, zP, zQ, zR]
    refine wpAnyH_take (i := 14) (oi := ⟨some 17, _, _, _, _, _⟩) (v := undef) rfl (by kernel_rfl) (by kernel_rfl) (by kernel_rfl) (fun _ _ _ h => h) (Or.inr ⟨by rfl, rfl⟩) hS ?_
    try simp only [Act.put, zP, zQ, zR]
    refine wpAnyH_take (i := 15) (oi := ⟨some 18, _, _, _, _, _⟩) (v := undef) rfl (by kernel_rfl) (by kernel_rfl) (by kernel_rfl) (fun _ _ _ h => h) (Or.inr ⟨by rfl, rfl⟩) hS ?_
    try simp only [Act.put, zP, zQ, zR]
    refine wpAnyH_take (i := 16) (oi := ⟨some 19, _, _, _, _, _⟩) (v := ?_) rfl (by kernel_rfl) (by kernel_rfl) (by kernel_rfl) (fun _ _ _ h => h) (Or.inl ⟨by rfl, ?_⟩) hS ?_
    rotate_left
    · intro wq hq
      first | (go_simp; done) | (go_simp; rfl)
    try simp only [Act.put, zP, zQ, zR]
    refine wpAnyH_done (by kernel_rfl) ?_ _
    go_wp2
    go_ret
    exact ⟨by unfold errR; rw [HF.out]; rfl, HB0.out⟩
  refine wpAnyH_take (i := 4) (oi := ⟨some 7, _, _, _, _, _⟩) rfl (by kernel_rfl) (by kernel_rfl) (by kernel_rfl) (fun _ _ _ h => h) (yieldsIf_load_mid (by rfl) 53 _ rfl _ _ rfl (rtc r) _ (fun wq hq => hq.rng) Tryz.underlying53 rfl (by rw [rt_size, rtc_len HR.out])) hS ?_
  try simp only [Act.put, zP, zQ, zR]
  refine wpAnyH_take (i := 5) (oi := ⟨some 8, _, _, _, _, _⟩) rfl (by kernel_rfl) (by kernel_rfl) (by kernel_rfl) (fun _ _ _ h => h) (yieldsIf_load_mid (by rfl) 53 _ rfl _ _ rfl (rtc r) _ (fun wq hq => hq.rng) Tryz.underlying53 rfl (by rw [rt_size, rtc_len HR.out])) hS ?_
  try simp only [Act.put, zP, zQ, zR]
  refine wpAnyH_ready (rs := [6]) (by kernel_rfl) (by simp) ?_
  refine AllReadyH.cons (o := ⟨some 9, _, _, _, _, _⟩) rfl (fun K hK => ?_) AllReadyH.nil
  rw [if_pos (by rfl)]
  go_wp2_with fail
  refine (HO.out _).mono ?_
  rintro e w1 ⟨rfl, hB⟩
  have hS1 := hS.below hB hS.lt
  have HB1 := Lib.hid (HB0.out.trans (hB.mono HB0.out.size))
  clear hB
  refine hK.out _ _ (hS1) (fun hS => ?_)
  clear hK K
  try simp only [Act.put, zP, zQ, zR]
  have hQ := HQ.out
  generalize sameR r (ownR r) = sm at *
  refine wpAnyH_take (i := 7) (oi := ⟨some 10, _, _, _, _, _⟩) (v := ?_) rfl (by kernel_rfl) (by kernel_rfl) (by kernel_rfl) (fun _ _ _ h => h) (Or.inl ⟨by rfl, ?_⟩) hS ?_
  rotate_left
  · intro wq hq
    first | (go_simp; done) | (go_simp; rfl)
  try simp only [Act.put, zP, zQ, zR]
  refine wpAnyH_take (i := 8) (oi := ⟨some 11, _, _, _, _, _⟩) (v := ?_) rfl (by kernel_rfl) (by kernel_rfl) (by kernel_rfl) (fun _ _ _ h => h) (Or.inl ⟨by rfl, ?_⟩) hS ?_
  rotate_left
  · intro wq hq
    first | (go_simp; done) | (go_simp; rfl)
  try simp only [Act.put, zP, zQ, zR]
  refine wpAnyH_take (i := 9) (oi := ⟨some 12, _, _, _, _, _⟩) (v := ?_) rfl (by kernel_rfl) (by kernel_rfl) (by kernel_rfl) (fun _ _ _ h => h) (Or.inl ⟨by rfl, ?_⟩) hS ?_
  rotate_left
  · intro wq hq
    first | (go_simp; done) | (go_simp; rfl)
  try simp only [Act.put, zP, zQ, zR]
  clear hQ
  cases sm
  · skip
    refine wpAnyH_take (i := 10) (oi := ⟨some 13, _, _, _, _, _⟩) (v := undef) rfl (by kernel_rfl) (by kernel_rfl) (by kernel_rfl) (fun _ _ _ h => h) (Or.inr ⟨by rfl, rfl⟩) hS ?_
    try simp only [Act.put, zP, zQ, zR]
    refine wpAnyH_take (i := 11) (oi := ⟨some 14, _, _, _, _, _⟩) (v := undef) rfl (by kernel_rfl) (by kernel_rfl) (by kernel_rfl) (fun _ _ _ h => h) (Or.inr ⟨by rfl, rfl⟩) hS ?_
    try simp only [Act.put, zP, zQ, zR]
    refine wpAnyH_take (i := 12) (oi := ⟨some 15, _, _, _, _, _⟩) (v := ?_) rfl (by kernel_rfl) (by kernel_rfl) (by kernel_rfl) (fun _ _ _ h => h) (Or.inl ⟨by rfl, ?_⟩) hS ?_
    rotate_left
    · intro wq hq
      first | (go_simp; done) | (go_simp; rfl)
    try simp only [Act.put, zP, zQ, zR]
    refine wpAnyH_take (i := 13) (oi := ⟨some 16, _, _, _, _, _⟩) (v := ?_) rfl (by kernel_rfl) (by kernel_rfl) (by kernel_rfl) (fun _ _ _ h => h) (Or.inl ⟨by rfl, ?_⟩) hS ?_
    rotate_left
    · intro wq hq
      first | (go_simp; done) | (go_simp; rfl)
    try simp only [Act.put, zP, zQ, zR]
    refine wpAnyH_take (i := 14) (oi := ⟨some 17, _, _, _, _, _⟩) (v := undef) rfl (by kernel_rfl) (by kernel_rfl) (by kernel_rfl) (fun _ _ _ h => h) (Or.inr ⟨by rfl, rfl⟩) hS ?_
    try simp only [Act.put, zP, zQ, zR]
    refine wpAnyH_take (i := 15) (oi := ⟨some 18, _, _, _, _, _⟩) (v := undef) rfl (by kernel_rfl) (by kernel_rfl) (by kernel_rfl) (fun _ _ _ h => h) (Or.inr ⟨by rfl, rfl⟩) hS ?_
    try simp only [Act.put, zP, zQ, zR]
    refine wpAnyH_take (i := 16) (oi := ⟨some 19, _, _, _, _, _⟩) (v := ?_) rfl (by kernel_rfl) (by kernel_rfl) (by kernel_rfl) (fun _ _ _ h => h) (Or.inl ⟨by rfl, ?_⟩) hS ?_
    rotate_left
    · intro wq hq
      first | (go_simp; done) | (go_simp; rfl)
    try simp only [Act.put, zP, zQ, zR]
    refine wpAnyH_done (by kernel_rfl) ?_ _
    go_wp2
    go_ret
    exact ⟨by unfold errR; rw [HF.out]; rfl, HB1.out⟩
  refine wpAnyH_take (i := 10) (oi := ⟨some 13, _, _, _, _, _⟩) rfl (by kernel_rfl) (by kernel_rfl) (by kernel_rfl) (fun _ _ _ h => h) (yieldsIf_load_mid (by rfl) 53 _ rfl _ _ rfl (rtc r) _ (fun wq hq => hq.rng) Tryz.underlying53 rfl (by rw [rt_size, rtc_len HR.out])) hS ?_
  try simp only [Act.put, zP, zQ, zR]
  refine wpAnyH_ready (rs := [11]) (by kernel_rfl) (by simp) ?_
  refine AllReadyH.cons (o := ⟨some 14, _, _, _, _, _⟩) rfl (fun K hK => ?_) AllReadyH.nil
  rw [if_pos (by rfl)]
  go_wp2_with fail
  refine (HLb.out _).mono ?_
  rintro e w2 ⟨rfl, hB⟩
  have hS2 := hS.below hB hS.lt
  have HB2 := Lib.hid (HB1.out.trans (hB.mono HB1.out.size))
  clear hB
  refine hK.out _ _ (hS2) (fun hS => ?_)
  clear hK K
  try simp only [Act.put, zP, zQ, zR]
  generalize labelsB r = lm at *
  refine wpAnyH_take (i := 12) (oi := ⟨some 15, _, _, _, _, _⟩) (v := ?_) rfl (by kernel_rfl) (by kernel_rfl) (by kernel_rfl) (fun _ _ _ h => h) (Or.inl ⟨by rfl, ?_⟩) hS ?_
  rotate_left
  · intro wq hq
    first | (go_simp; done) | (go_simp; rfl)
  try simp only [Act.put, zP, zQ, zR]
  refine wpAnyH_take (i := 13) (oi := ⟨some 16, _, _, _, _, _⟩) (v := ?_) rfl (by kernel_rfl) (by kernel_rfl) (by kernel_rfl) (fun _ _ _ h => h) (Or.inl ⟨by rfl, ?_⟩) hS ?_
  rotate_left
  · intro wq hq
    first | (go_simp; done) | (go_simp; rfl)
  try simp only [Act.put, zP, zQ, zR]
  cases lm
  · skip
    refine wpAnyH_take (i := 14) (oi := ⟨some 17, _, _, _, _, _⟩) (v := undef) rfl (by kernel_rfl) (by kernel_rfl) (by kernel_rfl) (fun _ _ _ h => h) (Or.inr ⟨by rfl, rfl⟩) hS ?_
    try simp only [Act.put, zP, zQ, zR]
    refine wpAnyH_take (i := 15) (oi := ⟨some 18, _, _, _, _, _⟩) (v := undef) rfl (by kernel_rfl) (by kernel_rfl) (by kernel_rfl) (fun _ _ _ h => h) (Or.inr ⟨by rfl, rfl⟩) hS ?_
    try simp only [Act.put, zP, zQ, zR]
    refine wpAnyH_take (i := 16) (oi := ⟨some 19, _, _, _, _, _⟩) (v := ?_) rfl (by kernel_rfl) (by kernel_rfl) (by kernel_rfl) (fun _ _ _ h => h) (Or.inl ⟨by rfl, ?_⟩) hS ?_
    rotate_left
    · intro wq hq
      first | (go_simp; done) | (go_simp; rfl)
    try simp only [Act.put, zP, zQ, zR]
    refine wpAnyH_done (by kernel_rfl) ?_ _
    go_wp2
    go_ret
    exact ⟨by unfold errR; rw [HF.out]; rfl, HB2.out⟩
  refine wpAnyH_take (i := 14) (oi := ⟨some 17, _, _, _, _, _⟩) rfl (by kernel_rfl) (by kernel_rfl) (by kernel_rfl) (fun _ _ _ h => h) (yieldsIf_load_mid (by rfl) 53 _ rfl _ _ rfl (rtc r) _ (fun wq hq => hq.rng) Tryz.underlying53 rfl (by rw [rt_size, rtc_len HR.out])) hS ?_
  try simp only [Act.put, zP, zQ, zR]
  refine wpAnyH_ready (rs := [15]) (by kernel_rfl) (by simp) ?_
  refine AllReadyH.cons (o := ⟨some 18, _, _, _, _, _⟩) rfl (fun K hK => ?_) AllReadyH.nil
  rw [if_pos (by rfl)]
  go_wp2_with fail
  refine (HAd.out _).mono ?_
  rintro e w3 ⟨rfl, hB⟩
  have hS3 := hS.below hB hS.lt
  have HB3 := Lib.hid (HB2.out.trans (hB.mono HB2.out.size))
  clear hB
  refine hK.out _ _ (hS3) (fun hS => ?_)
  clear hK K
  try simp only [Act.put, zP, zQ, zR]
  generalize addrsB r = am at *
  refine wpAnyH_take (i := 16) (oi := ⟨some 19, _, _, _, _, _⟩) (v := ?_) rfl (by kernel_rfl) (by kernel_rfl) (by kernel_rfl) (fun _ _ _ h => h) (Or.inl ⟨by rfl, ?_⟩) hS ?_
  rotate_left
  · intro wq hq
    first | (go_simp; done) | (go_simp; rfl)
  try simp only [Act.put, zP, zQ, zR]
  refine wpAnyH_done (by kernel_rfl) ?_ _
  cases am
  all_goals
    go_wp2
    go_ret
    exact ⟨by unfold errR; rw [HF.out]; rfl, HB3.out⟩
end Go.Proofs.YtdgoeibfggjbmaaGreatDoor
namespace Go.Proofs.YtdgoeibfggjbmaaGreatDoor
open Go.RowKit
set_option maxRecDepth 100000
set_option linter.unusedSimpArgs false
set_option linter.unusedVariables false

theorem app_bsN {ops : Array Oper} {rest : List Oper} {o : Oper} {a : Act} {Q : Exit → Act → World → Prop} (hgd : o.guard = none) (s x : Operand)
    (ho : o.op = .call { callee := .builtin .append, args := #[s, x], argTypes := #[38, 38] }) {lo : Nat} {w : World} {v : Value} {P : List Int} (h : OwnB lo w v P) (hlo : lo ≤ w.heap.size)
    {A : Option Addr} {m c : Nat} {news : List Int} (hr : Rd w w.heap.size A m news) (hlen : P.length + m ≤ 140737488355328) (hs : a.eval s = v) (hx : a.eval x = .slice A m c)
    (hk : ∀ v' w', OwnB lo w' v' (P ++ news) → Below lo w w' → w.grownBy w' v.ownBlock → (∀ i, v.ownBlock = some i → lo ≤ i ∧ ∃ c, w.heap[i]? = some (.cells c 5 (0, 0))) → wpList Tryz.prog ops Q rest (a.put o.dst v') w') :
    wpList Tryz.prog ops Q (o :: rest) a w := by
  obtain ⟨i, hi, hz0, hz1, hz2⟩ := info_parts info_byte
  have hlm := hr.len
  have hold : ∀ i, v.ownBlock = some i → lo ≤ i ∧ ∃ c, w.heap[i]? = some (.cells c 5 (0, 0)) := fun i hi => ⟨(h.own.lt i hi).1, own_heap h.own hi⟩
  cases A with
  | none =>
    have hm0 : m = 0 := by
      rcases Nat.eq_zero_or_pos m with h0 | h0
      · exact h0
      · obtain ⟨_, _, e, _⟩ := hr.at_ h0
        cases e
    subst hm0
    have hn : news = [] := List.eq_nil_of_length_eq_zero hlm
    subst hn
    have hrun : (Builtin.append_ #[38, 38] o.type #[v, .slice none 0 c]).run Tryz.prog w = .ok v w := by
      rcases h.own.2 with ⟨rfl, hn⟩ | ⟨g, cap, cur, rfl, _, _, hnc, _⟩
      · simp [Builtin.append_, run_underlying Tryz.underlying38, sizeOf, typeInfo, hi, Builtin.lenOf, Builtin.firstCells]
      · simp [Builtin.append_, run_underlying Tryz.underlying38, sizeOf, typeInfo, hi, Builtin.lenOf, Builtin.firstCells, hnc, storeCells]
    refine wpList_plain hgd fun _ hK => ?_
    unfold Oper.wp execOp
    simp only [ho, resolve, invoke, builtin, Sem.run_bind, Sem.run_pure, Result.andThen_ok, List.map_toArray, List.map_cons, List.map_nil, hs, hx, hrun]
    exact hK _ _ (hk v w (by rw [List.append_nil]; exact h) (Below.refl _ _) (only_refl _ _) hold)
  | some ad =>
    have hsrc : ∀ j y, (u8s news)[j]? = some y → w.cell? (ad.add j) = some y := by
      rcases Nat.eq_zero_or_pos m with h0 | h0
      · intro j y hy
        have := (List.getElem?_eq_some_iff.1 hy).1
        simp at this
        omega
      · obtain ⟨b, off, e, _, hc⟩ := hr.at_ h0
        injection e with e
        subst e
        exact src_u8 hlm hc
    refine wpList_append_own_at _ hgd s x 38 ho lo 5 i _ 1 1 Tryz.underlying38 hi hz0 hz1 hz2 rfl (by decide) v P.length (u8s P) hs h.own ad m c (u8s news) hx (by simp [hlm]) hsrc (one_u8 news) (by unfold maxLen; omega) (by omega) hlo ?_
    intro v' w' hown hgr _ _
    refine hk v' w' ⟨?_, fun y hy => (List.mem_append.1 hy).elim (h.oct y) (hr.oct y)⟩ ((Below.refl lo w).grown hgr hlo (fun i e => (h.own.lt i e).1)) hgr hold
    rw [List.length_append, hlm, show u8s (P ++ news) = u8s P ++ u8s news from List.map_append]
    exact hown

theorem wpList_app_run {P : Program} {ops : Array Oper} {rest : List Oper} {o : Oper} {a : Act} {w : World} {Q : Exit → Act → World → Prop} (hgd : o.guard = none) (s x : Operand) (t1 t2 : TypeId)
    (ho : o.op = .call { callee := .builtin .append, args := #[s, x], argTypes := #[t1, t2] }) (v y : Value) (hs : a.eval s = v) (hx : a.eval x = y) (v' : Value) (w' : World) (hrun : ∀ ty, (Builtin.append_ #[t1, t2] ty #[v, y]).run P w = .ok v' w')
    (h : wpList P ops Q rest (a.put o.dst v') w') : wpList P ops Q (o :: rest) a w := by
  refine wpList_plain hgd fun _ hK => ?_
  unfold Oper.wp execOp
  simp only [ho, resolve, invoke, builtin, Sem.run_bind, Sem.run_pure, Result.andThen_ok, List.map_toArray, List.map_cons, List.map_nil, hs, hx, hrun]
  exact hK _ _ h
set_option maxHeartbeats 2000000 in
theorem grow_is (w : World) (n : Nat) (hn : n ≤ 140737488355328) : Calls Tryz.prog 99 #[.slice none 0 0, .int .i64 n] w fun e w' => ∃ v, e = .returned v ∧ OwnB w.heap.size w' v [] ∧ Below w.heap.size w w' := by
  rcases Nat.eq_zero_or_pos n with rfl | h0
  · go_enter Tryz.func99, Tryz.ntmps99
    go_wp2
    go_ret
    exact ⟨_, rfl, OwnB.nil_ _ _, Below.refl _ _⟩
  · obtain ⟨i, hi, hz0, hz1, hz2⟩ := info_parts info_byte
    have hrun := fun ty => Lib.run_append_grow_zeros (P := Tryz.prog) w 38 3 ty 5 i _ .i64 .i64 Tryz.underlying38 Tryz.underlying3 hi hz0 none 0 0 [] (run_firstCells_none w.drew i.size 0 0 0) n h0 (by rw [hz1]; decide) (by omega) (by omega) (by rw [hz2]; omega) (growslice_fits (by omega) (by rw [hz2]; omega))
    have hG := grownCap_ge w (0 + n) 0 5
    have hM := grownCap_le_maxLen w (0 + n) 0 5 (by unfold maxLen; omega)
    generalize grownCap w (0 + n) 0 5 = G at *
    simp only [Nat.zero_add] at hrun hG
    have HO : Hid (∃ W, (∀ ty, (Builtin.append_ #[38, 3] ty #[.slice none 0 0, .int .i64 n]).run Tryz.prog w = .ok (.slice (some ⟨w.heap.size, 0, none⟩) n G) W) ∧ OwnB w.heap.size W (.slice (some ⟨w.heap.size, 0, none⟩) 0 G) [] ∧ Below w.heap.size w W) := Lib.hid ⟨_, hrun, ⟨⟨rfl, Or.inr ⟨w.heap.size, G, _, rfl, Nat.le_refl _, Blk.new w.drew 5 _, Nat.zero_le _, hM, by simp [Builtin.zeroCells, Value.cells]; omega, by simp⟩⟩, fun x h => by cases h⟩, below_drewN ((Below.refl _ _).alloc (Nat.le_refl _) _) 1⟩
    clear hrun hi hz0 hz1 hz2
    obtain ⟨W, hrun, hO, hB⟩ := HO.out
    have HOO := Lib.hid hO
    have HBB := Lib.hid hB
    have h1 : ¬ ((n : Int) < 0) := by omega
    have hM2 : G ≤ 9223372036854775807 := by unfold maxLen at hM; omega
    have HRun := Lib.hid hrun
    clear HO hO hB hM hrun
    go_enter Tryz.func99, Tryz.ntmps99
    go_wp2_with (at_builtin; refine wpList_app_run rfl _ _ 38 3 rfl (.slice none 0 0) (.int .i64 n) rfl rfl _ _ HRun.out ?_)
    go_ret
    exact ⟨_, rfl, HOO.out, HBB.out⟩

set_option maxHeartbeats 2000000 in
theorem concat_is (w : World) (A : Option Addr) (n c : Nat) (ls : List (List Int)) (hr : RdL w w.heap.size A n ls) (hn : n ≤ 1000000) (hb : ls.flatten.length ≤ 140737488355328) :
    Calls Tryz.prog 51 #[.slice A n c] w fun e w' => ∃ v, e = .returned v ∧ OwnB w.heap.size w' v ls.flatten ∧ Below w.heap.size w w' := by
  have HR := Lib.hid hr
  have hlen := hr.len
  clear hr
  go_enter Tryz.func51, Tryz.ntmps51
  go_wp2
  go_loop [3, 5, 11] (fun s _ i => ∃ m : Nat, m ≤ n ∧ i = .int .i64 m ∧ s = .int .i64 ((ls.take m).flatten.length : Nat)) (fun _ _ i => n - (intOf i).toNat)
  case atStart => exact ⟨0, Nat.zero_le _, rfl, rfl⟩
  case round =>
    obtain ⟨m, hm, rfl, rfl⟩ := hrel
    by_cases hlt : m < n
    · have hml : m < ls.length := by omega
      obtain ⟨b, off, A1, n1, c1, rfl, x0, hr1⟩ := HR.out.get hml
      have HT := Lib.hid (flat_take ls m hml)
      have h1 := flat_take_le ls (m + 1)
      rw [flat_take ls m hml, List.length_append, hr1.len] at h1
      have HL := Lib.hid hr1.len
      generalize ls[m] = y at *
      generalize (ls.take m).flatten = z at *
      clear hr1
      go_wp2
      refine ⟨⟨m + 1, by omega, by go_num, ?_⟩, by simp [intOf]; omega⟩
      rw [HT.out, List.length_append, HL.out]
      go_num
    · obtain rfl : n = m := by omega
      rw [List.take_of_length_le (by omega)]
      have HFl := Lib.hid (flat_take_le ls)
      have HFt := Lib.hid (flat_take ls)
      have HG := Lib.hid (grow_is w ls.flatten.length hb)
      generalize hT : ls.flatten.length = T at *
      have HTT := Lib.hid hT
      clear hT
      go_wp2_with fail
      refine HG.out.mono ?_
      rintro e w1 ⟨v1, rfl, hO1, hB1⟩
      have HO1 := Lib.hid hO1
      have HB1 := Lib.hid hB1
      clear hO1 hB1
      go_wp2
      go_loopw [6, 8, 27] (fun v _ i wr => ∃ m : Nat, m ≤ n ∧ i = .int .i64 m ∧ OwnB w.heap.size wr v (ls.take m).flatten ∧ Below w.heap.size w wr) (fun _ _ i _ => n - (intOf i).toNat)
      case atStart => exact ⟨0, Nat.zero_le _, rfl, HO1.out, HB1.out⟩
      case round =>
        obtain ⟨m, hm, rfl, ho, hw⟩ := hrel
        by_cases hlt : m < n
        · have hml : m < ls.length := by omega
          obtain ⟨b, off, A1, n1, c1, rfl, x0, hr1⟩ := (HR.out.below hw).get hml
          have HT := Lib.hid (HFt.out m hml)
          have hle : (ls.take m).flatten.length + n1 ≤ 140737488355328 := by
            have h1 := HFl.out (m + 1)
            rw [HFt.out m hml, List.length_append, hr1.len] at h1
            omega
          have HO := Lib.hid ho
          have HW := Lib.hid hw
          have hsz := hw.size
          have HR2 := Lib.hid (hr1.more hw.size)
          generalize ls[m] = y at *
          generalize (ls.take m).flatten = z at *
          clear hr1 ho hw
          go_wp2_with (at_builtin; refine app_bsN rfl _ _ rfl HO.out hsz HR2.out hle rfl rfl ?_)
          intro v' w2 ho2 hb2 _ _
          have HO2 := Lib.hid ho2
          have HB2 := Lib.hid (HW.out.trans hb2)
          clear ho2 hb2
          go_wp2
          exact ⟨⟨m + 1, by omega, by go_num, by rw [HT.out]; exact HO2.out, HB2.out⟩, by simp [intOf]; omega⟩
        · obtain rfl : n = m := by omega
          rw [List.take_of_length_le (by omega)] at ho
          have HO := Lib.hid ho
          have HW := Lib.hid hw
          clear ho hw
          go_wp2
          go_ret
          exact ⟨_, rfl, HO.out, HW.out⟩
end Go.Proofs.YtdgoeibfggjbmaaGreatDoor
namespace Go.Proofs.YtdgoeibfggjbmaaGreatDoor
open Go.RowKit
set_option maxRecDepth 100000
set_option linter.unusedSimpArgs false
set_option linter.unusedVariables false

def Bts (w : World) (l : List Int) (e : Ending) (w' : World) : Prop := ∃ A c, e = .returned (.slice A l.length c) ∧ l.length ≤ c ∧ Rd w' w'.heap.size A l.length l ∧ Below w.heap.size w w'
theorem numb_is (w : World) (n : Int) (s : Nat) (hn : U32 n) (h1 : 1 ≤ s) (h8 : s ≤ 8) (hf : n < 256 ^ s) : Calls Tryz.prog 220 #[.int .u32 n, .int .i64 s] w (Bts w (be s n)) := by
  have HP := Lib.hid (put_fits w none 0 0 [] n s (Rd.nil_ none) (by omega) hn.1 (by omega) (by omega) (by omega) (by simpa using hf))
  have hw : n % 18446744073709551616 = n := Int.emod_eq_of_lt hn.1 (by omega)
  clear hf
  go_enter Tryz.func220, Tryz.ntmps220
  go_wp2_with fail
  refine HP.out.mono ?_
  rintro e w1 ⟨rfl, hb, hB⟩
  have hb2 := hb.rd_all (B := w1.heap.size) (fun x hx => be_oct _ _ x (by simpa using hx)) hb.lt
  have HEnd : Hid (Bts w (be s n) (.returned (.slice (some ⟨w.heap.size, 0, none⟩) s s)) w1) := Lib.hid ⟨_, s, by rw [be_len], by rw [be_len]; omega, by simpa [be_len] using hb2, hB⟩
  clear hb hB hb2
  simp only [List.length_nil, Nat.zero_add, Int.toNat_natCast]
  go_wp2
  go_ret
  exact HEnd.out

def nb (v : Bool) : Nat := if v then 16 else 4
set_option maxHeartbeats 1000000 in
theorem address_at (w : World) (v : Bool) (l : List Int) (hl : l.length = 16) (ho : Oct l) : Calls Tryz.prog 221 #[.agg (ipc v l).toArray] w fun e W' => ∃ A, e = .returned (.slice A (nb v) 16) ∧ Rd W' W'.heap.size A (nb v) (l.take (nb v)) ∧ Below w.heap.size w W' := by
  have h0 := range_new w 27 (ipc v l)
  have H0 := Lib.hid h0
  have HL := Lib.hid hl
  have hsl := slice_arr_h (P := Tryz.prog) (t := 25) (e := 5) (n := 16) Tryz.underlying25 (by kernel_rfl) w.heap.size 1 (nb v) (by unfold nb; split <;> omega) (by omega)
  have HEnd : Hid (∀ W, Below w.heap.size w W → W.rangeAt w.heap.size 0 (ipc v l) → w.heap.size < W.heap.size → ∃ A, Value.slice (some ⟨w.heap.size, 1, none⟩) (nb v) 16 = .slice A (nb v) 16 ∧ Rd W W.heap.size A (nb v) (l.take (nb v)) ∧ Below w.heap.size w W) := Lib.hid (fun W hB hW hs => by
    have h := rd_range (pre := [Value.bool v]) (post := []) (l := l) (b := w.heap.size) (B := W.heap.size) (w := W) (by simpa using hW) ho 0 (nb v) (by unfold nb; split <;> omega) hs
    have hlen : (l.take (nb v)).length = nb v := by rw [List.length_take]; unfold nb; split <;> omega
    exact ⟨_, rfl, by simpa using h, hB⟩)
  have HB0 := Lib.hid ((Below.refl w.heap.size w).alloc (Nat.le_refl _) (.cells (ipc v l).toArray 27))
  have hbv : (v = true ∧ nb v = 16 ∧ bitsOf v = 128) ∨ (v = false ∧ nb v = 4 ∧ bitsOf v = 32) := by cases v <;> simp [nb, bitsOf]
  have HBt := Lib.hid (fun W => bits_is W v l)
  clear h0 hl ho
  go_enter Tryz.func221, Tryz.ntmps221
  go_wp2_with (refine ip_fetch rfl _ rfl w.heap.size 0 v l HL.out rfl H0.out ?_)
  refine (HBt.out _).mono ?_
  rintro e w1 ⟨rfl, hB⟩
  have HR1 := Lib.hid (range_below H0.out hB (by simp))
  have hs1 : w.heap.size < w1.heap.size := by have := hB.size; simp at this; omega
  have HB := Lib.hid (HB0.out.trans (hB.mono HB0.out.size))
  clear hB
  have HE2 := Lib.hid (HEnd.out _ HB.out HR1.out hs1)
  clear HEnd
  rcases hbv with ⟨rfl, e1, e2⟩ | ⟨rfl, e1, e2⟩
  · rw [e1] at hsl HE2
    rw [e2]
    have hs2 := hsl 16 rfl
    clear hsl
    go_wp2
    go_ret
    obtain ⟨A, e, h⟩ := HE2.out
    exact ⟨A, congrArg Ending.returned e, h⟩
  · rw [e1] at hsl HE2
    rw [e2]
    have hs2 := hsl 4 rfl
    clear hsl
    go_wp2
    go_ret
    obtain ⟨A, e, h⟩ := HE2.out
    exact ⟨A, congrArg Ending.returned e, h⟩

def sec (n : Int) : List Int := if n = 0 then [] else be 3 n
theorem second_is (w : World) (n : Int) (hn : 0 ≤ n ∧ n ≤ 16777215) : Calls Tryz.prog 222 #[.int .u32 n] w (Bts w (sec n)) := by
  by_cases h0 : n = 0
  · subst h0
    have HEnd : Hid (Bts w (sec 0) (.returned (.slice none 0 0)) w) := Lib.hid ⟨none, 0, rfl, Nat.le_refl _, Rd.nil_ none, Below.refl _ _⟩
    go_enter Tryz.func222, Tryz.ntmps222
    go_wp2
    go_ret
    exact HEnd.out
  · have e0 : (n == 0) = false := by rw [beq_eq_false_iff_ne]; exact h0
    have HN := Lib.hid (numb_is w n 3 ⟨hn.1, by omega⟩ (by omega) (by omega) (by omega))
    have HS : Hid (sec n = be 3 n) := Lib.hid (by unfold sec; rw [if_neg h0])
    clear h0 hn
    go_enter Tryz.func222, Tryz.ntmps222
    go_wp2_with fail
    refine HN.out.mono ?_
    rintro e w1 ⟨A, c, rfl, hc, hr, hB⟩
    have HEnd : Hid (Bts w (sec n) (.returned (.slice A (be 3 n).length c)) w1) := Lib.hid (by rw [HS.out]; exact ⟨A, c, rfl, hc, hr, hB⟩)
    clear hc hr hB
    go_wp2
    go_ret
    exact HEnd.out

def RdAll (W : World) (B : Nat) : List (Option Addr × Nat × Nat) → List (List Int) → Prop
  | [], [] => True
  | v :: vs, l :: ls => Rd W B v.1 v.2.1 l ∧ RdAll W B vs ls
  | _, _ => False
theorem RdAll.len {W : World} {B : Nat} : ∀ {vs : List (Option Addr × Nat × Nat)} {ls : List (List Int)}, RdAll W B vs ls → vs.length = ls.length
  | [], [], _ => rfl
  | _ :: _, _ :: _, h => by simp [RdAll.len h.2]
  | [], _ :: _, h => h.elim
  | _ :: _, [], h => h.elim
theorem RdAll.get {W : World} {B : Nat} : ∀ {vs : List (Option Addr × Nat × Nat)} {ls : List (List Int)}, RdAll W B vs ls → ∀ i (h : i < ls.length), ∃ A n c, vs[i]? = some (A, n, c) ∧ Rd W B A n ls[i]
  | [], [], _, i, h => by simp at h
  | v :: vs, l :: ls, h, 0, _ => ⟨v.1, v.2.1, v.2.2, rfl, h.1⟩
  | v :: vs, l :: ls, h, i + 1, hi => by
    obtain ⟨A, n, c, h1, h2⟩ := RdAll.get h.2 i (by simpa using hi)
    exact ⟨A, n, c, by simpa using h1, by simpa using h2⟩
  | [], _ :: _, h, _, _ => h.elim
  | _ :: _, [], h, _, _ => h.elim
theorem RdAll.below {W W' : World} {B : Nat} (hb : Below B W W') : ∀ {vs : List (Option Addr × Nat × Nat)} {ls : List (List Int)}, RdAll W B vs ls → RdAll W' B vs ls
  | [], [], _ => trivial
  | _ :: _, _ :: _, h => ⟨h.1.below hb, RdAll.below hb h.2⟩
  | [], _ :: _, h => h.elim
  | _ :: _, [], h => h.elim
theorem RdAll.more {W : World} {B B' : Nat} (hb : B ≤ B') : ∀ {vs : List (Option Addr × Nat × Nat)} {ls : List (List Int)}, RdAll W B vs ls → RdAll W B' vs ls
  | [], [], _ => trivial
  | _ :: _, _ :: _, h => ⟨h.1.more hb, RdAll.more hb h.2⟩
  | [], _ :: _, h => h.elim
  | _ :: _, [], h => h.elim
theorem rdl_new {W : World} {vs : List (Option Addr × Nat × Nat)} {ls : List (List Int)} (h : RdAll W W.heap.size vs ls) (t : TypeId) (cs : Array Value) (hcs : cs = (vs.map fun v => Value.slice v.1 v.2.1 v.2.2).toArray) :
    RdL (W.alloc (.cells cs t)) (W.alloc (.cells cs t)).heap.size (some ⟨W.heap.size, 0, none⟩) ls.length ls := by
  have hb : Below W.heap.size W (W.alloc (.cells cs t)) := (Below.refl _ _).alloc (Nat.le_refl _) _
  have hB := Blk.new W t cs
  refine ⟨rfl, fun _ => ⟨W.heap.size, 0, rfl, by simp, fun i hi => ?_⟩⟩
  obtain ⟨A, n, c, h1, h2⟩ := h.get i hi
  refine ⟨A, n, c, ?_, (h2.below hb).more (by simp)⟩
  rw [Nat.zero_add, hB.cell, hcs]
  simp [h1]
end Go.Proofs.YtdgoeibfggjbmaaGreatDoor
