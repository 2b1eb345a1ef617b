/-
  Layer 8: ReadRefresh; the document's PutFault, ReadFault.
-/
import Derived.Test.YtgfjjkckamppoaaDoorHeU
namespace Go.Proofs.YtgfjjkckamppoaaDoor
open Go.RowKit
set_option maxRecDepth 100000
set_option linter.unusedSimpArgs false
set_option linter.unusedVariables false

set_option maxHeartbeats 4000000 in
theorem readr_is (w : World) (E : EnvF w) (A : Option Addr) (n c : Nat) (l : List Int) (hr : Rd w w.heap.size A n l) : Calls Tryd.prog 27 #[.slice A n c] w fun e w' => e = .returned (.bool (refB l)) ∧ Below w.heap.size w w' := by
  have hl := hr.len
  by_cases h4 : n = 4
  case neg =>
    have e4 : ((n : Int) != 4) = true := by simp; omega
    have HE : Hid (false = refB l) := Lib.hid (by unfold refB; exact (decide_eq_false (fun h => h4 (by omega))).symm)
    clear hr h4 E
    go_enter Tryd.func27, Tryd.ntmps27
    go_wp2
    go_ret
    exact ⟨by rw [← HE.out]; rfl, Below.refl _ _⟩
  subst h4
  have f0 : w.cell? ⟨0, 0, none⟩ = some (.int .u8 0) := E.at_ 0 _ rfl
  have f1 : w.cell? ⟨0, 1, none⟩ = some (.int .u8 25) := E.at_ 1 _ rfl
  have f2 : w.cell? ⟨0, 2, none⟩ = some (.int .u8 0) := E.at_ 2 _ rfl
  have f3 : w.cell? ⟨0, 3, none⟩ = some (.int .u8 70) := E.at_ 3 _ rfl
  obtain ⟨b, off, rfl, _, hc⟩ := hr.at_ (by omega)
  have c0 := hc 0 (by omega)
  have c1 := hc 1 (by omega)
  have c3 := hc 3 (by omega)
  rw [Nat.add_zero] at c0
  have HR : Hid (refB l = decide (l.getD 0 0 = 0 ∧ l.getD 1 0 = 25 ∧ l.getD 3 0 = 70)) := Lib.hid (by unfold refB; simp [hl])
  clear hc hr hl E
  generalize l.getD 0 0 = q0 at *
  generalize l.getD 1 0 = q1 at *
  generalize l.getD 3 0 = q3 at *
  have i0 : ∀ W, (Instr.index 85 (.agg #[.int .u8 0, .int .u8 25, .int .u8 0, .int .u8 70]) (.int .i64 0)).run Tryd.prog W = .ok (.int .u8 0) W := fun W => by kernel_rfl
  have i1 : ∀ W, (Instr.index 85 (.agg #[.int .u8 0, .int .u8 25, .int .u8 0, .int .u8 70]) (.int .i64 1)).run Tryd.prog W = .ok (.int .u8 25) W := fun W => by kernel_rfl
  have i2 : ∀ W, (Instr.index 85 (.agg #[.int .u8 0, .int .u8 25, .int .u8 0, .int .u8 70]) (.int .i64 2)).run Tryd.prog W = .ok (.int .u8 0) W := fun W => by kernel_rfl
  have i3 : ∀ W, (Instr.index 85 (.agg #[.int .u8 0, .int .u8 25, .int .u8 0, .int .u8 70]) (.int .i64 3)).run Tryd.prog W = .ok (.int .u8 70) W := fun W => by kernel_rfl
  go_enter Tryd.func27, Tryd.ntmps27
  go_wp2
  go_loop [9] (fun i => ∃ m : Nat, m ≤ 4 ∧ i = .int .i64 m ∧ (0 < m → q0 = 0) ∧ (1 < m → q1 = 25) ∧ (3 < m → q3 = 70)) (fun i => 4 - (intOf i).toNat)
  case atStart => exact ⟨0, by omega, rfl, by omega, by omega, by omega⟩
  case round =>
    obtain ⟨m, hm, rfl, h0, h1, h3⟩ := hrel
    have hcase : m = 0 ∨ m = 1 ∨ m = 2 ∨ m = 3 ∨ m = 4 := by omega
    rcases hcase with rfl | rfl | rfl | rfl | rfl
    · by_cases hq : q0 = 0
      · have e0 : (q0 != 0) = false := by simpa using hq
        have HQ := Lib.hid hq
        clear h0 h1 h3 hq
        go_wp2
        exact ⟨⟨1, by omega, rfl, fun _ => HQ.out, by omega, by omega⟩, by simp [intOf]⟩
      · have e0 : (q0 != 0) = true := by simpa using hq
        have HE : Hid (false = refB l) := Lib.hid (by rw [HR.out]; exact (decide_eq_false (fun h => hq h.1)).symm)
        clear h0 h1 h3 hq
        go_wp2
        go_ret
        exact ⟨by rw [← HE.out]; rfl, Below.refl _ _⟩
    · have H0 := Lib.hid (h0 (by omega))
      by_cases hq : q1 = 25
      · have e0 : (q1 != 25) = false := by simpa using hq
        have HQ := Lib.hid hq
        clear h0 h1 h3 hq
        go_wp2
        exact ⟨⟨2, by omega, rfl, fun _ => H0.out, fun _ => HQ.out, by omega⟩, by simp [intOf]⟩
      · have e0 : (q1 != 25) = true := by simpa using hq
        have HE : Hid (false = refB l) := Lib.hid (by rw [HR.out]; exact (decide_eq_false (fun h => hq h.2.1)).symm)
        clear h0 h1 h3 hq
        go_wp2
        go_ret
        exact ⟨by rw [← HE.out]; rfl, Below.refl _ _⟩
    · have H0 := Lib.hid (h0 (by omega))
      have H1 := Lib.hid (h1 (by omega))
      clear h0 h1 h3
      go_wp2
      exact ⟨⟨3, by omega, rfl, fun _ => H0.out, fun _ => H1.out, by omega⟩, by simp [intOf]⟩
    · have H0 := Lib.hid (h0 (by omega))
      have H1 := Lib.hid (h1 (by omega))
      by_cases hq : q3 = 70
      · have e0 : (q3 != 70) = false := by simpa using hq
        have HQ := Lib.hid hq
        clear h0 h1 h3 hq
        go_wp2
        exact ⟨⟨4, by omega, rfl, fun _ => H0.out, fun _ => H1.out, fun _ => HQ.out⟩, by simp [intOf]⟩
      · have e0 : (q3 != 70) = true := by simpa using hq
        have HE : Hid (false = refB l) := Lib.hid (by rw [HR.out]; exact (decide_eq_false (fun h => hq h.2.2)).symm)
        clear h0 h1 h3 hq
        go_wp2
        go_ret
        exact ⟨by rw [← HE.out]; rfl, Below.refl _ _⟩
    · have HE : Hid (true = refB l) := Lib.hid (by rw [HR.out]; exact (decide_eq_true ⟨h0 (by omega), h1 (by omega), h3 (by omega)⟩).symm)
      clear h0 h1 h3
      go_wp2
      go_ret
      exact ⟨by rw [← HE.out]; rfl, Below.refl _ _⟩

set_option maxHeartbeats 2000000 in
theorem rputf_is (w : World) (c s : Int) (A : Option Addr) (n k : Nat) (l : List Int) (hr : Rd w w.heap.size A n l) : Calls Tryd.prog 24 #[.agg #[.int .i64 c, .int .i64 s, .slice A n k]] w (PutFP w c s l) := by
  have hal := below_one8 w (.cells #[.int .i64 c, .int .i64 s, .slice A n k] 34)
  have HB := Lib.hid hal
  have hlen := hr.len
  by_cases hc0 : c < 0
  case pos =>
    have HP : Hid (pfE c s l = 2 ∧ pfB c s l = []) := Lib.hid (by unfold pfE pfB; rw [if_pos (fun h => by omega), if_neg (fun h => by omega)]; exact ⟨rfl, rfl⟩)
    clear hr hal hlen
    go_enter Tryd.func24, Tryd.ntmps24
    go_wp2
    go_ret2
    exact ⟨none, 0, 0, by rw [HP.out.1]; rfl, by rw [HP.out.2]; rfl, Nat.le_refl _, by rw [HP.out.2]; exact Rd.nil_ _, HB.out⟩
  by_cases hc1 : 255 < c
  case pos =>
    have HP : Hid (pfE c s l = 2 ∧ pfB c s l = []) := Lib.hid (by unfold pfE pfB; rw [if_pos (fun h => by omega), if_neg (fun h => by omega)]; exact ⟨rfl, rfl⟩)
    clear hr hal hlen
    go_enter Tryd.func24, Tryd.ntmps24
    go_wp2
    go_ret2
    exact ⟨none, 0, 0, by rw [HP.out.1]; rfl, by rw [HP.out.2]; rfl, Nat.le_refl _, by rw [HP.out.2]; exact Rd.nil_ _, HB.out⟩
  by_cases hs0 : s < 0
  case pos =>
    have HP : Hid (pfE c s l = 2 ∧ pfB c s l = []) := Lib.hid (by unfold pfE pfB; rw [if_pos (fun h => by omega), if_neg (fun h => by omega)]; exact ⟨rfl, rfl⟩)
    clear hr hal hlen
    go_enter Tryd.func24, Tryd.ntmps24
    go_wp2
    go_ret2
    exact ⟨none, 0, 0, by rw [HP.out.1]; rfl, by rw [HP.out.2]; rfl, Nat.le_refl _, by rw [HP.out.2]; exact Rd.nil_ _, HB.out⟩
  by_cases hs1 : 255 < s
  case pos =>
    have HP : Hid (pfE c s l = 2 ∧ pfB c s l = []) := Lib.hid (by unfold pfE pfB; rw [if_pos (fun h => by omega), if_neg (fun h => by omega)]; exact ⟨rfl, rfl⟩)
    clear hr hal hlen
    go_enter Tryd.func24, Tryd.ntmps24
    go_wp2
    go_ret2
    exact ⟨none, 0, 0, by rw [HP.out.1]; rfl, by rw [HP.out.2]; rfl, Nat.le_refl _, by rw [HP.out.2]; exact Rd.nil_ _, HB.out⟩
  by_cases hl : n ≤ 4075
  case neg =>
    have HP : Hid (pfE c s l = 5 ∧ pfB c s l = []) := Lib.hid (by unfold pfE pfB; rw [if_neg (fun h => h ⟨by omega, by omega⟩), if_pos (by omega), if_neg (fun h => hl (by omega))]; exact ⟨rfl, rfl⟩)
    have hn : (4075 : Int) < n := by omega
    clear hr hal hlen hl
    go_enter Tryd.func24, Tryd.ntmps24
    go_wp2
    go_ret2
    exact ⟨none, 0, 0, by rw [HP.out.1]; rfl, by rw [HP.out.2]; rfl, Nat.le_refl _, by rw [HP.out.2]; exact Rd.nil_ _, HB.out⟩
  have HP : Hid (pfE c s l = 0 ∧ pfB c s l = c :: s :: l) := Lib.hid (by unfold pfE pfB; rw [if_neg (fun h => h ⟨by omega, by omega⟩), if_neg (by omega), if_pos ⟨by omega, by omega, by omega⟩]; exact ⟨rfl, rfl⟩)
  have hn : ¬ (4075 : Int) < n := by omega
  have hw1 : c % 256 = c := Int.emod_eq_of_lt (by omega) (by omega)
  have hw2 : s % 256 = s := Int.emod_eq_of_lt (by omega) (by omega)
  have ho : Oct [c, s] := oct2 (by omega) (by omega)
  have hs1 : (w.alloc (.cells #[.int .i64 c, .int .i64 s, .slice A n k] 34)).heap.size = w.heap.size + 1 := by simp
  have hown := own_new (w.alloc (.cells #[.int .i64 c, .int .i64 s, .slice A n k] 34)) [c, s] ho (by simp)
  rw [hs1] at hown
  have HO := Lib.hid hown
  have HD := Lib.hid ((hr.up hal).up (below_one8 _ (.cells (u8s [c, s]).toArray 5)))
  have HB2 := Lib.hid (hal.trans ((below_one8 _ (.cells (u8s [c, s]).toArray 5)).mono hal.size))
  have HS1 := Lib.hid hs1
  clear hr hal ho hown hs1 hl
  go_enter Tryd.func24, Tryd.ntmps24
  go_wp2_with (at_builtin; refine app_bs rfl _ _ rfl HO.out (by simp) HD.out (by simp; omega) rfl rfl ?_)
  intro v W ho hb _ _
  obtain ⟨Av, cv, rfl, hcv, hrv, _⟩ := ho.at_
  have HRv := Lib.hid hrv
  have HBf := Lib.hid (HB2.out.trans (hb.mono (Nat.le_succ _)))
  obtain ⟨m, hm⟩ : ∃ m, m = (c :: s :: l).length := ⟨_, rfl⟩
  try simp only [List.cons_append, List.nil_append] at hcv ⊢
  rw [← hm] at HRv hcv ⊢
  have HM := Lib.hid hm
  clear ho hb hrv hm HO HD
  go_wp2
  go_ret2
  exact ⟨Av, m, cv, by rw [HP.out.1]; rfl, by rw [HP.out.2, HM.out], hcv, by rw [HP.out.2]; exact HRv.out, HBf.out⟩
theorem rdf_low {w W W' : World} {lo : Nat} (hS : Below w.heap.size w W ∧ ∃ old, Blk W w.heap.size 34 old ∧ old.size = 3) (hlo : w.heap.size < lo) (hB : Below lo W W') : Below w.heap.size w W' ∧ ∃ old, Blk W' w.heap.size 34 old ∧ old.size = 3 := by
  obtain ⟨h1, o, h2, h3⟩ := hS
  exact ⟨h1.trans (hB.mono (Nat.le_of_lt hlo)), o, h2.below hB hlo, h3⟩
set_option maxHeartbeats 2000000 in
theorem rreadf_is (w : World) (A : Option Addr) (n k : Nat) (l : List Int) (hr : Rd w w.heap.size A n l) (hk : n ≤ k) (hn : n ≤ 140737488355328) : Calls Tryd.prog 26 #[.slice A n k] w (RdFP w l) := by
  have hlen := hr.len
  have hal := below_one8 w (.cells #[.int .i64 0, .int .i64 0, .slice none 0 0] 34)
  have HR0 := Lib.hid (Blk.new w 34 #[.int .i64 0, .int .i64 0, .slice none 0 0])
  have HB := Lib.hid hal
  by_cases h2 : n < 2
  · have HP : Hid (l.length < 2 ∧ l.drop 2 = []) := Lib.hid ⟨by omega, List.drop_of_length_le (by omega)⟩
    have hh : (n : Int) < 2 := by omega
    clear hr hal hlen h2
    go_enter Tryd.func26, Tryd.ntmps26
    go_wp2_with (refine f_store rfl _ _ rfl w.heap.size 0 0 none 0 0 rfl rfl 34 _ HR0.out rfl ?_)
    try simp only [Exit.inBlock, Exit.then]
    refine bodyPost_ret (results_cell_slot rfl _ _ w.heap.size 34 _ _ _ rfl rfl (Blk.setRow HR0.out _) Tryd.underlying34 rfl fsz) rfl ⟨HB.out.trans (below_setRow _ _ _ (Nat.le_refl _)), none, 0, 0, ?_, ?_, ?_, Nat.le_refl _⟩
    · rw [if_pos HP.out.1, if_pos HP.out.1, if_pos HP.out.1]; rfl
    · rw [HP.out.2]; exact bodyX_nil _ _ _
    · rw [HP.out.2]; rfl
  · have hh : ¬ (n : Int) < 2 := by omega
    have HP : Hid (¬ l.length < 2) := Lib.hid (by omega)
    have hcut := hr.cut (k := 2) (m := n - 2) (c := k) (by omega) hk
    rw [List.take_of_length_le (by simp; omega)] at hcut
    obtain ⟨b0, off, rfl, hlt, hcs⟩ := hr.at_ (by omega)
    have c0 := hcs 0 (by omega)
    have c1 := hcs 1 (by omega)
    rw [show Option.map (fun x : Addr => x.add 2) (some ⟨b0, off, none⟩) = some ⟨b0, off + 2, none⟩ by simp [Addr.add]] at hcut
    have HCut := Lib.hid hcut
    rw [Nat.add_zero] at c0
    have HC0 : Hid (∀ W, Below w.heap.size w W → W.cell? ⟨b0, off, none⟩ = some (.int .u8 (l.getD 0 0)) ∧ W.cell? ⟨b0, off + 1, none⟩ = some (.int .u8 (l.getD 1 0))) := Lib.hid (fun W hB => ⟨(hB.cell (p := ⟨b0, off, none⟩) hlt).trans c0, (hB.cell (p := ⟨b0, off + 1, none⟩) hlt).trans c1⟩)
    have hb0 := hr.oct.getD 0
    have hb1 := hr.oct.getD 1
    have HDl : Hid ((l.drop 2).length = n - 2) := Lib.hid (by simp; omega)
    have HDo : Hid ((l.drop 2).length ≤ 140737488355328) := Lib.hid (by simp; omega)
    clear hr hal hlen h2 hcut c0 c1 hlt hcs
    generalize hq0 : l.getD 0 0 = q0 at *
    generalize hq1 : l.getD 1 0 = q1 at *
    have HQ := Lib.hid (And.intro hq0 hq1)
    clear hq0 hq1
    have z0 : IntKind.i64.wrap q0 = q0 := by rw [IntKind.wrap_i64]; omega
    have z1 : IntKind.i64.wrap q1 = q1 := by rw [IntKind.wrap_i64]; omega
    have n0 : 0 < n := by omega
    have n1 : (1 : Int) < (n : Int) := by omega
    have n2 : 2 ≤ n := by omega
    go_enter Tryd.func26, Tryd.ntmps26
    go_wp2_with fail
    refine wp_region_held_drew (S := fun W => Below w.heap.size w W ∧ ∃ old, Blk W w.heap.size 34 old ∧ old.size = 3) (by kernel_rfl) (⟨HB.out.trans ((below_drew8 _).mono HB.out.size), _, HR0.out.below (below_drew8 _) HR0.out.lt, rfl⟩) (fun hS => ?_)
    refine wpAnyH_take (i := 0) (oi := ⟨some 8, _, _, _, _, _⟩) (v := ?_) rfl (by kernel_rfl) (by kernel_rfl) (by kernel_rfl) (fun _ _ _ h => h) (Or.inl ⟨by rfl, ?_⟩) hS ?_
    rotate_left
    · intro wq hq
      first | (go_simp; done) | (go_simp; rfl)
    try simp only [Act.put, List.setIfInBounds_toArray, List.set_cons_zero, List.set_cons_succ]
    refine wpAnyH_take (i := 1) (oi := ⟨some 9, _, _, _, _, _⟩) (v := ?_) rfl (by kernel_rfl) (by kernel_rfl) (by kernel_rfl) (fun _ _ _ h => h) (Or.inl ⟨by rfl, ?_⟩) hS ?_
    rotate_left
    · intro wq hq
      first | (go_simp; done) | (go_simp; rfl)
    try simp only [Act.put, List.setIfInBounds_toArray, List.set_cons_zero, List.set_cons_succ]
    refine wpAnyH_take (i := 2) (oi := ⟨some 10, _, _, _, _, _⟩) (v := ?_) rfl (by kernel_rfl) (by kernel_rfl) (by kernel_rfl) (fun _ _ _ h => h) (Or.inl ⟨by rfl, ?_⟩) hS ?_
    rotate_left
    · intro wq hq
      have c0 := (HC0.out wq hq.1).1
      first | (go_simp; done) | (go_simp; rfl)
    try simp only [Act.put, List.setIfInBounds_toArray, List.set_cons_zero, List.set_cons_succ]
    refine wpAnyH_take (i := 3) (oi := ⟨some 11, _, _, _, _, _⟩) (v := ?_) rfl (by kernel_rfl) (by kernel_rfl) (by kernel_rfl) (fun _ _ _ h => h) (Or.inl ⟨by rfl, ?_⟩) hS ?_
    rotate_left
    · intro wq hq
      first | (go_simp; done) | (go_simp; rfl)
    try simp only [Act.put, List.setIfInBounds_toArray, List.set_cons_zero, List.set_cons_succ]
    refine wpAnyH_take (i := 4) (oi := ⟨some 12, _, _, _, _, _⟩) (v := ?_) rfl (by kernel_rfl) (by kernel_rfl) (by kernel_rfl) (fun _ _ _ h => h) (Or.inl ⟨by rfl, ?_⟩) hS ?_
    rotate_left
    · intro wq hq
      first | (go_simp; done) | (go_simp; rfl)
    try simp only [Act.put, List.setIfInBounds_toArray, List.set_cons_zero, List.set_cons_succ]
    refine wpAnyH_take (i := 5) (oi := ⟨some 13, _, _, _, _, _⟩) (v := ?_) rfl (by kernel_rfl) (by kernel_rfl) (by kernel_rfl) (fun _ _ _ h => h) (Or.inl ⟨by rfl, ?_⟩) hS ?_
    rotate_left
    · intro wq hq
      first | (go_simp; done) | (go_simp; rfl)
    try simp only [Act.put, List.setIfInBounds_toArray, List.set_cons_zero, List.set_cons_succ]
    refine wpAnyH_take (i := 6) (oi := ⟨some 14, _, _, _, _, _⟩) (v := ?_) rfl (by kernel_rfl) (by kernel_rfl) (by kernel_rfl) (fun _ _ _ h => h) (Or.inl ⟨by rfl, ?_⟩) hS ?_
    rotate_left
    · intro wq hq
      have c0 := (HC0.out wq hq.1).2
      first | (go_simp; done) | (go_simp; rfl)
    try simp only [Act.put, List.setIfInBounds_toArray, List.set_cons_zero, List.set_cons_succ]
    refine wpAnyH_take (i := 7) (oi := ⟨some 15, _, _, _, _, _⟩) (v := ?_) rfl (by kernel_rfl) (by kernel_rfl) (by kernel_rfl) (fun _ _ _ h => h) (Or.inl ⟨by rfl, ?_⟩) hS ?_
    rotate_left
    · intro wq hq
      first | (go_simp; done) | (go_simp; rfl)
    try simp only [Act.put, List.setIfInBounds_toArray, List.set_cons_zero, List.set_cons_succ]
    refine wpAnyH_take (i := 9) (oi := ⟨some 17, _, _, _, _, _⟩) (v := ?_) rfl (by kernel_rfl) (by kernel_rfl) (by kernel_rfl) (fun _ _ _ h => h) (Or.inl ⟨by rfl, ?_⟩) hS ?_
    rotate_left
    · intro wq hq
      first | (go_simp; done) | (go_simp; rfl)
    try simp only [Act.put, List.setIfInBounds_toArray, List.set_cons_zero, List.set_cons_succ]
    refine wpAnyH_take (i := 10) (oi := ⟨some 18, _, _, _, _, _⟩) (v := ?_) rfl (by kernel_rfl) (by kernel_rfl) (by kernel_rfl) (fun _ _ _ h => h) (Or.inl ⟨by rfl, ?_⟩) hS ?_
    rotate_left
    · intro wq hq
      first | (go_simp; done) | (go_simp; rfl)
    try simp only [Act.put, List.setIfInBounds_toArray, List.set_cons_zero, List.set_cons_succ]
    have HSome : Hid (∃ ad, (if k = 2 then some (⟨b0, off, none⟩ : Addr) else some ⟨b0, off + 2, none⟩) = some ad) := Lib.hid (by split <;> exact ⟨_, rfl⟩)
    generalize (if k = 2 then some (⟨b0, off, none⟩ : Addr) else some ⟨b0, off + 2, none⟩) = A2 at *
    have hsz0 : w.heap.size < (w.alloc (.cells #[.int .i64 0, .int .i64 0, .slice none 0 0] 34)).drew.heap.size := by show w.heap.size < (w.alloc (.cells #[.int .i64 0, .int .i64 0, .slice none 0 0] 34)).heap.size; simp
    generalize (w.alloc (.cells #[.int .i64 0, .int .i64 0, .slice none 0 0] 34)).drew = W0 at *
    obtain ⟨ad, had⟩ : ∃ ad, A2 = some ad := HSome.out
    subst had
    refine wpAnyH_ready (rs := [8]) (by kernel_rfl) (by simp) ?_
    refine AllReadyH.cons (o := ⟨some 16, _, _, _, _, _⟩) rfl (fun K hK => ?_) AllReadyH.nil
    rw [if_pos (by rfl)]
    go_wp2
    have hown := ownB_zero W0 W0.heap.size (Nat.le_refl _)
    have hgl : w.heap.size ≤ W0.heap.size := hS.1.size
    have hgl2 : w.heap.size < W0.heap.size := hsz0
    clear hsz0
    have hal2 := below_one8 W0 (.cells #[] 5)
    have hSn := rdf_below hS hal2
    clear hS hal2
    refine hK.out _ _ (hSn) (fun hS => ?_)
    clear hK K
    try simp only [Act.put, List.setIfInBounds_toArray, List.set_cons_zero, List.set_cons_succ]
    clear hSn
    generalize hg0 : W0.heap.size = g0 at *
    generalize hw1 : (W0.alloc (.cells #[] 5)) = W1 at *
    have hg1 : g0 ≤ W1.heap.size := by rw [← hw1, ← hg0]; simp
    clear hw1 hg0
    have hrd := (HCut.out.below hS.1).more hS.1.size
    refine wpAnyH_ready (rs := [11]) (by kernel_rfl) (by simp) ?_
    refine AllReadyH.cons (o := ⟨some 19, _, _, _, _, _⟩) rfl (fun K hK => ?_) AllReadyH.nil
    rw [if_pos (by rfl)]
    refine app_wp8 _ _ rfl hown hg1 hrd (by simp; omega) rfl rfl ?_
    intro v W2 hO hB
    rw [List.nil_append] at hO
    have hx := hO.bodyX2 (w := w) hgl
    obtain ⟨Av, cv, rfl, hcv, _, _⟩ := hO.at_
    have hx2 := hx Av _ cv rfl
    have HX := Lib.hid hx2
    have hSn := rdf_low hS hgl2 hB
    obtain ⟨m, hm⟩ : ∃ m, m = (l.drop 2).length := ⟨_, rfl⟩
    rw [← hm] at hcv ⊢
    have HM := Lib.hid hm
    clear hO hB hx hx2 hS hown hrd hm
    refine hK.out _ _ (hSn) (fun hS => ?_)
    clear hK K
    try simp only [Act.put, List.setIfInBounds_toArray, List.set_cons_zero, List.set_cons_succ]
    clear hSn
    refine wpAnyH_take (i := 12) (oi := ⟨some 20, _, _, _, _, _⟩) (v := ?_) rfl (by kernel_rfl) (by kernel_rfl) (by kernel_rfl) (fun _ _ _ h => h) (Or.inl ⟨by rfl, ?_⟩) hS ?_
    rotate_left
    · intro wq hq
      first | (go_simp; done) | (go_simp; rfl)
    try simp only [Act.put, List.setIfInBounds_toArray, List.set_cons_zero, List.set_cons_succ]
    have hS0 := hS
    obtain ⟨hlow, o1, k1, z1⟩ := hS
    refine wpAnyH_ready (rs := [13]) (by kernel_rfl) (by simp) ?_
    refine AllReadyH.cons (o := ⟨none, _, _, _, _, _⟩) rfl (fun K hK => ?_) AllReadyH.nil
    rw [if_pos (by rfl)]
    refine wp_store_row 34 _ _ rfl w.heap.size #[.int .i64 q0, .int .i64 q1, .slice Av m cv] rfl rfl 34 _ k1 fsz (by rw [z1]; rfl) (by kernel_rfl) ?_
    have HEnd := Lib.hid (Blk.setRow k1 #[.int .i64 q0, .int .i64 q1, .slice Av m cv])
    have HBx := Lib.hid (HX.out.row k1 (by decide) #[.int .i64 q0, .int .i64 q1, .slice Av m cv])
    have HLw := Lib.hid (hlow.trans (below_setRow W2 w.heap.size #[.int .i64 q0, .int .i64 q1, .slice Av m cv] (Nat.le_refl _)))
    refine hK.out _ _ ⟨HLw.out, _, HEnd.out, rfl⟩ (fun hS => ?_)
    clear hK K k1 hlow hS0
    try simp only [Act.put, List.setIfInBounds_toArray, List.set_cons_zero, List.set_cons_succ]
    refine wpAnyH_take (i := 14) (oi := ⟨some 3, _, _, _, _, _⟩) (v := ?_) rfl (by kernel_rfl) (by kernel_rfl) (by kernel_rfl) (fun _ _ _ h => h) (Or.inl ⟨by rfl, ?_⟩) hS ?_
    rotate_left
    · intro wq hq
      first | (go_simp; done) | (go_simp; rfl)
    try simp only [Act.put, List.setIfInBounds_toArray, List.set_cons_zero, List.set_cons_succ]
    refine wpAnyH_done (by kernel_rfl) ?_ _
    clear hS
    go_wp2
    try simp only [Exit.inBlock, Exit.then]
    refine bodyPost_ret (results_cell_slot rfl _ _ w.heap.size 34 _ _ (.int .i64 0) rfl rfl HEnd.out Tryd.underlying34 rfl fsz) rfl ⟨HLw.out, Av, m, cv, ?_, HBx.out, HM.out, hcv⟩
    rw [if_neg HP.out, if_neg HP.out, if_neg HP.out, HQ.out.1, HQ.out.2]
end Go.Proofs.YtgfjjkckamppoaaDoor
