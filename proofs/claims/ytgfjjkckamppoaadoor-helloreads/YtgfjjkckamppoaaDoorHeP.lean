/-
  Layer 8: ReadFault.
-/
import Derived.Test.YtgfjjkckamppoaaDoorHeO
namespace Go.Proofs.YtgfjjkckamppoaaDoor
open Go.RowKit
set_option maxRecDepth 100000
set_option linter.unusedSimpArgs false
set_option linter.unusedVariables false

/-- What a notification's body says: code, sub, data; or that it is too short. -/
def RdFP (w : World) (l : List Int) (e : Ending) (w' : World) : Prop := Below w.heap.size w w' ∧ ∃ A n k, e = .returned (.tuple #[.agg #[.int .i64 (if l.length < 2 then 0 else l.getD 0 0), .int .i64 (if l.length < 2 then 0 else l.getD 1 0), .slice A n k], .int .i64 (if l.length < 2 then 3 else 0)]) ∧ BodyX w w' A (l.drop 2) ∧ n = (l.drop 2).length ∧ n ≤ k
theorem bodyX_nil (w W : World) (A : Option Addr) : BodyX w W A [] := ⟨(fun x h => by cases h), Or.inl rfl⟩
theorem rdl_one (W : World) (A : Option Addr) (n k : Nat) (l : List Int) (h : Rd W W.heap.size A n l) : RdL (W.alloc (.cells #[.slice A n k] 25)) (W.alloc (.cells #[.slice A n k] 25)).heap.size (some ⟨W.heap.size, 0, none⟩) 1 [l] :=
  rdl_new_at (vs := [(A, n, k)]) (ls := [l]) ⟨h, trivial⟩ 25 _ rfl _ rfl
theorem rdf_below {w W W' : World} (hS : Below w.heap.size w W ∧ ∃ old, Blk W w.heap.size 34 old ∧ old.size = 3) (hB : Below W.heap.size W W') : Below w.heap.size w W' ∧ ∃ old, Blk W' w.heap.size 34 old ∧ old.size = 3 := by
  obtain ⟨h1, o, h2, h3⟩ := hS
  exact ⟨h1.trans (hB.mono h1.size), o, h2.below hB h2.lt, h3⟩
set_option maxHeartbeats 2000000 in
theorem readf_is (w : World) (A : Option Addr) (n k : Nat) (l : List Int) (hr : Rd w w.heap.size A n l) (hk : n ≤ k) (hn : n ≤ 140737488355328) : Calls Tryd.prog 25 #[.slice A n k] w (RdFP w l) := by
  have hlen := hr.len
  have hal := below_one8 w (.cells #[.int .i64 0, .int .i64 0, .slice none 0 0] 34)
  have HR0 := Lib.hid (Blk.new w 34 #[.int .i64 0, .int .i64 0, .slice none 0 0])
  have HB := Lib.hid hal
  by_cases h2 : n < 2
  · have HP : Hid (l.length < 2 ∧ l.drop 2 = []) := Lib.hid ⟨by omega, List.drop_of_length_le (by omega)⟩
    have hh : (n : Int) < 2 := by omega
    clear hr hal hlen h2
    go_enter Tryd.func25, Tryd.ntmps25
    go_wp2_with (refine f_store rfl _ _ rfl w.heap.size 0 0 none 0 0 rfl rfl 34 _ HR0.out rfl ?_)
    try simp only [Exit.inBlock, Exit.then]
    refine bodyPost_ret (results_cell_slot rfl _ _ w.heap.size 34 _ _ _ rfl rfl (Blk.setRow HR0.out _) Tryd.underlying34 rfl fsz) rfl ⟨HB.out.trans (below_setRow _ _ _ (Nat.le_refl _)), none, 0, 0, ?_, ?_, ?_, Nat.le_refl _⟩
    · rw [if_pos HP.out.1, if_pos HP.out.1, if_pos HP.out.1]; rfl
    · rw [HP.out.2]; exact bodyX_nil _ _ _
    · rw [HP.out.2]; rfl
  · have hh : ¬ (n : Int) < 2 := by omega
    have HP : Hid (¬ l.length < 2) := Lib.hid (by omega)
    have hcut := hr.cut (k := 2) (m := n - 2) (c := k) (by omega) hk
    rw [List.take_of_length_le (by simp; omega)] at hcut
    obtain ⟨b0, off, rfl, hlt, hcs⟩ := hr.at_ (by omega)
    have c0 := hcs 0 (by omega)
    have c1 := hcs 1 (by omega)
    rw [show Option.map (fun x : Addr => x.add 2) (some ⟨b0, off, none⟩) = some ⟨b0, off + 2, none⟩ by simp [Addr.add]] at hcut
    have HCut := Lib.hid hcut
    rw [Nat.add_zero] at c0
    have HC0 : Hid (∀ W, Below w.heap.size w W → W.cell? ⟨b0, off, none⟩ = some (.int .u8 (l.getD 0 0)) ∧ W.cell? ⟨b0, off + 1, none⟩ = some (.int .u8 (l.getD 1 0))) := Lib.hid (fun W hB => ⟨(hB.cell (p := ⟨b0, off, none⟩) hlt).trans c0, (hB.cell (p := ⟨b0, off + 1, none⟩) hlt).trans c1⟩)
    have hb0 := hr.oct.getD 0
    have hb1 := hr.oct.getD 1
    have HDl : Hid ((l.drop 2).length = n - 2) := Lib.hid (by simp; omega)
    have HDo : Hid ((l.drop 2).length ≤ 140737488355328) := Lib.hid (by simp; omega)
    clear hr hal hlen h2 hcut c0 c1 hlt hcs
    generalize hq0 : l.getD 0 0 = q0 at *
    generalize hq1 : l.getD 1 0 = q1 at *
    have HQ := Lib.hid (And.intro hq0 hq1)
    clear hq0 hq1
    have z0 : IntKind.i64.wrap q0 = q0 := by rw [IntKind.wrap_i64]; omega
    have z1 : IntKind.i64.wrap q1 = q1 := by rw [IntKind.wrap_i64]; omega
    have n0 : 0 < n := by omega
    have n1 : (1 : Int) < (n : Int) := by omega
    have n2 : 2 ≤ n := by omega
    go_enter Tryd.func25, Tryd.ntmps25
    go_wp2_with fail
    refine wp_region_held_drew (S := fun W => Below w.heap.size w W ∧ ∃ old, Blk W w.heap.size 34 old ∧ old.size = 3) (by kernel_rfl) (⟨HB.out.trans ((below_drew8 _).mono HB.out.size), _, HR0.out.below (below_drew8 _) HR0.out.lt, rfl⟩) (fun hS => ?_)
    refine wpAnyH_take (i := 0) (oi := ⟨some 8, _, _, _, _, _⟩) (v := ?_) rfl (by kernel_rfl) (by kernel_rfl) (by kernel_rfl) (fun _ _ _ h => h) (Or.inl ⟨by rfl, ?_⟩) hS ?_
    rotate_left
    · intro wq hq
      first | (go_simp; done) | (go_simp; rfl)
    try simp only [Act.put, List.setIfInBounds_toArray, List.set_cons_zero, List.set_cons_succ]
    refine wpAnyH_take (i := 1) (oi := ⟨some 9, _, _, _, _, _⟩) (v := ?_) rfl (by kernel_rfl) (by kernel_rfl) (by kernel_rfl) (fun _ _ _ h => h) (Or.inl ⟨by rfl, ?_⟩) hS ?_
    rotate_left
    · intro wq hq
      first | (go_simp; done) | (go_simp; rfl)
    try simp only [Act.put, List.setIfInBounds_toArray, List.set_cons_zero, List.set_cons_succ]
    refine wpAnyH_take (i := 2) (oi := ⟨some 10, _, _, _, _, _⟩) (v := ?_) rfl (by kernel_rfl) (by kernel_rfl) (by kernel_rfl) (fun _ _ _ h => h) (Or.inl ⟨by rfl, ?_⟩) hS ?_
    rotate_left
    · intro wq hq
      have c0 := (HC0.out wq hq.1).1
      first | (go_simp; done) | (go_simp; rfl)
    try simp only [Act.put, List.setIfInBounds_toArray, List.set_cons_zero, List.set_cons_succ]
    refine wpAnyH_take (i := 3) (oi := ⟨some 11, _, _, _, _, _⟩) (v := ?_) rfl (by kernel_rfl) (by kernel_rfl) (by kernel_rfl) (fun _ _ _ h => h) (Or.inl ⟨by rfl, ?_⟩) hS ?_
    rotate_left
    · intro wq hq
      first | (go_simp; done) | (go_simp; rfl)
    try simp only [Act.put, List.setIfInBounds_toArray, List.set_cons_zero, List.set_cons_succ]
    refine wpAnyH_take (i := 4) (oi := ⟨some 12, _, _, _, _, _⟩) (v := ?_) rfl (by kernel_rfl) (by kernel_rfl) (by kernel_rfl) (fun _ _ _ h => h) (Or.inl ⟨by rfl, ?_⟩) hS ?_
    rotate_left
    · intro wq hq
      first | (go_simp; done) | (go_simp; rfl)
    try simp only [Act.put, List.setIfInBounds_toArray, List.set_cons_zero, List.set_cons_succ]
    refine wpAnyH_take (i := 5) (oi := ⟨some 13, _, _, _, _, _⟩) (v := ?_) rfl (by kernel_rfl) (by kernel_rfl) (by kernel_rfl) (fun _ _ _ h => h) (Or.inl ⟨by rfl, ?_⟩) hS ?_
    rotate_left
    · intro wq hq
      first | (go_simp; done) | (go_simp; rfl)
    try simp only [Act.put, List.setIfInBounds_toArray, List.set_cons_zero, List.set_cons_succ]
    refine wpAnyH_take (i := 6) (oi := ⟨some 14, _, _, _, _, _⟩) (v := ?_) rfl (by kernel_rfl) (by kernel_rfl) (by kernel_rfl) (fun _ _ _ h => h) (Or.inl ⟨by rfl, ?_⟩) hS ?_
    rotate_left
    · intro wq hq
      have c0 := (HC0.out wq hq.1).2
      first | (go_simp; done) | (go_simp; rfl)
    try simp only [Act.put, List.setIfInBounds_toArray, List.set_cons_zero, List.set_cons_succ]
    refine wpAnyH_take (i := 7) (oi := ⟨some 15, _, _, _, _, _⟩) (v := ?_) rfl (by kernel_rfl) (by kernel_rfl) (by kernel_rfl) (fun _ _ _ h => h) (Or.inl ⟨by rfl, ?_⟩) hS ?_
    rotate_left
    · intro wq hq
      first | (go_simp; done) | (go_simp; rfl)
    try simp only [Act.put, List.setIfInBounds_toArray, List.set_cons_zero, List.set_cons_succ]
    refine wpAnyH_take (i := 8) (oi := ⟨some 16, _, _, _, _, _⟩) (v := ?_) rfl (by kernel_rfl) (by kernel_rfl) (by kernel_rfl) (fun _ _ _ h => h) (Or.inl ⟨by rfl, ?_⟩) hS ?_
    rotate_left
    · intro wq hq
      first | (go_simp; done) | (go_simp; rfl)
    try simp only [Act.put, List.setIfInBounds_toArray, List.set_cons_zero, List.set_cons_succ]
    refine wpAnyH_take (i := 9) (oi := ⟨some 17, _, _, _, _, _⟩) (v := ?_) rfl (by kernel_rfl) (by kernel_rfl) (by kernel_rfl) (fun _ _ _ h => h) (Or.inl ⟨by rfl, ?_⟩) hS ?_
    rotate_left
    · intro wq hq
      first | (go_simp; done) | (go_simp; rfl)
    try simp only [Act.put, List.setIfInBounds_toArray, List.set_cons_zero, List.set_cons_succ]
    generalize (if k = 2 then some (⟨b0, off, none⟩ : Addr) else some ⟨b0, off + 2, none⟩) = A2 at *
    have HLow := Lib.hid HB.out.size
    generalize (w.alloc (.cells #[.int .i64 0, .int .i64 0, .slice none 0 0] 34)).drew = W0 at *
    have hrd := (HCut.out.below hS.1).more hS.1.size
    refine wpAnyH_ready (rs := [10]) (by kernel_rfl) (by simp) ?_
    refine AllReadyH.cons (o := ⟨some 18, _, _, _, _, _⟩) rfl (fun K hK => ?_) AllReadyH.nil
    rw [if_pos (by rfl)]
    go_wp2
    have hL := rdl_one W0 A2 (n - 2) (k - 2) (l.drop 2) hrd
    have hal2 := below_one8 W0 (.cells #[.slice A2 (n - 2) (k - 2)] 25)
    have hSn := rdf_below hS hal2
    clear hrd hS hal2
    refine hK.out _ _ (hSn) (fun hS => ?_)
    clear hK K
    try simp only [Act.put, List.setIfInBounds_toArray, List.set_cons_zero, List.set_cons_succ]
    clear hSn
    generalize W0.heap.size = g0 at *
    generalize (W0.alloc (.cells #[.slice A2 (n - 2) (k - 2)] 25)) = W1 at *
    refine wpAnyH_ready (rs := [11]) (by kernel_rfl) (by simp) ?_
    refine AllReadyH.cons (o := ⟨some 19, _, _, _, _, _⟩) rfl (fun K hK => ?_) AllReadyH.nil
    rw [if_pos (by rfl)]
    go_wp2_with fail
    refine (concat_is W1 _ 1 1 _ hL (by omega) (by simpa using HDo.out)).mono ?_
    rintro e W2 ⟨v, rfl, hO, hB⟩
    rw [show ([l.drop 2] : List (List Int)).flatten = l.drop 2 by simp] at hO
    have hx := hO.bodyX (w := w) hS.1.size
    obtain ⟨Av, cv, rfl, hcv, _, _⟩ := hO.at_
    have hx2 := hx Av _ cv rfl
    have HX := Lib.hid hx2
    have hSn := rdf_below hS hB
    obtain ⟨m, hm⟩ : ∃ m, m = (l.drop 2).length := ⟨_, rfl⟩
    rw [← hm] at hcv ⊢
    have HM := Lib.hid hm
    clear hO hB hx hx2 hS hL hm
    refine hK.out _ _ (hSn) (fun hS => ?_)
    clear hK K
    try simp only [Act.put, List.setIfInBounds_toArray, List.set_cons_zero, List.set_cons_succ]
    clear hSn
    refine wpAnyH_take (i := 12) (oi := ⟨some 20, _, _, _, _, _⟩) (v := ?_) rfl (by kernel_rfl) (by kernel_rfl) (by kernel_rfl) (fun _ _ _ h => h) (Or.inl ⟨by rfl, ?_⟩) hS ?_
    rotate_left
    · intro wq hq
      first | (go_simp; done) | (go_simp; rfl)
    try simp only [Act.put, List.setIfInBounds_toArray, List.set_cons_zero, List.set_cons_succ]
    have hS0 := hS
    obtain ⟨hlow, o1, k1, z1⟩ := hS
    refine wpAnyH_ready (rs := [13]) (by kernel_rfl) (by simp) ?_
    refine AllReadyH.cons (o := ⟨none, _, _, _, _, _⟩) rfl (fun K hK => ?_) AllReadyH.nil
    rw [if_pos (by rfl)]
    refine wp_store_row 34 _ _ rfl w.heap.size #[.int .i64 q0, .int .i64 q1, .slice Av m cv] rfl rfl 34 _ k1 fsz (by rw [z1]; rfl) (by kernel_rfl) ?_
    have HEnd := Lib.hid (Blk.setRow k1 #[.int .i64 q0, .int .i64 q1, .slice Av m cv])
    have HBx := Lib.hid (HX.out.row k1 (by decide) #[.int .i64 q0, .int .i64 q1, .slice Av m cv])
    have HLw := Lib.hid (hlow.trans (below_setRow W2 w.heap.size #[.int .i64 q0, .int .i64 q1, .slice Av m cv] (Nat.le_refl _)))
    refine hK.out _ _ ⟨HLw.out, _, HEnd.out, rfl⟩ (fun hS => ?_)
    clear hK K k1 hlow hS0
    try simp only [Act.put, List.setIfInBounds_toArray, List.set_cons_zero, List.set_cons_succ]
    refine wpAnyH_take (i := 14) (oi := ⟨some 3, _, _, _, _, _⟩) (v := ?_) rfl (by kernel_rfl) (by kernel_rfl) (by kernel_rfl) (fun _ _ _ h => h) (Or.inl ⟨by rfl, ?_⟩) hS ?_
    rotate_left
    · intro wq hq
      first | (go_simp; done) | (go_simp; rfl)
    try simp only [Act.put, List.setIfInBounds_toArray, List.set_cons_zero, List.set_cons_succ]
    refine wpAnyH_done (by kernel_rfl) ?_ _
    clear hS
    go_wp2
    try simp only [Exit.inBlock, Exit.then]
    refine bodyPost_ret (results_cell_slot rfl _ _ w.heap.size 34 _ _ (.int .i64 0) rfl rfl HEnd.out Tryd.underlying34 rfl fsz) rfl ⟨HLw.out, Av, m, cv, ?_, HBx.out, HM.out, hcv⟩
    rw [if_neg HP.out, if_neg HP.out, if_neg HP.out, HQ.out.1, HQ.out.2]
end Go.Proofs.YtgfjjkckamppoaaDoor
