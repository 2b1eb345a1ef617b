/-
  Put together: ComH.
-/
import Derived.Test.YtkaimdcepnhkdaaDoorMG
namespace Go.Proofs.YtkaimdcepnhkdaaDoor
open Go.RowKit
set_option linter.unusedSimpArgs false
set_option linter.unusedVariables false

theorem rfdc_size (f : Fd) (h : f.mac.length = 6) : (Tryd.prog.info? 61).map (·.size) = some (fdc f).toArray.size := by
  have : (Tryd.prog.info? 61).map (·.size) = some 11 := by kernel_rfl
  rw [this]; simp [h]
theorem rfd_fetch {ops : Array Oper} {rest : List Oper} {op : Oper} {a : Act} {w : World} {Q : Exit → Act → World → Prop} (hw : Region.wanted op (yielded ops a.tmps) = true) (x : Operand) (ho : op.op = .load 61 x) (b : Nat) (f : Fd) (hf : f.mac.length = 6)
    (hx : a.eval x = .pointer (some ⟨b, 0, none⟩)) (hc : w.rangeAt b 0 (fdc f)) (h : wpList Tryd.prog ops Q rest (a.put op.dst (.agg (fdc f).toArray)) w) : wpList Tryd.prog ops Q (op :: rest) a w :=
  BigFrame.wpList_want hw fun _ hK => wp_load_mid 61 x ho b 0 hx (fdc f) _ hc Tryd.underlying61 rfl (by simpa using rfdc_size f hf) (hK _ _ h)
theorem rfd_store {ops : Array Oper} {rest : List Oper} {o : Oper} {a : Act} {w : World} {Q : Exit → Act → World → Prop} (hgd : o.guard = none) (x y : Operand) (ho : o.op = .store 61 x y) (g : Nat) (f : Fd) (hf : f.mac.length = 6)
    (hx : a.eval x = .pointer (some ⟨g, 0, none⟩)) (hy : a.eval y = .agg (fdc f).toArray) (t : TypeId) (old : Array Value) (hg : Blk w g t old) (hold : old.size = 11)
    (h : wpList Tryd.prog ops Q rest (a.put o.dst undef) (w.setRow g (fdc f).toArray)) : wpList Tryd.prog ops Q (o :: rest) a w :=
  wpList_store_row hgd 61 x y ho g _ hx hy t old hg (rfdc_size f hf) (by rw [hold]; simp [hf]) (all_oneCell_toArray (fdc_one f)) h
theorem rfd_wp {o : Oper} {a : Act} {w : World} {K : Act → World → Prop} {Q : Exit → Act → World → Prop} (x y : Operand) (ho : o.op = .store 61 x y) (g : Nat) (f : Fd) (hf : f.mac.length = 6)
    (hx : a.eval x = .pointer (some ⟨g, 0, none⟩)) (hy : a.eval y = .agg (fdc f).toArray) (t : TypeId) (old : Array Value) (hg : Blk w g t old) (hold : old.size = 11)
    (h : K (a.put o.dst undef) (w.setRow g (fdc f).toArray)) : o.wp Tryd.prog a w K Q :=
  wp_store_row 61 x y ho g _ hx hy t old hg (rfdc_size f hf) (by rw [hold]; simp [hf]) (all_oneCell_toArray (fdc_one f)) h
theorem rfd_res {fn : Func} {p : Tmp} (h : fn.results = #[.cell p 61]) (tmps : Array Value) (w : World) (g : Nat) (t : TypeId) (f : Fd) (hf : f.mac.length = 6)
    (hp : tmps.getD p undef = .pointer (some ⟨g, 0, none⟩)) (hg : Blk w g t (fdc f).toArray) : (results fn tmps).run Tryd.prog w = .ok (.agg (fdc f).toArray) w :=
  results_cell_row h tmps w g t _ (0, 0) _ hp hg Tryd.underlying61 rfl (rfdc_size f hf)
/-- Two blocks: the community, the answer. -/
structure R2 (w0 w : World) (l : List Int) : Prop where
  com : Blk w w0.heap.size 52 (u8s l).toArray
  res : Blk w (w0.heap.size + 1) 61 zfd
  low : Below w0.heap.size w0 w
theorem R2.below {w0 w w' : World} {l : List Int} (h : R2 w0 w l) (hB : Below w.heap.size w w') : R2 w0 w' l := by
  have h1 := h.res.lt
  exact ⟨h.com.below hB (by omega), h.res.below hB (by omega), h.low.trans (hB.mono (by omega))⟩
theorem r2_new (w : World) (l : List Int) : R2 w ((w.alloc (.cells (u8s l).toArray 52)).alloc (.cells zfd 61)) l := by
  have h1 := Blk.new (w.alloc (.cells (u8s l).toArray 52)) 61 zfd
  rw [size_a1] at h1
  exact ⟨(Blk.new w 52 _).alloc _, h1, ((Below.refl w.heap.size w).alloc (Nat.le_refl _) _).alloc (by simp) _⟩
theorem hd_eq (l : List Int) (hl : l.length = 8) : hd l = l.getD 0 0 * 256 + l.getD 1 0 := by
  match l, hl with
  | a :: b :: r, _ => simp [hd, seg, numOf]
theorem com_cell {w : World} {g : Nat} {l : List Int} (h : Blk w g 52 (u8s l).toArray) (hl : l.length = 8) (i : Nat) (hi : i < 8) : w.cell? ⟨g, i, none⟩ = some (.int .u8 (l.getD i 0)) := by
  rw [h.cell]
  simp [List.getD, show i < l.length by omega]
set_option maxHeartbeats 2000000 in
set_option maxRecDepth 100000 in
theorem rrd_2 (w : World) (l : List Int) (hl : l.length = 8) (ho : Oct l) (hh : hd l = 2) :
    Calls Tryd.prog 51 #[.agg (u8s l).toArray] w fun e w' => e = .returned (.agg (fdc (rdF l)).toArray) ∧ Below w.heap.size w w' := by
  rw [rdF_2 l hh]
  have HV := Lib.hid (r2_new w l)
  have c0 := com_cell HV.out.com hl 0 (by omega)
  have c1 := com_cell HV.out.com hl 1 (by omega)
  rw [hd_eq l hl] at hh
  have x0 := ho.getD 0
  have x1 := ho.getD 1
  rw [show l.getD 0 0 = 0 by omega] at c0
  rw [show l.getD 1 0 = 2 by omega] at c1
  clear hh x0 x1
  go_enter Tryd.func51, Tryd.ntmps51
  go_wp2
  have HVd : Hid (R2 w ((w.alloc (.cells (u8s l).toArray 52)).alloc (.cells zfd 61)).drew l) := Lib.hid ⟨HV.out.com, HV.out.res, below_drewN HV.out.low 1⟩
  clear HV c0 c1
  refine wp_region_held_drew (S := fun w' => Blk w' w.heap.size 52 (u8s l).toArray) (by kernel_rfl) (HVd.out.com) (fun hS => ?_)
  refine wpAnyH_take (i := 0) (oi := ⟨some 14, _, _, _, _, _⟩) rfl (by kernel_rfl) (by kernel_rfl) (by kernel_rfl) (fun _ _ _ h => h) (yieldsIf_load_mid (by rfl) 52 _ rfl _ _ rfl (u8s l) _ (fun wq hq => hq.range) Tryd.underlying52 rfl (by simpa using comm_size l hl)) hS ?_
  try simp only [Act.put, List.setIfInBounds_toArray, List.set_cons_zero, List.set_cons_succ]
  refine wpAnyH_take (i := 2) (oi := ⟨some 16, _, _, _, _, _⟩) rfl (by kernel_rfl) (by kernel_rfl) (by kernel_rfl) (fun _ _ _ h => h) (yieldsIf_load_mid (by rfl) 52 _ rfl _ _ rfl (u8s l) _ (fun wq hq => hq.range) Tryd.underlying52 rfl (by simpa using comm_size l hl)) hS ?_
  try simp only [Act.put, List.setIfInBounds_toArray, List.set_cons_zero, List.set_cons_succ]
  refine wpAnyH_ready (rs := [1]) (by kernel_rfl) (by simp) ?_
  refine AllReadyH.cons (o := ⟨some 15, _, _, _, _, _⟩) rfl (fun K hK => ?_) AllReadyH.nil
  rw [if_pos (by rfl)]
  go_wp2_with fail
  refine (rnum_is' _ l 2 2 hl ho (by omega) (by omega) (by omega) 3 rfl).mono ?_
  rintro e w3 ⟨rfl, hB⟩
  have HV3 := Lib.hid (HVd.out.below hB)
  clear hB HVd
  refine hK.out _ _ (HV3.out.com) (fun hS => ?_)
  clear hK K
  try simp only [Act.put, List.setIfInBounds_toArray, List.set_cons_zero, List.set_cons_succ]
  refine wpAnyH_ready (rs := [3]) (by kernel_rfl) (by simp) ?_
  refine AllReadyH.cons (o := ⟨some 17, _, _, _, _, _⟩) rfl (fun K hK => ?_) AllReadyH.nil
  rw [if_pos (by rfl)]
  go_wp2_with fail
  refine (rnum_is' _ l 4 4 hl ho (by omega) (by omega) (by omega) 7 rfl).mono ?_
  rintro e w4 ⟨rfl, hB⟩
  have HV4 := Lib.hid (HV3.out.below hB)
  clear hB HV3
  refine hK.out _ _ (HV4.out.com) (fun hS => ?_)
  clear hK K
  try simp only [Act.put, List.setIfInBounds_toArray, List.set_cons_zero, List.set_cons_succ]
  refine wpAnyH_take (i := 4) (oi := ⟨some 18, _, _, _, _, _⟩) (v := ?_) rfl (by kernel_rfl) (by kernel_rfl) (by kernel_rfl) (fun _ _ _ h => h) (Or.inl ⟨by rfl, ?_⟩) hS ?_
  rotate_left
  · intro wq hq
    first | (go_simp; done) | (go_simp; rfl)
  try simp only [Act.put, List.setIfInBounds_toArray, List.set_cons_zero, List.set_cons_succ]
  refine wpAnyH_ready (rs := [5]) (by kernel_rfl) (by simp) ?_
  refine AllReadyH.cons (o := ⟨none, _, _, _, _, _⟩) rfl (fun K hK => ?_) AllReadyH.nil
  rw [if_pos (by rfl)]
  refine rfd_wp _ _ rfl (w.heap.size + 1) ⟨1, 0, numOf (seg l 2 2), numOf (seg l 4 4), false, z6⟩ rfl rfl rfl 61 zfd HV4.out.res rfl ?_
  refine hK.out _ _ (HV4.out.com.below (below_setRow _ (w.heap.size + 1) _ (Nat.le_refl _)) (by omega)) (fun hS => ?_)
  clear hK K
  try simp only [Act.put, List.setIfInBounds_toArray, List.set_cons_zero, List.set_cons_succ]
  refine wpAnyH_done (by kernel_rfl) ?_ _
  clear hS
  go_wp2
  exact bodyPost_ret (rfd_res rfl _ _ (w.heap.size + 1) 61 ⟨1, 0, numOf (seg l 2 2), numOf (seg l 4 4), false, z6⟩ rfl rfl (Blk.setRow HV4.out.res _)) rfl ⟨rfl, HV4.out.low.trans (below_setRow _ _ _ (by omega))⟩
set_option maxHeartbeats 2000000 in
set_option maxRecDepth 100000 in
theorem rrd_258 (w : World) (l : List Int) (hl : l.length = 8) (ho : Oct l) (hh : hd l = 258) :
    Calls Tryd.prog 51 #[.agg (u8s l).toArray] w fun e w' => e = .returned (.agg (fdc (rdF l)).toArray) ∧ Below w.heap.size w w' := by
  rw [rdF_258 l hh]
  have HV := Lib.hid (r2_new w l)
  have c0 := com_cell HV.out.com hl 0 (by omega)
  have c1 := com_cell HV.out.com hl 1 (by omega)
  rw [hd_eq l hl] at hh
  have x0 := ho.getD 0
  have x1 := ho.getD 1
  rw [show l.getD 0 0 = 1 by omega] at c0
  rw [show l.getD 1 0 = 2 by omega] at c1
  clear hh x0 x1
  go_enter Tryd.func51, Tryd.ntmps51
  go_wp2
  have HVd : Hid (R2 w ((w.alloc (.cells (u8s l).toArray 52)).alloc (.cells zfd 61)).drew l) := Lib.hid ⟨HV.out.com, HV.out.res, below_drewN HV.out.low 1⟩
  clear HV c0 c1
  refine wp_region_held_drew (S := fun w' => Blk w' w.heap.size 52 (u8s l).toArray) (by kernel_rfl) (HVd.out.com) (fun hS => ?_)
  refine wpAnyH_take (i := 0) (oi := ⟨some 21, _, _, _, _, _⟩) rfl (by kernel_rfl) (by kernel_rfl) (by kernel_rfl) (fun _ _ _ h => h) (yieldsIf_load_mid (by rfl) 52 _ rfl _ _ rfl (u8s l) _ (fun wq hq => hq.range) Tryd.underlying52 rfl (by simpa using comm_size l hl)) hS ?_
  try simp only [Act.put, List.setIfInBounds_toArray, List.set_cons_zero, List.set_cons_succ]
  refine wpAnyH_take (i := 2) (oi := ⟨some 23, _, _, _, _, _⟩) rfl (by kernel_rfl) (by kernel_rfl) (by kernel_rfl) (fun _ _ _ h => h) (yieldsIf_load_mid (by rfl) 52 _ rfl _ _ rfl (u8s l) _ (fun wq hq => hq.range) Tryd.underlying52 rfl (by simpa using comm_size l hl)) hS ?_
  try simp only [Act.put, List.setIfInBounds_toArray, List.set_cons_zero, List.set_cons_succ]
  refine wpAnyH_ready (rs := [1]) (by kernel_rfl) (by simp) ?_
  refine AllReadyH.cons (o := ⟨some 22, _, _, _, _, _⟩) rfl (fun K hK => ?_) AllReadyH.nil
  rw [if_pos (by rfl)]
  go_wp2_with fail
  refine (rnum_is' _ l 2 4 hl ho (by omega) (by omega) (by omega) 5 rfl).mono ?_
  rintro e w3 ⟨rfl, hB⟩
  have HV3 := Lib.hid (HVd.out.below hB)
  clear hB HVd
  refine hK.out _ _ (HV3.out.com) (fun hS => ?_)
  clear hK K
  try simp only [Act.put, List.setIfInBounds_toArray, List.set_cons_zero, List.set_cons_succ]
  refine wpAnyH_ready (rs := [3]) (by kernel_rfl) (by simp) ?_
  refine AllReadyH.cons (o := ⟨some 24, _, _, _, _, _⟩) rfl (fun K hK => ?_) AllReadyH.nil
  rw [if_pos (by rfl)]
  go_wp2_with fail
  refine (rnum_is' _ l 6 2 hl ho (by omega) (by omega) (by omega) 7 rfl).mono ?_
  rintro e w4 ⟨rfl, hB⟩
  have HV4 := Lib.hid (HV3.out.below hB)
  clear hB HV3
  refine hK.out _ _ (HV4.out.com) (fun hS => ?_)
  clear hK K
  try simp only [Act.put, List.setIfInBounds_toArray, List.set_cons_zero, List.set_cons_succ]
  refine wpAnyH_take (i := 4) (oi := ⟨some 25, _, _, _, _, _⟩) (v := ?_) rfl (by kernel_rfl) (by kernel_rfl) (by kernel_rfl) (fun _ _ _ h => h) (Or.inl ⟨by rfl, ?_⟩) hS ?_
  rotate_left
  · intro wq hq
    first | (go_simp; done) | (go_simp; rfl)
  try simp only [Act.put, List.setIfInBounds_toArray, List.set_cons_zero, List.set_cons_succ]
  refine wpAnyH_ready (rs := [5]) (by kernel_rfl) (by simp) ?_
  refine AllReadyH.cons (o := ⟨none, _, _, _, _, _⟩) rfl (fun K hK => ?_) AllReadyH.nil
  rw [if_pos (by rfl)]
  refine rfd_wp _ _ rfl (w.heap.size + 1) ⟨1, 1, numOf (seg l 2 4), numOf (seg l 6 2), false, z6⟩ rfl rfl rfl 61 zfd HV4.out.res rfl ?_
  refine hK.out _ _ (HV4.out.com.below (below_setRow _ (w.heap.size + 1) _ (Nat.le_refl _)) (by omega)) (fun hS => ?_)
  clear hK K
  try simp only [Act.put, List.setIfInBounds_toArray, List.set_cons_zero, List.set_cons_succ]
  refine wpAnyH_done (by kernel_rfl) ?_ _
  clear hS
  go_wp2
  exact bodyPost_ret (rfd_res rfl _ _ (w.heap.size + 1) 61 ⟨1, 1, numOf (seg l 2 4), numOf (seg l 6 2), false, z6⟩ rfl rfl (Blk.setRow HV4.out.res _)) rfl ⟨rfl, HV4.out.low.trans (below_setRow _ _ _ (by omega))⟩
set_option maxHeartbeats 2000000 in
set_option maxRecDepth 100000 in
theorem rrd_514 (w : World) (l : List Int) (hl : l.length = 8) (ho : Oct l) (hh : hd l = 514) :
    Calls Tryd.prog 51 #[.agg (u8s l).toArray] w fun e w' => e = .returned (.agg (fdc (rdF l)).toArray) ∧ Below w.heap.size w w' := by
  rw [rdF_514 l hh]
  have HV := Lib.hid (r2_new w l)
  have c0 := com_cell HV.out.com hl 0 (by omega)
  have c1 := com_cell HV.out.com hl 1 (by omega)
  rw [hd_eq l hl] at hh
  have x0 := ho.getD 0
  have x1 := ho.getD 1
  rw [show l.getD 0 0 = 2 by omega] at c0
  rw [show l.getD 1 0 = 2 by omega] at c1
  clear hh x0 x1
  go_enter Tryd.func51, Tryd.ntmps51
  go_wp2
  have HVd : Hid (R2 w ((w.alloc (.cells (u8s l).toArray 52)).alloc (.cells zfd 61)).drew l) := Lib.hid ⟨HV.out.com, HV.out.res, below_drewN HV.out.low 1⟩
  clear HV c0 c1
  refine wp_region_held_drew (S := fun w' => Blk w' w.heap.size 52 (u8s l).toArray) (by kernel_rfl) (HVd.out.com) (fun hS => ?_)
  refine wpAnyH_take (i := 0) (oi := ⟨some 28, _, _, _, _, _⟩) rfl (by kernel_rfl) (by kernel_rfl) (by kernel_rfl) (fun _ _ _ h => h) (yieldsIf_load_mid (by rfl) 52 _ rfl _ _ rfl (u8s l) _ (fun wq hq => hq.range) Tryd.underlying52 rfl (by simpa using comm_size l hl)) hS ?_
  try simp only [Act.put, List.setIfInBounds_toArray, List.set_cons_zero, List.set_cons_succ]
  refine wpAnyH_take (i := 2) (oi := ⟨some 30, _, _, _, _, _⟩) rfl (by kernel_rfl) (by kernel_rfl) (by kernel_rfl) (fun _ _ _ h => h) (yieldsIf_load_mid (by rfl) 52 _ rfl _ _ rfl (u8s l) _ (fun wq hq => hq.range) Tryd.underlying52 rfl (by simpa using comm_size l hl)) hS ?_
  try simp only [Act.put, List.setIfInBounds_toArray, List.set_cons_zero, List.set_cons_succ]
  refine wpAnyH_ready (rs := [1]) (by kernel_rfl) (by simp) ?_
  refine AllReadyH.cons (o := ⟨some 29, _, _, _, _, _⟩) rfl (fun K hK => ?_) AllReadyH.nil
  rw [if_pos (by rfl)]
  go_wp2_with fail
  refine (rnum_is' _ l 2 4 hl ho (by omega) (by omega) (by omega) 5 rfl).mono ?_
  rintro e w3 ⟨rfl, hB⟩
  have HV3 := Lib.hid (HVd.out.below hB)
  clear hB HVd
  refine hK.out _ _ (HV3.out.com) (fun hS => ?_)
  clear hK K
  try simp only [Act.put, List.setIfInBounds_toArray, List.set_cons_zero, List.set_cons_succ]
  refine wpAnyH_ready (rs := [3]) (by kernel_rfl) (by simp) ?_
  refine AllReadyH.cons (o := ⟨some 31, _, _, _, _, _⟩) rfl (fun K hK => ?_) AllReadyH.nil
  rw [if_pos (by rfl)]
  go_wp2_with fail
  refine (rnum_is' _ l 6 2 hl ho (by omega) (by omega) (by omega) 7 rfl).mono ?_
  rintro e w4 ⟨rfl, hB⟩
  have HV4 := Lib.hid (HV3.out.below hB)
  clear hB HV3
  refine hK.out _ _ (HV4.out.com) (fun hS => ?_)
  clear hK K
  try simp only [Act.put, List.setIfInBounds_toArray, List.set_cons_zero, List.set_cons_succ]
  refine wpAnyH_take (i := 4) (oi := ⟨some 32, _, _, _, _, _⟩) (v := ?_) rfl (by kernel_rfl) (by kernel_rfl) (by kernel_rfl) (fun _ _ _ h => h) (Or.inl ⟨by rfl, ?_⟩) hS ?_
  rotate_left
  · intro wq hq
    first | (go_simp; done) | (go_simp; rfl)
  try simp only [Act.put, List.setIfInBounds_toArray, List.set_cons_zero, List.set_cons_succ]
  refine wpAnyH_ready (rs := [5]) (by kernel_rfl) (by simp) ?_
  refine AllReadyH.cons (o := ⟨none, _, _, _, _, _⟩) rfl (fun K hK => ?_) AllReadyH.nil
  rw [if_pos (by rfl)]
  refine rfd_wp _ _ rfl (w.heap.size + 1) ⟨1, 2, numOf (seg l 2 4), numOf (seg l 6 2), false, z6⟩ rfl rfl rfl 61 zfd HV4.out.res rfl ?_
  refine hK.out _ _ (HV4.out.com.below (below_setRow _ (w.heap.size + 1) _ (Nat.le_refl _)) (by omega)) (fun hS => ?_)
  clear hK K
  try simp only [Act.put, List.setIfInBounds_toArray, List.set_cons_zero, List.set_cons_succ]
  refine wpAnyH_done (by kernel_rfl) ?_ _
  clear hS
  go_wp2
  exact bodyPost_ret (rfd_res rfl _ _ (w.heap.size + 1) 61 ⟨1, 2, numOf (seg l 2 4), numOf (seg l 6 2), false, z6⟩ rfl rfl (Blk.setRow HV4.out.res _)) rfl ⟨rfl, HV4.out.low.trans (below_setRow _ _ _ (by omega))⟩
set_option maxHeartbeats 2000000 in
set_option maxRecDepth 100000 in
theorem rrd_1536 (w : World) (l : List Int) (hl : l.length = 8) (ho : Oct l) (hh : hd l = 1536) :
    Calls Tryd.prog 51 #[.agg (u8s l).toArray] w fun e w' => e = .returned (.agg (fdc (rdF l)).toArray) ∧ Below w.heap.size w w' := by
  rw [rdF_1536 l hh]
  have HV := Lib.hid (r2_new w l)
  have c0 := com_cell HV.out.com hl 0 (by omega)
  have c1 := com_cell HV.out.com hl 1 (by omega)
  rw [hd_eq l hl] at hh
  have x0 := ho.getD 0
  have x1 := ho.getD 1
  rw [show l.getD 0 0 = 6 by omega] at c0
  rw [show l.getD 1 0 = 0 by omega] at c1
  clear hh x0 x1
  go_enter Tryd.func51, Tryd.ntmps51
  go_wp2
  have HVd : Hid (R2 w ((w.alloc (.cells (u8s l).toArray 52)).alloc (.cells zfd 61)).drew l) := Lib.hid ⟨HV.out.com, HV.out.res, below_drewN HV.out.low 1⟩
  clear HV c0 c1
  have hx := ho.getD 2
  have HF : Hid (flagOf l = decide (l.getD 2 0 % 2 = 1)) := Lib.hid rfl
  have HC2 : Hid (∀ w' : World, Blk w' w.heap.size 52 (u8s l).toArray → w'.cell? ⟨w.heap.size, 2, none⟩ = some (.int .u8 (l.getD 2 0))) := Lib.hid (fun w' h => com_cell h hl 2 (by omega))
  generalize hFF : flagOf l = F at *
  have HFF := Lib.hid hFF
  clear hFF
  generalize l.getD 2 0 = x at *
  have hF : (x % 2 == 1) = F := by rw [HF.out]; rfl
  have hF2 : decide (x % 2 = 1) = F := by rw [HF.out]
  have hF3 : (x.tmod 2 == 1) = F := by rw [HF.out, Int.tmod_eq_emod_of_nonneg hx.1]; rfl
  refine wp_region_held_drew (S := fun w' => Blk w' w.heap.size 52 (u8s l).toArray) (by kernel_rfl) (HVd.out.com) (fun hS => ?_)
  refine wpAnyH_take (i := 0) (oi := ⟨some 35, _, _, _, _, _⟩) (v := ?_) rfl (by kernel_rfl) (by kernel_rfl) (by kernel_rfl) (fun _ _ _ h => h) (Or.inl ⟨by rfl, ?_⟩) hS ?_
  rotate_left
  · intro wq hq
    first | (go_simp; done) | (go_simp; rfl)
  try simp only [Act.put, List.setIfInBounds_toArray, List.set_cons_zero, List.set_cons_succ]
  refine wpAnyH_take (i := 1) (oi := ⟨some 36, _, _, _, _, _⟩) (v := ?_) rfl (by kernel_rfl) (by kernel_rfl) (by kernel_rfl) (fun _ _ _ h => h) (Or.inl ⟨by rfl, ?_⟩) hS ?_
  rotate_left
  · intro wq hq
    have hc2 := HC2.out wq hq
    first | (go_simp; done) | (go_simp; rfl)
  try simp only [Act.put, List.setIfInBounds_toArray, List.set_cons_zero, List.set_cons_succ]
  refine wpAnyH_take (i := 2) (oi := ⟨some 37, _, _, _, _, _⟩) (v := ?_) rfl (by kernel_rfl) (by kernel_rfl) (by kernel_rfl) (fun _ _ _ h => h) (Or.inl ⟨by rfl, ?_⟩) hS ?_
  rotate_left
  · intro wq hq
    first | (go_simp; done) | (go_simp; rfl)
  try simp only [Act.put, List.setIfInBounds_toArray, List.set_cons_zero, List.set_cons_succ]
  refine wpAnyH_take (i := 3) (oi := ⟨some 38, _, _, _, _, _⟩) (v := ?_) rfl (by kernel_rfl) (by kernel_rfl) (by kernel_rfl) (fun _ _ _ h => h) (Or.inl ⟨by rfl, ?_⟩) hS ?_
  rotate_left
  · intro wq hq
    first | (go_simp; done) | (go_simp; rfl)
  try simp only [Act.put, List.setIfInBounds_toArray, List.set_cons_zero, List.set_cons_succ]
  refine wpAnyH_take (i := 4) (oi := ⟨some 39, _, _, _, _, _⟩) rfl (by kernel_rfl) (by kernel_rfl) (by kernel_rfl) (fun _ _ _ h => h) (yieldsIf_load_mid (by rfl) 52 _ rfl _ _ rfl (u8s l) _ (fun wq hq => hq.range) Tryd.underlying52 rfl (by simpa using comm_size l hl)) hS ?_
  try simp only [Act.put, List.setIfInBounds_toArray, List.set_cons_zero, List.set_cons_succ]
  refine wpAnyH_ready (rs := [5]) (by kernel_rfl) (by simp) ?_
  refine AllReadyH.cons (o := ⟨some 40, _, _, _, _, _⟩) rfl (fun K hK => ?_) AllReadyH.nil
  rw [if_pos (by rfl)]
  go_wp2_with fail
  refine (rnum_is' _ l 4 4 hl ho (by omega) (by omega) (by omega) 7 rfl).mono ?_
  rintro e w4 ⟨rfl, hB⟩
  have HV4 := Lib.hid (HVd.out.below hB)
  clear hB HVd
  refine hK.out _ _ (HV4.out.com) (fun hS => ?_)
  clear hK K
  try simp only [Act.put, List.setIfInBounds_toArray, List.set_cons_zero, List.set_cons_succ]
  refine wpAnyH_take (i := 6) (oi := ⟨some 41, _, _, _, _, _⟩) (v := ?_) rfl (by kernel_rfl) (by kernel_rfl) (by kernel_rfl) (fun _ _ _ h => h) (Or.inl ⟨by rfl, ?_⟩) hS ?_
  rotate_left
  · intro wq hq
    first | (go_simp; done) | (go_simp; rfl)
  try simp only [Act.put, List.setIfInBounds_toArray, List.set_cons_zero, List.set_cons_succ]
  refine wpAnyH_ready (rs := [7]) (by kernel_rfl) (by simp) ?_
  refine AllReadyH.cons (o := ⟨none, _, _, _, _, _⟩) rfl (fun K hK => ?_) AllReadyH.nil
  rw [if_pos (by rfl)]
  refine rfd_wp _ _ rfl (w.heap.size + 1) ⟨2, 0, 0, numOf (seg l 4 4), F, z6⟩ rfl rfl rfl 61 zfd HV4.out.res rfl ?_
  refine hK.out _ _ (HV4.out.com.below (below_setRow _ (w.heap.size + 1) _ (Nat.le_refl _)) (by omega)) (fun hS => ?_)
  clear hK K
  try simp only [Act.put, List.setIfInBounds_toArray, List.set_cons_zero, List.set_cons_succ]
  refine wpAnyH_done (by kernel_rfl) ?_ _
  clear hS
  go_wp2
  exact bodyPost_ret (rfd_res rfl _ _ (w.heap.size + 1) 61 ⟨2, 0, 0, numOf (seg l 4 4), F, z6⟩ rfl rfl (Blk.setRow HV4.out.res _)) rfl ⟨by rw [HFF.out]; rfl, HV4.out.low.trans (below_setRow _ _ _ (by omega))⟩
set_option maxHeartbeats 2000000 in
set_option maxRecDepth 100000 in
theorem rrd_1537 (w : World) (l : List Int) (hl : l.length = 8) (ho : Oct l) (hh : hd l = 1537) :
    Calls Tryd.prog 51 #[.agg (u8s l).toArray] w fun e w' => e = .returned (.agg (fdc (rdF l)).toArray) ∧ Below w.heap.size w w' := by
  rw [rdF_1537 l hh]
  have HV := Lib.hid (r2_new w l)
  have c0 := com_cell HV.out.com hl 0 (by omega)
  have c1 := com_cell HV.out.com hl 1 (by omega)
  rw [hd_eq l hl] at hh
  have x0 := ho.getD 0
  have x1 := ho.getD 1
  rw [show l.getD 0 0 = 6 by omega] at c0
  rw [show l.getD 1 0 = 1 by omega] at c1
  clear hh x0 x1
  go_enter Tryd.func51, Tryd.ntmps51
  go_wp2
  have HVd : Hid (R2 w ((w.alloc (.cells (u8s l).toArray 52)).alloc (.cells zfd 61)).drew l) := Lib.hid ⟨HV.out.com, HV.out.res, below_drewN HV.out.low 1⟩
  clear HV c0 c1
  have hx := ho.getD 2
  have HF : Hid (flagOf l = decide (l.getD 2 0 % 2 = 1)) := Lib.hid rfl
  have HC2 : Hid (∀ w' : World, Blk w' w.heap.size 52 (u8s l).toArray → w'.cell? ⟨w.heap.size, 2, none⟩ = some (.int .u8 (l.getD 2 0))) := Lib.hid (fun w' h => com_cell h hl 2 (by omega))
  generalize hFF : flagOf l = F at *
  have HFF := Lib.hid hFF
  clear hFF
  generalize l.getD 2 0 = x at *
  have hF : (x % 2 == 1) = F := by rw [HF.out]; rfl
  have hF2 : decide (x % 2 = 1) = F := by rw [HF.out]
  have hF3 : (x.tmod 2 == 1) = F := by rw [HF.out, Int.tmod_eq_emod_of_nonneg hx.1]; rfl
  refine wp_region_held_drew (S := fun w' => Blk w' w.heap.size 52 (u8s l).toArray) (by kernel_rfl) (HVd.out.com) (fun hS => ?_)
  refine wpAnyH_take (i := 0) (oi := ⟨some 44, _, _, _, _, _⟩) (v := ?_) rfl (by kernel_rfl) (by kernel_rfl) (by kernel_rfl) (fun _ _ _ h => h) (Or.inl ⟨by rfl, ?_⟩) hS ?_
  rotate_left
  · intro wq hq
    first | (go_simp; done) | (go_simp; rfl)
  try simp only [Act.put, List.setIfInBounds_toArray, List.set_cons_zero, List.set_cons_succ]
  refine wpAnyH_take (i := 1) (oi := ⟨some 45, _, _, _, _, _⟩) (v := ?_) rfl (by kernel_rfl) (by kernel_rfl) (by kernel_rfl) (fun _ _ _ h => h) (Or.inl ⟨by rfl, ?_⟩) hS ?_
  rotate_left
  · intro wq hq
    have hc2 := HC2.out wq hq
    first | (go_simp; done) | (go_simp; rfl)
  try simp only [Act.put, List.setIfInBounds_toArray, List.set_cons_zero, List.set_cons_succ]
  refine wpAnyH_take (i := 2) (oi := ⟨some 46, _, _, _, _, _⟩) (v := ?_) rfl (by kernel_rfl) (by kernel_rfl) (by kernel_rfl) (fun _ _ _ h => h) (Or.inl ⟨by rfl, ?_⟩) hS ?_
  rotate_left
  · intro wq hq
    first | (go_simp; done) | (go_simp; rfl)
  try simp only [Act.put, List.setIfInBounds_toArray, List.set_cons_zero, List.set_cons_succ]
  refine wpAnyH_take (i := 3) (oi := ⟨some 47, _, _, _, _, _⟩) (v := ?_) rfl (by kernel_rfl) (by kernel_rfl) (by kernel_rfl) (fun _ _ _ h => h) (Or.inl ⟨by rfl, ?_⟩) hS ?_
  rotate_left
  · intro wq hq
    first | (go_simp; done) | (go_simp; rfl)
  try simp only [Act.put, List.setIfInBounds_toArray, List.set_cons_zero, List.set_cons_succ]
  refine wpAnyH_take (i := 4) (oi := ⟨some 48, _, _, _, _, _⟩) rfl (by kernel_rfl) (by kernel_rfl) (by kernel_rfl) (fun _ _ _ h => h) (yieldsIf_load_mid (by rfl) 52 _ rfl _ _ rfl (u8s l) _ (fun wq hq => hq.range) Tryd.underlying52 rfl (by simpa using comm_size l hl)) hS ?_
  try simp only [Act.put, List.setIfInBounds_toArray, List.set_cons_zero, List.set_cons_succ]
  refine wpAnyH_ready (rs := [5]) (by kernel_rfl) (by simp) ?_
  refine AllReadyH.cons (o := ⟨some 49, _, _, _, _, _⟩) rfl (fun K hK => ?_) AllReadyH.nil
  rw [if_pos (by rfl)]
  go_wp2_with fail
  refine (rnum_is' _ l 5 3 hl ho (by omega) (by omega) (by omega) 7 rfl).mono ?_
  rintro e w4 ⟨rfl, hB⟩
  have HV4 := Lib.hid (HVd.out.below hB)
  clear hB HVd
  refine hK.out _ _ (HV4.out.com) (fun hS => ?_)
  clear hK K
  try simp only [Act.put, List.setIfInBounds_toArray, List.set_cons_zero, List.set_cons_succ]
  refine wpAnyH_take (i := 6) (oi := ⟨some 50, _, _, _, _, _⟩) (v := ?_) rfl (by kernel_rfl) (by kernel_rfl) (by kernel_rfl) (fun _ _ _ h => h) (Or.inl ⟨by rfl, ?_⟩) hS ?_
  rotate_left
  · intro wq hq
    first | (go_simp; done) | (go_simp; rfl)
  try simp only [Act.put, List.setIfInBounds_toArray, List.set_cons_zero, List.set_cons_succ]
  refine wpAnyH_ready (rs := [7]) (by kernel_rfl) (by simp) ?_
  refine AllReadyH.cons (o := ⟨none, _, _, _, _, _⟩) rfl (fun K hK => ?_) AllReadyH.nil
  rw [if_pos (by rfl)]
  refine rfd_wp _ _ rfl (w.heap.size + 1) ⟨3, 0, 0, numOf (seg l 5 3), F, z6⟩ rfl rfl rfl 61 zfd HV4.out.res rfl ?_
  refine hK.out _ _ (HV4.out.com.below (below_setRow _ (w.heap.size + 1) _ (Nat.le_refl _)) (by omega)) (fun hS => ?_)
  clear hK K
  try simp only [Act.put, List.setIfInBounds_toArray, List.set_cons_zero, List.set_cons_succ]
  refine wpAnyH_done (by kernel_rfl) ?_ _
  clear hS
  go_wp2
  exact bodyPost_ret (rfd_res rfl _ _ (w.heap.size + 1) 61 ⟨3, 0, 0, numOf (seg l 5 3), F, z6⟩ rfl rfl (Blk.setRow HV4.out.res _)) rfl ⟨by rw [HFF.out]; rfl, HV4.out.low.trans (below_setRow _ _ _ (by omega))⟩
set_option maxHeartbeats 2000000 in
set_option maxRecDepth 100000 in
theorem rrd_1538 (w : World) (l : List Int) (hl : l.length = 8) (ho : Oct l) (hh : hd l = 1538) :
    Calls Tryd.prog 51 #[.agg (u8s l).toArray] w fun e w' => e = .returned (.agg (fdc (rdF l)).toArray) ∧ Below w.heap.size w w' := by
  rw [rdF_1538 l hh]
  have HV := Lib.hid (r2_new w l)
  have c0 := com_cell HV.out.com hl 0 (by omega)
  have c1 := com_cell HV.out.com hl 1 (by omega)
  rw [hd_eq l hl] at hh
  have x0 := ho.getD 0
  have x1 := ho.getD 1
  rw [show l.getD 0 0 = 6 by omega] at c0
  rw [show l.getD 1 0 = 2 by omega] at c1
  clear hh x0 x1
  go_enter Tryd.func51, Tryd.ntmps51
  have hN := Blk.new ((w.alloc (.cells (u8s l).toArray 52)).alloc (.cells zfd 61)) 61 zfd
  rw [size_a2] at hN
  have HN := Lib.hid hN
  have HX : Hid (R2 w ((((w.alloc (.cells (u8s l).toArray 52)).alloc (.cells zfd 61)).alloc (.cells zfd 61)).setRow (w.heap.size + 2) (Value.int .i64 4 :: Value.int .i64 0 :: Value.int .u32 0 :: Value.int .u32 0 :: Value.bool false :: u8s z6).toArray) l) := Lib.hid ⟨(HV.out.com.alloc _).below (below_setRow _ (w.heap.size + 2) _ (Nat.le_refl _)) (by omega), (HV.out.res.alloc _).below (below_setRow _ (w.heap.size + 2) _ (Nat.le_refl _)) (by omega), (HV.out.low.alloc (by rw [size_a2]; omega) _).trans (below_setRow _ (w.heap.size + 2) _ (by omega))⟩
  have HXV : Hid (Blk ((((w.alloc (.cells (u8s l).toArray 52)).alloc (.cells zfd 61)).alloc (.cells zfd 61)).setRow (w.heap.size + 2) (Value.int .i64 4 :: Value.int .i64 0 :: Value.int .u32 0 :: Value.int .u32 0 :: Value.bool false :: u8s z6).toArray) (w.heap.size + 2) 61 (fdk 4 0)) := Lib.hid (Blk.setRow hN _)
  have d1 : ((((w.alloc (.cells (u8s l).toArray 52)).alloc (.cells zfd 61)).alloc (.cells zfd 61)).setRow (w.heap.size + 2) (Value.int .i64 4 :: Value.int .i64 0 :: Value.int .u32 0 :: Value.int .u32 0 :: Value.bool false :: u8s z6).toArray).cell? ⟨w.heap.size, 1, none⟩ = some (.int .u8 2) := by
    have h2 := com_cell HX.out.com hl 1 (by omega)
    have h3 := com_cell HV.out.com hl 1 (by omega)
    rw [c1] at h3
    rw [h2, ← h3]
  have HXX := Lib.hid HX.out
  have HXW := Lib.hid HXV.out
  clear hN HX HXV
  go_wp2_with (refine rfd_store rfl _ _ rfl (w.heap.size + 2) ⟨4, 0, 0, 0, false, z6⟩ rfl rfl rfl 61 zfd HN.out rfl ?_)
  clear d1 c0 c1 HV HN
  generalize (((w.alloc (.cells (u8s l).toArray 52)).alloc (.cells zfd 61)).alloc (.cells zfd 61)).setRow (w.heap.size + 2) (Value.int .i64 4 :: Value.int .i64 0 :: Value.int .u32 0 :: Value.int .u32 0 :: Value.bool false :: u8s z6).toArray = w2 at *
  have hcp := copy_from w2.drew (w.heap.size + 2) w.heap.size 4 0 l hl 61 HXW.out HXX.out.com 3
  have HE : Hid (R2 w (w2.drew.setRow (w.heap.size + 2) (fdc ⟨4, 0, 0, 0, false, seg l 2 6⟩).toArray) l) := Lib.hid ⟨(show Blk w2.drew _ _ _ from HXX.out.com).below (below_setRow _ (w.heap.size + 2) _ (Nat.le_refl _)) (by omega), (show Blk w2.drew _ _ _ from HXX.out.res).below (below_setRow _ (w.heap.size + 2) _ (Nat.le_refl _)) (by omega), (below_drewN HXX.out.low 1).trans (below_setRow _ _ _ (by omega))⟩
  have HEV : Hid (Blk (w2.drew.setRow (w.heap.size + 2) (fdc ⟨4, 0, 0, 0, false, seg l 2 6⟩).toArray) (w.heap.size + 2) 61 (fdc ⟨4, 0, 0, 0, false, seg l 2 6⟩).toArray) := Lib.hid (Blk.setRow (show Blk w2.drew (w.heap.size + 2) 61 (fdk 4 0) from HXW.out) _)
  clear HXX HXW
  refine wp_region_held_drew (S := fun w' => True) (by kernel_rfl) (trivial) (fun hS => ?_)
  refine wpAnyH_take (i := 0) (oi := ⟨some 59, _, _, _, _, _⟩) (v := ?_) rfl (by kernel_rfl) (by kernel_rfl) (by kernel_rfl) (fun _ _ _ h => h) (Or.inl ⟨by rfl, ?_⟩) hS ?_
  rotate_left
  · intro wq hq
    first | (go_simp; done) | (go_simp; rfl)
  try simp only [Act.put, List.setIfInBounds_toArray, List.set_cons_zero, List.set_cons_succ]
  refine wpAnyH_take (i := 1) (oi := ⟨some 60, _, _, _, _, _⟩) (v := ?_) rfl (by kernel_rfl) (by kernel_rfl) (by kernel_rfl) (fun _ _ _ h => h) (Or.inl ⟨by rfl, ?_⟩) hS ?_
  rotate_left
  · intro wq hq
    first | (go_simp; done) | (go_simp; rfl)
  try simp only [Act.put, List.setIfInBounds_toArray, List.set_cons_zero, List.set_cons_succ]
  refine wpAnyH_take (i := 2) (oi := ⟨some 61, _, _, _, _, _⟩) (v := ?_) rfl (by kernel_rfl) (by kernel_rfl) (by kernel_rfl) (fun _ _ _ h => h) (Or.inl ⟨by rfl, ?_⟩) hS ?_
  rotate_left
  · intro wq hq
    first | (go_simp; done) | (go_simp; rfl)
  try simp only [Act.put, List.setIfInBounds_toArray, List.set_cons_zero, List.set_cons_succ]
  refine wpAnyH_ready (rs := [3]) (by kernel_rfl) (by simp) ?_
  refine AllReadyH.cons (o := ⟨some 62, _, _, _, _, _⟩) rfl (fun K hK => ?_) AllReadyH.nil
  rw [if_pos (by rfl)]
  go_wp2
  refine hK.out _ _ trivial (fun hS => ?_)
  clear hK K hcp
  try simp only [Act.put, List.setIfInBounds_toArray, List.set_cons_zero, List.set_cons_succ]
  refine wpAnyH_done (by kernel_rfl) ?_ _
  clear hS
  go_wp2_with (first
    | (refine rfd_fetch rfl _ rfl (w.heap.size + 2) ⟨4, 0, 0, 0, false, seg l 2 6⟩ (seg_len l 2 6 (by omega)) rfl HEV.out.range ?_)
    | (refine rfd_store rfl _ _ rfl (w.heap.size + 1) ⟨4, 0, 0, 0, false, seg l 2 6⟩ (seg_len l 2 6 (by omega)) rfl rfl 61 zfd HE.out.res rfl ?_))
  exact bodyPost_ret (rfd_res rfl _ _ (w.heap.size + 1) 61 ⟨4, 0, 0, 0, false, seg l 2 6⟩ (seg_len l 2 6 (by omega)) rfl (Blk.setRow HE.out.res _)) rfl ⟨rfl, HE.out.low.trans (below_setRow _ _ _ (by omega))⟩
set_option maxHeartbeats 2000000 in
set_option maxRecDepth 100000 in
theorem rrd_1539 (w : World) (l : List Int) (hl : l.length = 8) (ho : Oct l) (hh : hd l = 1539) :
    Calls Tryd.prog 51 #[.agg (u8s l).toArray] w fun e w' => e = .returned (.agg (fdc (rdF l)).toArray) ∧ Below w.heap.size w w' := by
  rw [rdF_1539 l hh]
  have HV := Lib.hid (r2_new w l)
  have c0 := com_cell HV.out.com hl 0 (by omega)
  have c1 := com_cell HV.out.com hl 1 (by omega)
  rw [hd_eq l hl] at hh
  have x0 := ho.getD 0
  have x1 := ho.getD 1
  rw [show l.getD 0 0 = 6 by omega] at c0
  rw [show l.getD 1 0 = 3 by omega] at c1
  clear hh x0 x1
  go_enter Tryd.func51, Tryd.ntmps51
  have hN := Blk.new ((w.alloc (.cells (u8s l).toArray 52)).alloc (.cells zfd 61)) 61 zfd
  rw [size_a2] at hN
  have HN := Lib.hid hN
  have HX : Hid (R2 w ((((w.alloc (.cells (u8s l).toArray 52)).alloc (.cells zfd 61)).alloc (.cells zfd 61)).setRow (w.heap.size + 2) (Value.int .i64 4 :: Value.int .i64 0 :: Value.int .u32 0 :: Value.int .u32 0 :: Value.bool false :: u8s z6).toArray) l) := Lib.hid ⟨(HV.out.com.alloc _).below (below_setRow _ (w.heap.size + 2) _ (Nat.le_refl _)) (by omega), (HV.out.res.alloc _).below (below_setRow _ (w.heap.size + 2) _ (Nat.le_refl _)) (by omega), (HV.out.low.alloc (by rw [size_a2]; omega) _).trans (below_setRow _ (w.heap.size + 2) _ (by omega))⟩
  have HXV : Hid (Blk ((((w.alloc (.cells (u8s l).toArray 52)).alloc (.cells zfd 61)).alloc (.cells zfd 61)).setRow (w.heap.size + 2) (Value.int .i64 4 :: Value.int .i64 0 :: Value.int .u32 0 :: Value.int .u32 0 :: Value.bool false :: u8s z6).toArray) (w.heap.size + 2) 61 (fdk 4 0)) := Lib.hid (Blk.setRow hN _)
  have d1 : ((((w.alloc (.cells (u8s l).toArray 52)).alloc (.cells zfd 61)).alloc (.cells zfd 61)).setRow (w.heap.size + 2) (Value.int .i64 4 :: Value.int .i64 0 :: Value.int .u32 0 :: Value.int .u32 0 :: Value.bool false :: u8s z6).toArray).cell? ⟨w.heap.size, 1, none⟩ = some (.int .u8 3) := by
    have h2 := com_cell HX.out.com hl 1 (by omega)
    have h3 := com_cell HV.out.com hl 1 (by omega)
    rw [c1] at h3
    rw [h2, ← h3]
  have e0 : ((((w.alloc (.cells (u8s l).toArray 52)).alloc (.cells zfd 61)).alloc (.cells zfd 61)).setRow (w.heap.size + 2) (Value.int .i64 4 :: Value.int .i64 0 :: Value.int .u32 0 :: Value.int .u32 0 :: Value.bool false :: u8s z6).toArray).cell? ⟨w.heap.size + 2, 0, none⟩ = some (.int .i64 4) := HXV.out.cell 0
  have ef0 := HXV.out.frozen 0
  have HXX : Hid (R2 w (((((w.alloc (.cells (u8s l).toArray 52)).alloc (.cells zfd 61)).alloc (.cells zfd 61)).setRow (w.heap.size + 2) (Value.int .i64 4 :: Value.int .i64 0 :: Value.int .u32 0 :: Value.int .u32 0 :: Value.bool false :: u8s z6).toArray).setCell ⟨w.heap.size + 2, 0, none⟩ (.int .i64 5)) l) := Lib.hid ⟨HX.out.com.far (by simp) _, HX.out.res.far (by simp) _, HX.out.low.setCell (by show w.heap.size ≤ w.heap.size + 2; omega) _⟩
  have HXW : Hid (Blk (((((w.alloc (.cells (u8s l).toArray 52)).alloc (.cells zfd 61)).alloc (.cells zfd 61)).setRow (w.heap.size + 2) (Value.int .i64 4 :: Value.int .i64 0 :: Value.int .u32 0 :: Value.int .u32 0 :: Value.bool false :: u8s z6).toArray).setCell ⟨w.heap.size + 2, 0, none⟩ (.int .i64 5)) (w.heap.size + 2) 61 (fdk 5 0)) := Lib.hid (HXV.out.set_ 0 (.int .i64 5))
  clear hN HX HXV
  go_wp2_with (refine rfd_store rfl _ _ rfl (w.heap.size + 2) ⟨4, 0, 0, 0, false, z6⟩ rfl rfl rfl 61 zfd HN.out rfl ?_)
  clear d1 c0 c1 HV HN e0 ef0
  generalize (((((w.alloc (.cells (u8s l).toArray 52)).alloc (.cells zfd 61)).alloc (.cells zfd 61)).setRow (w.heap.size + 2) (Value.int .i64 4 :: Value.int .i64 0 :: Value.int .u32 0 :: Value.int .u32 0 :: Value.bool false :: u8s z6).toArray).setCell ⟨w.heap.size + 2, 0, none⟩ (.int .i64 5)) = w2 at *
  have hcp := copy_from w2.drew (w.heap.size + 2) w.heap.size 5 0 l hl 61 HXW.out HXX.out.com 3
  have HE : Hid (R2 w (w2.drew.setRow (w.heap.size + 2) (fdc ⟨5, 0, 0, 0, false, seg l 2 6⟩).toArray) l) := Lib.hid ⟨(show Blk w2.drew _ _ _ from HXX.out.com).below (below_setRow _ (w.heap.size + 2) _ (Nat.le_refl _)) (by omega), (show Blk w2.drew _ _ _ from HXX.out.res).below (below_setRow _ (w.heap.size + 2) _ (Nat.le_refl _)) (by omega), (below_drewN HXX.out.low 1).trans (below_setRow _ _ _ (by omega))⟩
  have HEV : Hid (Blk (w2.drew.setRow (w.heap.size + 2) (fdc ⟨5, 0, 0, 0, false, seg l 2 6⟩).toArray) (w.heap.size + 2) 61 (fdc ⟨5, 0, 0, 0, false, seg l 2 6⟩).toArray) := Lib.hid (Blk.setRow (show Blk w2.drew (w.heap.size + 2) 61 (fdk 5 0) from HXW.out) _)
  clear HXX HXW
  refine wp_region_held_drew (S := fun w' => True) (by kernel_rfl) (trivial) (fun hS => ?_)
  refine wpAnyH_take (i := 0) (oi := ⟨some 59, _, _, _, _, _⟩) (v := ?_) rfl (by kernel_rfl) (by kernel_rfl) (by kernel_rfl) (fun _ _ _ h => h) (Or.inl ⟨by rfl, ?_⟩) hS ?_
  rotate_left
  · intro wq hq
    first | (go_simp; done) | (go_simp; rfl)
  try simp only [Act.put, List.setIfInBounds_toArray, List.set_cons_zero, List.set_cons_succ]
  refine wpAnyH_take (i := 1) (oi := ⟨some 60, _, _, _, _, _⟩) (v := ?_) rfl (by kernel_rfl) (by kernel_rfl) (by kernel_rfl) (fun _ _ _ h => h) (Or.inl ⟨by rfl, ?_⟩) hS ?_
  rotate_left
  · intro wq hq
    first | (go_simp; done) | (go_simp; rfl)
  try simp only [Act.put, List.setIfInBounds_toArray, List.set_cons_zero, List.set_cons_succ]
  refine wpAnyH_take (i := 2) (oi := ⟨some 61, _, _, _, _, _⟩) (v := ?_) rfl (by kernel_rfl) (by kernel_rfl) (by kernel_rfl) (fun _ _ _ h => h) (Or.inl ⟨by rfl, ?_⟩) hS ?_
  rotate_left
  · intro wq hq
    first | (go_simp; done) | (go_simp; rfl)
  try simp only [Act.put, List.setIfInBounds_toArray, List.set_cons_zero, List.set_cons_succ]
  refine wpAnyH_ready (rs := [3]) (by kernel_rfl) (by simp) ?_
  refine AllReadyH.cons (o := ⟨some 62, _, _, _, _, _⟩) rfl (fun K hK => ?_) AllReadyH.nil
  rw [if_pos (by rfl)]
  go_wp2
  refine hK.out _ _ trivial (fun hS => ?_)
  clear hK K hcp
  try simp only [Act.put, List.setIfInBounds_toArray, List.set_cons_zero, List.set_cons_succ]
  refine wpAnyH_done (by kernel_rfl) ?_ _
  clear hS
  go_wp2_with (first
    | (refine rfd_fetch rfl _ rfl (w.heap.size + 2) ⟨5, 0, 0, 0, false, seg l 2 6⟩ (seg_len l 2 6 (by omega)) rfl HEV.out.range ?_)
    | (refine rfd_store rfl _ _ rfl (w.heap.size + 1) ⟨5, 0, 0, 0, false, seg l 2 6⟩ (seg_len l 2 6 (by omega)) rfl rfl 61 zfd HE.out.res rfl ?_))
  exact bodyPost_ret (rfd_res rfl _ _ (w.heap.size + 1) 61 ⟨5, 0, 0, 0, false, seg l 2 6⟩ (seg_len l 2 6 (by omega)) rfl (Blk.setRow HE.out.res _)) rfl ⟨rfl, HE.out.low.trans (below_setRow _ _ _ (by omega))⟩
set_option maxHeartbeats 2000000 in
set_option maxRecDepth 100000 in
theorem rrd_780 (w : World) (l : List Int) (hl : l.length = 8) (ho : Oct l) (hh : hd l = 780) :
    Calls Tryd.prog 51 #[.agg (u8s l).toArray] w fun e w' => e = .returned (.agg (fdc (rdF l)).toArray) ∧ Below w.heap.size w w' := by
  rw [rdF_780 l hh]
  have HV := Lib.hid (r2_new w l)
  have c0 := com_cell HV.out.com hl 0 (by omega)
  have c1 := com_cell HV.out.com hl 1 (by omega)
  rw [hd_eq l hl] at hh
  have x0 := ho.getD 0
  have x1 := ho.getD 1
  rw [show l.getD 0 0 = 3 by omega] at c0
  rw [show l.getD 1 0 = 12 by omega] at c1
  clear hh x0 x1
  go_enter Tryd.func51, Tryd.ntmps51
  go_wp2_with (first
    | (refine comm_fetch rfl _ rfl w.heap.size 0 l hl rfl HV.out.com.range ?_))
  refine (rnum_is' _ l 6 2 hl ho (by omega) (by omega) (by omega) 7 rfl).mono ?_
  rintro e w3 ⟨rfl, hB⟩
  have HV3 := Lib.hid (HV.out.below hB)
  clear hB HV c0 c1
  go_wp2_with (refine rfd_store rfl _ _ rfl (w.heap.size + 1) ⟨6, 0, 0, numOf (seg l 6 2), false, z6⟩ rfl rfl rfl 61 zfd HV3.out.res rfl ?_)
  exact bodyPost_ret (rfd_res rfl _ _ (w.heap.size + 1) 61 ⟨6, 0, 0, numOf (seg l 6 2), false, z6⟩ rfl rfl (Blk.setRow HV3.out.res _)) rfl ⟨rfl, HV3.out.low.trans (below_setRow _ _ _ (by omega))⟩
set_option maxHeartbeats 2000000 in
set_option maxRecDepth 100000 in
theorem rrd_other (w : World) (l : List Int) (hl : l.length = 8) (ho : Oct l) (hh : hd l ≠ 2 ∧ hd l ≠ 258 ∧ hd l ≠ 514 ∧ hd l ≠ 1536 ∧ hd l ≠ 1537 ∧ hd l ≠ 1538 ∧ hd l ≠ 1539 ∧ hd l ≠ 780) :
    Calls Tryd.prog 51 #[.agg (u8s l).toArray] w fun e w' => e = .returned (.agg (fdc (rdF l)).toArray) ∧ Below w.heap.size w w' := by
  rw [rdF_other l hh]
  have HV := Lib.hid (r2_new w l)
  have c0 := com_cell HV.out.com hl 0 (by omega)
  have c1 := com_cell HV.out.com hl 1 (by omega)
  rw [hd_eq l hl] at hh
  have x0 := ho.getD 0
  have x1 := ho.getD 1
  generalize l.getD 0 0 = x at *
  generalize l.getD 1 0 = y at *
  obtain ⟨a1, a2, a3, a4, a5, a6, a7, a8⟩ := hh
  have b1 : (256 * x + y == 2) = false := by rw [beq_eq_false_iff_ne]; omega
  have b2 : (256 * x + y == 258) = false := by rw [beq_eq_false_iff_ne]; omega
  have b3 : (256 * x + y == 514) = false := by rw [beq_eq_false_iff_ne]; omega
  have b4 : (256 * x + y == 1536) = false := by rw [beq_eq_false_iff_ne]; omega
  have b5 : (256 * x + y == 1537) = false := by rw [beq_eq_false_iff_ne]; omega
  have b6 : (256 * x + y == 1538) = false := by rw [beq_eq_false_iff_ne]; omega
  have b7 : (256 * x + y == 1539) = false := by rw [beq_eq_false_iff_ne]; omega
  have b8 : (256 * x + y == 780) = false := by rw [beq_eq_false_iff_ne]; omega
  clear a1 a2 a3 a4 a5 a6 a7 a8
  go_enter Tryd.func51, Tryd.ntmps51
  go_wp2_with (refine rfd_store rfl _ _ rfl (w.heap.size + 1) ⟨0, 0, 0, 0, false, z6⟩ rfl rfl rfl 61 zfd HV.out.res rfl ?_)
  exact bodyPost_ret (rfd_res rfl _ _ (w.heap.size + 1) 61 ⟨0, 0, 0, 0, false, z6⟩ rfl rfl (Blk.setRow HV.out.res _)) rfl ⟨rfl, HV.out.low.trans (below_setRow _ _ _ (by omega))⟩
theorem rrd_is' (w : World) (l : List Int) (hl : l.length = 8) (ho : Oct l) :
    Calls Tryd.prog 51 #[.agg (u8s l).toArray] w fun e w' => e = .returned (.agg (fdc (rdF l)).toArray) ∧ Below w.heap.size w w' := by
  rcases kinds (hd l) with h | h | h | h | h | h | h | h | h
  · exact rrd_2 w l hl ho h
  · exact rrd_258 w l hl ho h
  · exact rrd_514 w l hl ho h
  · exact rrd_1536 w l hl ho h
  · exact rrd_1537 w l hl ho h
  · exact rrd_1538 w l hl ho h
  · exact rrd_1539 w l hl ho h
  · exact rrd_780 w l hl ho h
  · exact rrd_other w l hl ho h
end Go.Proofs.YtkaimdcepnhkdaaDoor
