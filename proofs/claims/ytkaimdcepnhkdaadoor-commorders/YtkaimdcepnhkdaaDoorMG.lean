/-
  Put together: ComG.
-/
import Derived.Test.YtkaimdcepnhkdaaDoorMF
namespace Go.Proofs.YtkaimdcepnhkdaaDoor
open Go.RowKit
set_option linter.unusedSimpArgs false
set_option linter.unusedVariables false

/-- What a community says. -/
structure Fd where
  kind : Int
  form : Int
  as_ : Int
  n : Int
  flag : Bool
  mac : List Int
def z6 : List Int := [0, 0, 0, 0, 0, 0]
/-- Its cells. -/
abbrev fdc (f : Fd) : List Value := [.int .i64 f.kind, .int .i64 f.form, .int .u32 f.as_, .int .u32 f.n, .bool f.flag] ++ u8s f.mac
def rdF (l : List Int) : Fd :=
  if hd l = 2 then ⟨1, 0, numOf (seg l 2 2), numOf (seg l 4 4), false, z6⟩
  else if hd l = 258 then ⟨1, 1, numOf (seg l 2 4), numOf (seg l 6 2), false, z6⟩
  else if hd l = 514 then ⟨1, 2, numOf (seg l 2 4), numOf (seg l 6 2), false, z6⟩
  else if hd l = 1536 then ⟨2, 0, 0, numOf (seg l 4 4), flagOf l, z6⟩
  else if hd l = 1537 then ⟨3, 0, 0, numOf (seg l 5 3), flagOf l, z6⟩
  else if hd l = 1538 then ⟨4, 0, 0, 0, false, seg l 2 6⟩
  else if hd l = 1539 then ⟨5, 0, 0, 0, false, seg l 2 6⟩
  else if hd l = 780 then ⟨6, 0, 0, numOf (seg l 6 2), false, z6⟩
  else ⟨0, 0, 0, 0, false, z6⟩
theorem rdF_mac (l : List Int) (hl : l.length = 8) : (rdF l).mac.length = 6 := by
  have h6 : (seg l 2 6).length = 6 := seg_len l 2 6 (by omega)
  unfold rdF
  repeat' split
  all_goals first | rfl | exact h6
theorem fdc_size (f : Fd) (h : f.mac.length = 6) : (Tryd.prog.info? 63).map (·.size) = some (fdc f).toArray.size := by
  have : (Tryd.prog.info? 63).map (·.size) = some 11 := by kernel_rfl
  rw [this]; simp [h]
theorem fdc_one (f : Fd) : ∀ x ∈ fdc f, x.oneCell' = true := by
  intro x hx
  rcases List.mem_append.1 hx with hx | hx
  · simp only [List.mem_cons, List.mem_nil_iff, or_false] at hx
    rcases hx with rfl | rfl | rfl | rfl | rfl <;> rfl
  · exact u8s_one1 _ x hx
theorem fd_fetch {ops : Array Oper} {rest : List Oper} {op : Oper} {a : Act} {w : World} {Q : Exit → Act → World → Prop} (hw : Region.wanted op (yielded ops a.tmps) = true) (x : Operand) (ho : op.op = .load 63 x) (b : Nat) (f : Fd) (hf : f.mac.length = 6)
    (hx : a.eval x = .pointer (some ⟨b, 0, none⟩)) (hc : w.rangeAt b 0 (fdc f)) (h : wpList Tryd.prog ops Q rest (a.put op.dst (.agg (fdc f).toArray)) w) : wpList Tryd.prog ops Q (op :: rest) a w :=
  BigFrame.wpList_want hw fun _ hK => wp_load_mid 63 x ho b 0 hx (fdc f) _ hc Tryd.underlying63 rfl (by simpa using fdc_size f hf) (hK _ _ h)
theorem fd_store {ops : Array Oper} {rest : List Oper} {o : Oper} {a : Act} {w : World} {Q : Exit → Act → World → Prop} (hgd : o.guard = none) (x y : Operand) (ho : o.op = .store 63 x y) (g : Nat) (f : Fd) (hf : f.mac.length = 6)
    (hx : a.eval x = .pointer (some ⟨g, 0, none⟩)) (hy : a.eval y = .agg (fdc f).toArray) (t : TypeId) (old : Array Value) (hg : Blk w g t old) (hold : old.size = 11)
    (h : wpList Tryd.prog ops Q rest (a.put o.dst undef) (w.setRow g (fdc f).toArray)) : wpList Tryd.prog ops Q (o :: rest) a w :=
  wpList_store_row hgd 63 x y ho g _ hx hy t old hg (fdc_size f hf) (by rw [hold]; simp [hf]) (all_oneCell_toArray (fdc_one f)) h
abbrev zfd : Array Value := #[.int .i64 0, .int .i64 0, .int .u32 0, .int .u32 0, .bool false, .int .u8 0, .int .u8 0, .int .u8 0, .int .u8 0, .int .u8 0, .int .u8 0]
abbrev fdk (k f : Int) : Array Value := #[.int .i64 k, .int .i64 f, .int .u32 0, .int .u32 0, .bool false, .int .u8 0, .int .u8 0, .int .u8 0, .int .u8 0, .int .u8 0, .int .u8 0]
/-- Three blocks of Read's: the community, the answer, the variable. -/
structure R3 (w0 w : World) (l : List Int) (cs : Array Value) : Prop where
  com : Blk w w0.heap.size 52 (u8s l).toArray
  res : Blk w (w0.heap.size + 1) 63 zfd
  var : Blk w (w0.heap.size + 2) 63 cs
  low : Below w0.heap.size w0 w
theorem R3.lt {w0 w : World} {l : List Int} {cs : Array Value} (h : R3 w0 w l cs) : w0.heap.size + 3 ≤ w.heap.size := h.var.lt
theorem R3.below {w0 w w' : World} {l : List Int} {cs : Array Value} (h : R3 w0 w l cs) (hB : Below w.heap.size w w') : R3 w0 w' l cs := by
  have := h.lt
  exact ⟨h.com.below hB (by omega), h.res.below hB (by omega), h.var.below hB (by omega), h.low.trans (hB.mono (by omega))⟩
theorem R3.set {w0 w : World} {l : List Int} {cs : Array Value} (h : R3 w0 w l cs) (i : Nat) (u : Value) : R3 w0 (w.setCell ⟨w0.heap.size + 2, i, none⟩ u) l (cs.setIfInBounds i u) :=
  ⟨h.com.far (by simp) u, h.res.far (by simp) u, h.var.set_ i u, h.low.setCell (by show w0.heap.size ≤ w0.heap.size + 2; omega) u⟩
theorem R3.row {w0 w : World} {l : List Int} {cs : Array Value} (h : R3 w0 w l cs) (cs' : Array Value) : R3 w0 (w.setRow (w0.heap.size + 2) cs') l cs' :=
  ⟨h.com.below (below_setRow _ (w0.heap.size + 2) _ (Nat.le_refl _)) (by omega), h.res.below (below_setRow _ (w0.heap.size + 2) _ (Nat.le_refl _)) (by omega), h.var.setRow _, h.low.trans (below_setRow _ _ _ (by omega))⟩
theorem r3_new (w : World) (l : List Int) : R3 w (((w.alloc (.cells (u8s l).toArray 52)).alloc (.cells zfd 63)).alloc (.cells zfd 63)) l zfd := by
  have h1 := Blk.new (w.alloc (.cells (u8s l).toArray 52)) 63 zfd
  rw [size_a1] at h1
  have h2 := Blk.new ((w.alloc (.cells (u8s l).toArray 52)).alloc (.cells zfd 63)) 63 zfd
  rw [size_a2] at h2
  exact ⟨((Blk.new w 52 _).alloc _).alloc _, h1.alloc _, h2, (((Below.refl w.heap.size w).alloc (Nat.le_refl _) _).alloc (by simp) _).alloc (by simp; omega) _⟩
theorem fd_res {fn : Func} {p : Tmp} (h : fn.results = #[.cell p 63]) (tmps : Array Value) (w : World) (g : Nat) (t : TypeId) (f : Fd) (hf : f.mac.length = 6)
    (hp : tmps.getD p undef = .pointer (some ⟨g, 0, none⟩)) (hg : Blk w g t (fdc f).toArray) : (results fn tmps).run Tryd.prog w = .ok (.agg (fdc f).toArray) w :=
  results_cell_row h tmps w g t _ (0, 0) _ hp hg Tryd.underlying63 rfl (fdc_size f hf)
set_option maxRecDepth 100000 in
/-- 'copy(f.Mac[:], c[2:])'. -/
theorem copy_from (w : World) (g g2 : Nat) (k fm : Int) (l : List Int) (hl : l.length = 8) (t : TypeId) (hb : Blk w g t (fdk k fm)) (hs : Blk w g2 52 (u8s l).toArray) (ty : TypeId) :
    (Builtin.copy_ #[79, 79] ty #[.slice (some ⟨g, 5, none⟩) 6 6, .slice (some ⟨g2, 2, none⟩) 6 6]).run Tryd.prog w = .ok (.int .i64 6) (w.setRow g (fdc ⟨k, fm, 0, 0, false, seg l 2 6⟩).toArray) := by
  have hsl : (seg l 2 6).length = 6 := seg_len l 2 6 (by omega)
  have h := run_copy_row (P := Tryd.prog) w 79 79 ty 5 g 5 6 6 ⟨g2, 2, none⟩ 6 6 (fdk k fm) t (u8s (seg l 2 6)) Tryd.underlying79 (by kernel_rfl) hb (by simp [hsl]) (fun j v hv => by
    have e : (⟨g2, 2, none⟩ : Addr).add j = ⟨g2, 2 + j, none⟩ := by unfold Addr.add; split <;> simp_all
    rw [e, hs.cell]
    have hj : j < 6 := by
      have := (List.getElem?_eq_some_iff.1 hv).1
      simpa [hsl] using this
    rw [← hv]
    simp [seg, hj]) (by simp [hsl]) (u8s_one1 _)
  rw [show (u8s (seg l 2 6)).length = 6 by simp [hsl]] at h
  refine h.trans ?_
  congr 2
  simp
theorem rdF_2 (l : List Int) (hh : hd l = 2) : rdF l = ⟨1, 0, numOf (seg l 2 2), numOf (seg l 4 4), false, z6⟩ := by unfold rdF; rw [hh]; rfl
set_option maxHeartbeats 2000000 in
set_option maxRecDepth 100000 in
theorem rd_2 (w : World) (l : List Int) (hl : l.length = 8) (ho : Oct l) (hh : hd l = 2) :
    Calls Tryd.prog 50 #[.agg (u8s l).toArray] w fun e w' => e = .returned (.agg (fdc (rdF l)).toArray) ∧ Below w.heap.size w w' := by
  have HK : Hid (kf (hd l) = (1, 0)) := Lib.hid (by rw [hh]; rfl)
  rw [rdF_2 l hh]
  have HV := Lib.hid (r3_new w l)
  clear hh
  go_enter Tryd.func50, Tryd.ntmps50
  go_wp2_with (refine comm_fetch rfl _ rfl w.heap.size 0 l hl rfl HV.out.com.range ?_)
  refine (ko_is _ l hl ho).mono ?_
  rintro e w1 ⟨rfl, hB⟩
  rw [HK.out]
  have HV1 := Lib.hid (HV.out.below hB)
  have HV2 : Hid (R3 w ((w1.setCell ⟨w.heap.size + 2, 0, none⟩ (.int .i64 1)).setCell ⟨w.heap.size + 2, 1, none⟩ (.int .i64 0)) l (fdk 1 0)) := Lib.hid ((HV1.out.set 0 (.int .i64 1)).set 1 (.int .i64 0))
  have c0 : w1.cell? ⟨w.heap.size + 2, 0, none⟩ = some (.int .i64 0) := HV1.out.var.cell 0
  have c1 : w1.cell? ⟨w.heap.size + 2, 1, none⟩ = some (.int .i64 0) := HV1.out.var.cell 1
  have f0 := HV1.out.var.frozen 0
  have f1 := HV1.out.var.frozen 1
  clear hB HV HK HV1
  go_wp2_with (refine comm_fetch rfl _ rfl w.heap.size 0 l hl rfl HV2.out.com.range ?_)
  refine (tn_is _ l 0 hl ho).mono ?_
  rintro e w3 ⟨rfl, hB⟩
  have HV3 := Lib.hid (HV2.out.below hB)
  have c2 : w3.cell? ⟨w.heap.size + 2, 2, none⟩ = some (.int .u32 0) := HV3.out.var.cell 2
  have c3 : w3.cell? ⟨w.heap.size + 2, 3, none⟩ = some (.int .u32 0) := HV3.out.var.cell 3
  have f2 := HV3.out.var.frozen 2
  have f3 := HV3.out.var.frozen 3
  have HE : Hid (R3 w ((w3.setCell ⟨w.heap.size + 2, 2, none⟩ (.int .u32 (tnA 0 l))).setCell ⟨w.heap.size + 2, 3, none⟩ (.int .u32 (tnN 0 l))) l (fdc ⟨1, 0, numOf (seg l 2 2), numOf (seg l 4 4), false, z6⟩).toArray) := Lib.hid ((HV3.out.set 2 (.int .u32 (tnA 0 l))).set 3 (.int .u32 (tnN 0 l)))
  clear hB HV2 HV3 c0 c1 f0 f1
  go_wp2_with (first
    | (refine fd_fetch rfl _ rfl (w.heap.size + 2) ⟨1, 0, numOf (seg l 2 2), numOf (seg l 4 4), false, z6⟩ (by first | rfl | exact seg_len l 2 6 (by omega)) rfl HE.out.var.range ?_)
    | (refine fd_store rfl _ _ rfl (w.heap.size + 1) ⟨1, 0, numOf (seg l 2 2), numOf (seg l 4 4), false, z6⟩ (by first | rfl | exact seg_len l 2 6 (by omega)) rfl rfl 63 zfd HE.out.res rfl ?_))
  exact bodyPost_ret (fd_res rfl _ _ (w.heap.size + 1) 63 ⟨1, 0, numOf (seg l 2 2), numOf (seg l 4 4), false, z6⟩ (by first | rfl | exact seg_len l 2 6 (by omega)) rfl (Blk.setRow HE.out.res _)) rfl ⟨rfl, HE.out.low.trans (below_setRow _ _ _ (by omega))⟩
theorem rdF_258 (l : List Int) (hh : hd l = 258) : rdF l = ⟨1, 1, numOf (seg l 2 4), numOf (seg l 6 2), false, z6⟩ := by unfold rdF; rw [hh]; rfl
set_option maxHeartbeats 2000000 in
set_option maxRecDepth 100000 in
theorem rd_258 (w : World) (l : List Int) (hl : l.length = 8) (ho : Oct l) (hh : hd l = 258) :
    Calls Tryd.prog 50 #[.agg (u8s l).toArray] w fun e w' => e = .returned (.agg (fdc (rdF l)).toArray) ∧ Below w.heap.size w w' := by
  have HK : Hid (kf (hd l) = (1, 1)) := Lib.hid (by rw [hh]; rfl)
  rw [rdF_258 l hh]
  have HV := Lib.hid (r3_new w l)
  clear hh
  go_enter Tryd.func50, Tryd.ntmps50
  go_wp2_with (refine comm_fetch rfl _ rfl w.heap.size 0 l hl rfl HV.out.com.range ?_)
  refine (ko_is _ l hl ho).mono ?_
  rintro e w1 ⟨rfl, hB⟩
  rw [HK.out]
  have HV1 := Lib.hid (HV.out.below hB)
  have HV2 : Hid (R3 w ((w1.setCell ⟨w.heap.size + 2, 0, none⟩ (.int .i64 1)).setCell ⟨w.heap.size + 2, 1, none⟩ (.int .i64 1)) l (fdk 1 1)) := Lib.hid ((HV1.out.set 0 (.int .i64 1)).set 1 (.int .i64 1))
  have c0 : w1.cell? ⟨w.heap.size + 2, 0, none⟩ = some (.int .i64 0) := HV1.out.var.cell 0
  have c1 : w1.cell? ⟨w.heap.size + 2, 1, none⟩ = some (.int .i64 0) := HV1.out.var.cell 1
  have f0 := HV1.out.var.frozen 0
  have f1 := HV1.out.var.frozen 1
  clear hB HV HK HV1
  go_wp2_with (refine comm_fetch rfl _ rfl w.heap.size 0 l hl rfl HV2.out.com.range ?_)
  refine (tn_is _ l 1 hl ho).mono ?_
  rintro e w3 ⟨rfl, hB⟩
  have HV3 := Lib.hid (HV2.out.below hB)
  have c2 : w3.cell? ⟨w.heap.size + 2, 2, none⟩ = some (.int .u32 0) := HV3.out.var.cell 2
  have c3 : w3.cell? ⟨w.heap.size + 2, 3, none⟩ = some (.int .u32 0) := HV3.out.var.cell 3
  have f2 := HV3.out.var.frozen 2
  have f3 := HV3.out.var.frozen 3
  have HE : Hid (R3 w ((w3.setCell ⟨w.heap.size + 2, 2, none⟩ (.int .u32 (tnA 1 l))).setCell ⟨w.heap.size + 2, 3, none⟩ (.int .u32 (tnN 1 l))) l (fdc ⟨1, 1, numOf (seg l 2 4), numOf (seg l 6 2), false, z6⟩).toArray) := Lib.hid ((HV3.out.set 2 (.int .u32 (tnA 1 l))).set 3 (.int .u32 (tnN 1 l)))
  clear hB HV2 HV3 c0 c1 f0 f1
  go_wp2_with (first
    | (refine fd_fetch rfl _ rfl (w.heap.size + 2) ⟨1, 1, numOf (seg l 2 4), numOf (seg l 6 2), false, z6⟩ (by first | rfl | exact seg_len l 2 6 (by omega)) rfl HE.out.var.range ?_)
    | (refine fd_store rfl _ _ rfl (w.heap.size + 1) ⟨1, 1, numOf (seg l 2 4), numOf (seg l 6 2), false, z6⟩ (by first | rfl | exact seg_len l 2 6 (by omega)) rfl rfl 63 zfd HE.out.res rfl ?_))
  exact bodyPost_ret (fd_res rfl _ _ (w.heap.size + 1) 63 ⟨1, 1, numOf (seg l 2 4), numOf (seg l 6 2), false, z6⟩ (by first | rfl | exact seg_len l 2 6 (by omega)) rfl (Blk.setRow HE.out.res _)) rfl ⟨rfl, HE.out.low.trans (below_setRow _ _ _ (by omega))⟩
theorem rdF_514 (l : List Int) (hh : hd l = 514) : rdF l = ⟨1, 2, numOf (seg l 2 4), numOf (seg l 6 2), false, z6⟩ := by unfold rdF; rw [hh]; rfl
set_option maxHeartbeats 2000000 in
set_option maxRecDepth 100000 in
theorem rd_514 (w : World) (l : List Int) (hl : l.length = 8) (ho : Oct l) (hh : hd l = 514) :
    Calls Tryd.prog 50 #[.agg (u8s l).toArray] w fun e w' => e = .returned (.agg (fdc (rdF l)).toArray) ∧ Below w.heap.size w w' := by
  have HK : Hid (kf (hd l) = (1, 2)) := Lib.hid (by rw [hh]; rfl)
  rw [rdF_514 l hh]
  have HV := Lib.hid (r3_new w l)
  clear hh
  go_enter Tryd.func50, Tryd.ntmps50
  go_wp2_with (refine comm_fetch rfl _ rfl w.heap.size 0 l hl rfl HV.out.com.range ?_)
  refine (ko_is _ l hl ho).mono ?_
  rintro e w1 ⟨rfl, hB⟩
  rw [HK.out]
  have HV1 := Lib.hid (HV.out.below hB)
  have HV2 : Hid (R3 w ((w1.setCell ⟨w.heap.size + 2, 0, none⟩ (.int .i64 1)).setCell ⟨w.heap.size + 2, 1, none⟩ (.int .i64 2)) l (fdk 1 2)) := Lib.hid ((HV1.out.set 0 (.int .i64 1)).set 1 (.int .i64 2))
  have c0 : w1.cell? ⟨w.heap.size + 2, 0, none⟩ = some (.int .i64 0) := HV1.out.var.cell 0
  have c1 : w1.cell? ⟨w.heap.size + 2, 1, none⟩ = some (.int .i64 0) := HV1.out.var.cell 1
  have f0 := HV1.out.var.frozen 0
  have f1 := HV1.out.var.frozen 1
  clear hB HV HK HV1
  go_wp2_with (refine comm_fetch rfl _ rfl w.heap.size 0 l hl rfl HV2.out.com.range ?_)
  refine (tn_is _ l 2 hl ho).mono ?_
  rintro e w3 ⟨rfl, hB⟩
  have HV3 := Lib.hid (HV2.out.below hB)
  have c2 : w3.cell? ⟨w.heap.size + 2, 2, none⟩ = some (.int .u32 0) := HV3.out.var.cell 2
  have c3 : w3.cell? ⟨w.heap.size + 2, 3, none⟩ = some (.int .u32 0) := HV3.out.var.cell 3
  have f2 := HV3.out.var.frozen 2
  have f3 := HV3.out.var.frozen 3
  have HE : Hid (R3 w ((w3.setCell ⟨w.heap.size + 2, 2, none⟩ (.int .u32 (tnA 2 l))).setCell ⟨w.heap.size + 2, 3, none⟩ (.int .u32 (tnN 2 l))) l (fdc ⟨1, 2, numOf (seg l 2 4), numOf (seg l 6 2), false, z6⟩).toArray) := Lib.hid ((HV3.out.set 2 (.int .u32 (tnA 2 l))).set 3 (.int .u32 (tnN 2 l)))
  clear hB HV2 HV3 c0 c1 f0 f1
  go_wp2_with (first
    | (refine fd_fetch rfl _ rfl (w.heap.size + 2) ⟨1, 2, numOf (seg l 2 4), numOf (seg l 6 2), false, z6⟩ (by first | rfl | exact seg_len l 2 6 (by omega)) rfl HE.out.var.range ?_)
    | (refine fd_store rfl _ _ rfl (w.heap.size + 1) ⟨1, 2, numOf (seg l 2 4), numOf (seg l 6 2), false, z6⟩ (by first | rfl | exact seg_len l 2 6 (by omega)) rfl rfl 63 zfd HE.out.res rfl ?_))
  exact bodyPost_ret (fd_res rfl _ _ (w.heap.size + 1) 63 ⟨1, 2, numOf (seg l 2 4), numOf (seg l 6 2), false, z6⟩ (by first | rfl | exact seg_len l 2 6 (by omega)) rfl (Blk.setRow HE.out.res _)) rfl ⟨rfl, HE.out.low.trans (below_setRow _ _ _ (by omega))⟩
theorem rdF_1536 (l : List Int) (hh : hd l = 1536) : rdF l = ⟨2, 0, 0, numOf (seg l 4 4), flagOf l, z6⟩ := by unfold rdF; rw [hh]; rfl
set_option maxHeartbeats 2000000 in
set_option maxRecDepth 100000 in
theorem rd_1536 (w : World) (l : List Int) (hl : l.length = 8) (ho : Oct l) (hh : hd l = 1536) :
    Calls Tryd.prog 50 #[.agg (u8s l).toArray] w fun e w' => e = .returned (.agg (fdc (rdF l)).toArray) ∧ Below w.heap.size w w' := by
  have HK : Hid (kf (hd l) = (2, 0)) := Lib.hid (by rw [hh]; rfl)
  rw [rdF_1536 l hh]
  have HV := Lib.hid (r3_new w l)
  clear hh
  go_enter Tryd.func50, Tryd.ntmps50
  go_wp2_with (refine comm_fetch rfl _ rfl w.heap.size 0 l hl rfl HV.out.com.range ?_)
  refine (ko_is _ l hl ho).mono ?_
  rintro e w1 ⟨rfl, hB⟩
  rw [HK.out]
  have HV1 := Lib.hid (HV.out.below hB)
  have HV2 : Hid (R3 w ((w1.setCell ⟨w.heap.size + 2, 0, none⟩ (.int .i64 2)).setCell ⟨w.heap.size + 2, 1, none⟩ (.int .i64 0)) l (fdk 2 0)) := Lib.hid ((HV1.out.set 0 (.int .i64 2)).set 1 (.int .i64 0))
  have c0 : w1.cell? ⟨w.heap.size + 2, 0, none⟩ = some (.int .i64 0) := HV1.out.var.cell 0
  have c1 : w1.cell? ⟨w.heap.size + 2, 1, none⟩ = some (.int .i64 0) := HV1.out.var.cell 1
  have f0 := HV1.out.var.frozen 0
  have f1 := HV1.out.var.frozen 1
  clear hB HV HK HV1
  go_wp2
  have HVd : Hid (R3 w ((w1.setCell ⟨w.heap.size + 2, 0, none⟩ (.int .i64 2)).setCell ⟨w.heap.size + 2, 1, none⟩ (.int .i64 0)).drew l (fdk 2 0)) := Lib.hid ⟨HV2.out.com, HV2.out.res, HV2.out.var, below_drewN HV2.out.low 1⟩
  clear HV2 c0 c1 f0 f1
  refine wp_region_held_drew (S := fun w' => Blk w' w.heap.size 52 (u8s l).toArray) (by kernel_rfl) (HVd.out.com) (fun hS => ?_)
  refine wpAnyH_take (i := 0) (oi := ⟨some 26, _, _, _, _, _⟩) rfl (by kernel_rfl) (by kernel_rfl) (by kernel_rfl) (fun _ _ _ h => h) (yieldsIf_load_mid (by rfl) 52 _ rfl _ _ rfl (u8s l) _ (fun wq hq => hq.range) Tryd.underlying52 rfl (by simpa using comm_size l hl)) hS ?_
  try simp only [Act.put, List.setIfInBounds_toArray, List.set_cons_zero, List.set_cons_succ]
  refine wpAnyH_take (i := 2) (oi := ⟨some 28, _, _, _, _, _⟩) (v := ?_) rfl (by kernel_rfl) (by kernel_rfl) (by kernel_rfl) (fun _ _ _ h => h) (Or.inl ⟨by rfl, ?_⟩) hS ?_
  rotate_left
  · intro wq hq
    first | (go_simp; done) | (go_simp; rfl)
  try simp only [Act.put, List.setIfInBounds_toArray, List.set_cons_zero, List.set_cons_succ]
  refine wpAnyH_ready (rs := [1]) (by kernel_rfl) (by simp) ?_
  refine AllReadyH.cons (o := ⟨some 27, _, _, _, _, _⟩) rfl (fun K hK => ?_) AllReadyH.nil
  rw [if_pos (by rfl)]
  go_wp2_with fail
  refine (isf_is _ l hl ho).mono ?_
  rintro e w3 ⟨rfl, hB⟩
  have HV3 := Lib.hid (HVd.out.below hB)
  clear hB HVd
  refine hK.out _ _ (HV3.out.com) (fun hS => ?_)
  clear hK K
  try simp only [Act.put, List.setIfInBounds_toArray, List.set_cons_zero, List.set_cons_succ]
  refine wpAnyH_ready (rs := [3]) (by kernel_rfl) (by simp) ?_
  refine AllReadyH.cons (o := ⟨some 29, _, _, _, _, _⟩) rfl (fun K hK => ?_) AllReadyH.nil
  rw [if_pos (by rfl)]
  go_wp2_with fail
  refine (cnum_is _ _ _ 4 4 (seg l 4 4) (rd_comm HV3.out.com ho 4 4 (by omega)) (by omega)).mono ?_
  rintro e w4 ⟨rfl, rfl⟩
  refine hK.out _ _ (HV3.out.com) (fun hS => ?_)
  clear hK K
  try simp only [Act.put, List.setIfInBounds_toArray, List.set_cons_zero, List.set_cons_succ]
  refine wpAnyH_take (i := 4) (oi := ⟨some 30, _, _, _, _, _⟩) (v := ?_) rfl (by kernel_rfl) (by kernel_rfl) (by kernel_rfl) (fun _ _ _ h => h) (Or.inl ⟨by rfl, ?_⟩) hS ?_
  rotate_left
  · intro wq hq
    first | (go_simp; done) | (go_simp; rfl)
  try simp only [Act.put, List.setIfInBounds_toArray, List.set_cons_zero, List.set_cons_succ]
  have c4 : w3.cell? ⟨w.heap.size + 2, 4, none⟩ = some (.bool false) := HV3.out.var.cell 4
  have f4 := HV3.out.var.frozen 4
  have HV4 : Hid (R3 w (w3.setCell ⟨w.heap.size + 2, 4, none⟩ (.bool (flagOf l))) l #[.int .i64 2, .int .i64 0, .int .u32 0, .int .u32 0, .bool (flagOf l), .int .u8 0, .int .u8 0, .int .u8 0, .int .u8 0, .int .u8 0, .int .u8 0]) := Lib.hid (HV3.out.set 4 (.bool (flagOf l)))
  clear HV3
  refine wpAnyH_ready (rs := [5]) (by kernel_rfl) (by simp) ?_
  refine AllReadyH.cons (o := ⟨none, _, _, _, _, _⟩) rfl (fun K hK => ?_) AllReadyH.nil
  rw [if_pos (by rfl)]
  go_wp2
  refine hK.out _ _ HV4.out.com (fun hS => ?_)
  clear hK K c4 f4
  try simp only [Act.put, List.setIfInBounds_toArray, List.set_cons_zero, List.set_cons_succ]
  generalize w3.setCell ⟨w.heap.size + 2, 4, none⟩ (.bool (flagOf l)) = w5 at *
  refine wpAnyH_take (i := 6) (oi := ⟨some 31, _, _, _, _, _⟩) (v := ?_) rfl (by kernel_rfl) (by kernel_rfl) (by kernel_rfl) (fun _ _ _ h => h) (Or.inl ⟨by rfl, ?_⟩) hS ?_
  rotate_left
  · intro wq hq
    first | (go_simp; done) | (go_simp; rfl)
  try simp only [Act.put, List.setIfInBounds_toArray, List.set_cons_zero, List.set_cons_succ]
  have c3 : w5.cell? ⟨w.heap.size + 2, 3, none⟩ = some (.int .u32 0) := HV4.out.var.cell 3
  have f3 := HV4.out.var.frozen 3
  have HE : Hid (R3 w (w5.setCell ⟨w.heap.size + 2, 3, none⟩ (.int .u32 (numOf (seg l 4 4)))) l (fdc ⟨2, 0, 0, numOf (seg l 4 4), flagOf l, z6⟩).toArray) := Lib.hid (HV4.out.set 3 (.int .u32 (numOf (seg l 4 4))))
  clear HV4
  refine wpAnyH_ready (rs := [7]) (by kernel_rfl) (by simp) ?_
  refine AllReadyH.cons (o := ⟨none, _, _, _, _, _⟩) rfl (fun K hK => ?_) AllReadyH.nil
  rw [if_pos (by rfl)]
  go_wp2
  refine hK.out _ _ HE.out.com (fun hS => ?_)
  clear hK K c3 f3
  try simp only [Act.put, List.setIfInBounds_toArray, List.set_cons_zero, List.set_cons_succ]
  refine wpAnyH_done (by kernel_rfl) ?_ _
  clear hS
  generalize w5.setCell ⟨w.heap.size + 2, 3, none⟩ (.int .u32 (numOf (seg l 4 4))) = w6 at *
  go_wp2_with (first
    | (refine fd_fetch rfl _ rfl (w.heap.size + 2) ⟨2, 0, 0, numOf (seg l 4 4), flagOf l, z6⟩ rfl rfl HE.out.var.range ?_)
    | (refine fd_store rfl _ _ rfl (w.heap.size + 1) ⟨2, 0, 0, numOf (seg l 4 4), flagOf l, z6⟩ rfl rfl rfl 63 zfd HE.out.res rfl ?_))
  exact bodyPost_ret (fd_res rfl _ _ (w.heap.size + 1) 63 ⟨2, 0, 0, numOf (seg l 4 4), flagOf l, z6⟩ rfl rfl (Blk.setRow HE.out.res _)) rfl ⟨rfl, HE.out.low.trans (below_setRow _ _ _ (by omega))⟩
theorem rdF_1537 (l : List Int) (hh : hd l = 1537) : rdF l = ⟨3, 0, 0, numOf (seg l 5 3), flagOf l, z6⟩ := by unfold rdF; rw [hh]; rfl
set_option maxHeartbeats 2000000 in
set_option maxRecDepth 100000 in
theorem rd_1537 (w : World) (l : List Int) (hl : l.length = 8) (ho : Oct l) (hh : hd l = 1537) :
    Calls Tryd.prog 50 #[.agg (u8s l).toArray] w fun e w' => e = .returned (.agg (fdc (rdF l)).toArray) ∧ Below w.heap.size w w' := by
  have HK : Hid (kf (hd l) = (3, 0)) := Lib.hid (by rw [hh]; rfl)
  rw [rdF_1537 l hh]
  have HV := Lib.hid (r3_new w l)
  clear hh
  go_enter Tryd.func50, Tryd.ntmps50
  go_wp2_with (refine comm_fetch rfl _ rfl w.heap.size 0 l hl rfl HV.out.com.range ?_)
  refine (ko_is _ l hl ho).mono ?_
  rintro e w1 ⟨rfl, hB⟩
  rw [HK.out]
  have HV1 := Lib.hid (HV.out.below hB)
  have HV2 : Hid (R3 w ((w1.setCell ⟨w.heap.size + 2, 0, none⟩ (.int .i64 3)).setCell ⟨w.heap.size + 2, 1, none⟩ (.int .i64 0)) l (fdk 3 0)) := Lib.hid ((HV1.out.set 0 (.int .i64 3)).set 1 (.int .i64 0))
  have c0 : w1.cell? ⟨w.heap.size + 2, 0, none⟩ = some (.int .i64 0) := HV1.out.var.cell 0
  have c1 : w1.cell? ⟨w.heap.size + 2, 1, none⟩ = some (.int .i64 0) := HV1.out.var.cell 1
  have f0 := HV1.out.var.frozen 0
  have f1 := HV1.out.var.frozen 1
  clear hB HV HK HV1
  go_wp2
  have HVd : Hid (R3 w ((w1.setCell ⟨w.heap.size + 2, 0, none⟩ (.int .i64 3)).setCell ⟨w.heap.size + 2, 1, none⟩ (.int .i64 0)).drew l (fdk 3 0)) := Lib.hid ⟨HV2.out.com, HV2.out.res, HV2.out.var, below_drewN HV2.out.low 1⟩
  clear HV2 c0 c1 f0 f1
  refine wp_region_held_drew (S := fun w' => Blk w' w.heap.size 52 (u8s l).toArray) (by kernel_rfl) (HVd.out.com) (fun hS => ?_)
  refine wpAnyH_take (i := 0) (oi := ⟨some 34, _, _, _, _, _⟩) rfl (by kernel_rfl) (by kernel_rfl) (by kernel_rfl) (fun _ _ _ h => h) (yieldsIf_load_mid (by rfl) 52 _ rfl _ _ rfl (u8s l) _ (fun wq hq => hq.range) Tryd.underlying52 rfl (by simpa using comm_size l hl)) hS ?_
  try simp only [Act.put, List.setIfInBounds_toArray, List.set_cons_zero, List.set_cons_succ]
  refine wpAnyH_take (i := 2) (oi := ⟨some 36, _, _, _, _, _⟩) (v := ?_) rfl (by kernel_rfl) (by kernel_rfl) (by kernel_rfl) (fun _ _ _ h => h) (Or.inl ⟨by rfl, ?_⟩) hS ?_
  rotate_left
  · intro wq hq
    first | (go_simp; done) | (go_simp; rfl)
  try simp only [Act.put, List.setIfInBounds_toArray, List.set_cons_zero, List.set_cons_succ]
  refine wpAnyH_ready (rs := [1]) (by kernel_rfl) (by simp) ?_
  refine AllReadyH.cons (o := ⟨some 35, _, _, _, _, _⟩) rfl (fun K hK => ?_) AllReadyH.nil
  rw [if_pos (by rfl)]
  go_wp2_with fail
  refine (isf_is _ l hl ho).mono ?_
  rintro e w3 ⟨rfl, hB⟩
  have HV3 := Lib.hid (HVd.out.below hB)
  clear hB HVd
  refine hK.out _ _ (HV3.out.com) (fun hS => ?_)
  clear hK K
  try simp only [Act.put, List.setIfInBounds_toArray, List.set_cons_zero, List.set_cons_succ]
  refine wpAnyH_ready (rs := [3]) (by kernel_rfl) (by simp) ?_
  refine AllReadyH.cons (o := ⟨some 37, _, _, _, _, _⟩) rfl (fun K hK => ?_) AllReadyH.nil
  rw [if_pos (by rfl)]
  go_wp2_with fail
  refine (cnum_is _ _ _ 3 3 (seg l 5 3) (rd_comm HV3.out.com ho 5 3 (by omega)) (by omega)).mono ?_
  rintro e w4 ⟨rfl, rfl⟩
  refine hK.out _ _ (HV3.out.com) (fun hS => ?_)
  clear hK K
  try simp only [Act.put, List.setIfInBounds_toArray, List.set_cons_zero, List.set_cons_succ]
  refine wpAnyH_take (i := 4) (oi := ⟨some 38, _, _, _, _, _⟩) (v := ?_) rfl (by kernel_rfl) (by kernel_rfl) (by kernel_rfl) (fun _ _ _ h => h) (Or.inl ⟨by rfl, ?_⟩) hS ?_
  rotate_left
  · intro wq hq
    first | (go_simp; done) | (go_simp; rfl)
  try simp only [Act.put, List.setIfInBounds_toArray, List.set_cons_zero, List.set_cons_succ]
  have c4 : w3.cell? ⟨w.heap.size + 2, 4, none⟩ = some (.bool false) := HV3.out.var.cell 4
  have f4 := HV3.out.var.frozen 4
  have HV4 : Hid (R3 w (w3.setCell ⟨w.heap.size + 2, 4, none⟩ (.bool (flagOf l))) l #[.int .i64 3, .int .i64 0, .int .u32 0, .int .u32 0, .bool (flagOf l), .int .u8 0, .int .u8 0, .int .u8 0, .int .u8 0, .int .u8 0, .int .u8 0]) := Lib.hid (HV3.out.set 4 (.bool (flagOf l)))
  clear HV3
  refine wpAnyH_ready (rs := [5]) (by kernel_rfl) (by simp) ?_
  refine AllReadyH.cons (o := ⟨none, _, _, _, _, _⟩) rfl (fun K hK => ?_) AllReadyH.nil
  rw [if_pos (by rfl)]
  go_wp2
  refine hK.out _ _ HV4.out.com (fun hS => ?_)
  clear hK K c4 f4
  try simp only [Act.put, List.setIfInBounds_toArray, List.set_cons_zero, List.set_cons_succ]
  generalize w3.setCell ⟨w.heap.size + 2, 4, none⟩ (.bool (flagOf l)) = w5 at *
  refine wpAnyH_take (i := 6) (oi := ⟨some 39, _, _, _, _, _⟩) (v := ?_) rfl (by kernel_rfl) (by kernel_rfl) (by kernel_rfl) (fun _ _ _ h => h) (Or.inl ⟨by rfl, ?_⟩) hS ?_
  rotate_left
  · intro wq hq
    first | (go_simp; done) | (go_simp; rfl)
  try simp only [Act.put, List.setIfInBounds_toArray, List.set_cons_zero, List.set_cons_succ]
  have c3 : w5.cell? ⟨w.heap.size + 2, 3, none⟩ = some (.int .u32 0) := HV4.out.var.cell 3
  have f3 := HV4.out.var.frozen 3
  have HE : Hid (R3 w (w5.setCell ⟨w.heap.size + 2, 3, none⟩ (.int .u32 (numOf (seg l 5 3)))) l (fdc ⟨3, 0, 0, numOf (seg l 5 3), flagOf l, z6⟩).toArray) := Lib.hid (HV4.out.set 3 (.int .u32 (numOf (seg l 5 3))))
  clear HV4
  refine wpAnyH_ready (rs := [7]) (by kernel_rfl) (by simp) ?_
  refine AllReadyH.cons (o := ⟨none, _, _, _, _, _⟩) rfl (fun K hK => ?_) AllReadyH.nil
  rw [if_pos (by rfl)]
  go_wp2
  refine hK.out _ _ HE.out.com (fun hS => ?_)
  clear hK K c3 f3
  try simp only [Act.put, List.setIfInBounds_toArray, List.set_cons_zero, List.set_cons_succ]
  refine wpAnyH_done (by kernel_rfl) ?_ _
  clear hS
  generalize w5.setCell ⟨w.heap.size + 2, 3, none⟩ (.int .u32 (numOf (seg l 5 3))) = w6 at *
  go_wp2_with (first
    | (refine fd_fetch rfl _ rfl (w.heap.size + 2) ⟨3, 0, 0, numOf (seg l 5 3), flagOf l, z6⟩ rfl rfl HE.out.var.range ?_)
    | (refine fd_store rfl _ _ rfl (w.heap.size + 1) ⟨3, 0, 0, numOf (seg l 5 3), flagOf l, z6⟩ rfl rfl rfl 63 zfd HE.out.res rfl ?_))
  exact bodyPost_ret (fd_res rfl _ _ (w.heap.size + 1) 63 ⟨3, 0, 0, numOf (seg l 5 3), flagOf l, z6⟩ rfl rfl (Blk.setRow HE.out.res _)) rfl ⟨rfl, HE.out.low.trans (below_setRow _ _ _ (by omega))⟩
theorem rdF_1538 (l : List Int) (hh : hd l = 1538) : rdF l = ⟨4, 0, 0, 0, false, seg l 2 6⟩ := by unfold rdF; rw [hh]; rfl
set_option maxHeartbeats 2000000 in
set_option maxRecDepth 100000 in
theorem rd_1538 (w : World) (l : List Int) (hl : l.length = 8) (ho : Oct l) (hh : hd l = 1538) :
    Calls Tryd.prog 50 #[.agg (u8s l).toArray] w fun e w' => e = .returned (.agg (fdc (rdF l)).toArray) ∧ Below w.heap.size w w' := by
  have HK : Hid (kf (hd l) = (4, 0)) := Lib.hid (by rw [hh]; rfl)
  rw [rdF_1538 l hh]
  have HV := Lib.hid (r3_new w l)
  clear hh
  go_enter Tryd.func50, Tryd.ntmps50
  go_wp2_with (refine comm_fetch rfl _ rfl w.heap.size 0 l hl rfl HV.out.com.range ?_)
  refine (ko_is _ l hl ho).mono ?_
  rintro e w1 ⟨rfl, hB⟩
  rw [HK.out]
  have HV1 := Lib.hid (HV.out.below hB)
  have HV2 : Hid (R3 w ((w1.setCell ⟨w.heap.size + 2, 0, none⟩ (.int .i64 4)).setCell ⟨w.heap.size + 2, 1, none⟩ (.int .i64 0)) l (fdk 4 0)) := Lib.hid ((HV1.out.set 0 (.int .i64 4)).set 1 (.int .i64 0))
  have c0 : w1.cell? ⟨w.heap.size + 2, 0, none⟩ = some (.int .i64 0) := HV1.out.var.cell 0
  have c1 : w1.cell? ⟨w.heap.size + 2, 1, none⟩ = some (.int .i64 0) := HV1.out.var.cell 1
  have f0 := HV1.out.var.frozen 0
  have f1 := HV1.out.var.frozen 1
  clear hB HV HK HV1
  go_wp2
  have hcp := copy_from ((w1.setCell ⟨w.heap.size + 2, 0, none⟩ (.int .i64 4)).setCell ⟨w.heap.size + 2, 1, none⟩ (.int .i64 0)).drew (w.heap.size + 2) w.heap.size 4 0 l hl 63 HV2.out.var HV2.out.com 3
  have HE : Hid (R3 w (((w1.setCell ⟨w.heap.size + 2, 0, none⟩ (.int .i64 4)).setCell ⟨w.heap.size + 2, 1, none⟩ (.int .i64 0)).drew.setRow (w.heap.size + 2) (fdc ⟨4, 0, 0, 0, false, seg l 2 6⟩).toArray) l (fdc ⟨4, 0, 0, 0, false, seg l 2 6⟩).toArray) := Lib.hid (R3.row (w := ((w1.setCell ⟨w.heap.size + 2, 0, none⟩ (.int .i64 4)).setCell ⟨w.heap.size + 2, 1, none⟩ (.int .i64 0)).drew) (cs := fdk 4 0) ⟨HV2.out.com, HV2.out.res, HV2.out.var, below_drewN HV2.out.low 1⟩ _)
  clear HV2 c0 c1 f0 f1
  refine wp_region_held_drew (S := fun w' => True) (by kernel_rfl) (trivial) (fun hS => ?_)
  refine wpAnyH_take (i := 0) (oi := ⟨some 43, _, _, _, _, _⟩) (v := ?_) rfl (by kernel_rfl) (by kernel_rfl) (by kernel_rfl) (fun _ _ _ h => h) (Or.inl ⟨by rfl, ?_⟩) hS ?_
  rotate_left
  · intro wq hq
    first | (go_simp; done) | (go_simp; rfl)
  try simp only [Act.put, List.setIfInBounds_toArray, List.set_cons_zero, List.set_cons_succ]
  refine wpAnyH_take (i := 1) (oi := ⟨some 44, _, _, _, _, _⟩) (v := ?_) rfl (by kernel_rfl) (by kernel_rfl) (by kernel_rfl) (fun _ _ _ h => h) (Or.inl ⟨by rfl, ?_⟩) hS ?_
  rotate_left
  · intro wq hq
    first | (go_simp; done) | (go_simp; rfl)
  try simp only [Act.put, List.setIfInBounds_toArray, List.set_cons_zero, List.set_cons_succ]
  refine wpAnyH_take (i := 2) (oi := ⟨some 45, _, _, _, _, _⟩) (v := ?_) rfl (by kernel_rfl) (by kernel_rfl) (by kernel_rfl) (fun _ _ _ h => h) (Or.inl ⟨by rfl, ?_⟩) hS ?_
  rotate_left
  · intro wq hq
    first | (go_simp; done) | (go_simp; rfl)
  try simp only [Act.put, List.setIfInBounds_toArray, List.set_cons_zero, List.set_cons_succ]
  refine wpAnyH_ready (rs := [3]) (by kernel_rfl) (by simp) ?_
  refine AllReadyH.cons (o := ⟨some 46, _, _, _, _, _⟩) rfl (fun K hK => ?_) AllReadyH.nil
  rw [if_pos (by rfl)]
  go_wp2
  refine hK.out _ _ trivial (fun hS => ?_)
  clear hK K hcp
  try simp only [Act.put, List.setIfInBounds_toArray, List.set_cons_zero, List.set_cons_succ]
  refine wpAnyH_done (by kernel_rfl) ?_ _
  clear hS
  go_wp2_with (first
    | (refine fd_fetch rfl _ rfl (w.heap.size + 2) ⟨4, 0, 0, 0, false, seg l 2 6⟩ (by first | rfl | exact seg_len l 2 6 (by omega)) rfl HE.out.var.range ?_)
    | (refine fd_store rfl _ _ rfl (w.heap.size + 1) ⟨4, 0, 0, 0, false, seg l 2 6⟩ (by first | rfl | exact seg_len l 2 6 (by omega)) rfl rfl 63 zfd HE.out.res rfl ?_))
  exact bodyPost_ret (fd_res rfl _ _ (w.heap.size + 1) 63 ⟨4, 0, 0, 0, false, seg l 2 6⟩ (by first | rfl | exact seg_len l 2 6 (by omega)) rfl (Blk.setRow HE.out.res _)) rfl ⟨rfl, HE.out.low.trans (below_setRow _ _ _ (by omega))⟩
theorem rdF_1539 (l : List Int) (hh : hd l = 1539) : rdF l = ⟨5, 0, 0, 0, false, seg l 2 6⟩ := by unfold rdF; rw [hh]; rfl
set_option maxHeartbeats 2000000 in
set_option maxRecDepth 100000 in
theorem rd_1539 (w : World) (l : List Int) (hl : l.length = 8) (ho : Oct l) (hh : hd l = 1539) :
    Calls Tryd.prog 50 #[.agg (u8s l).toArray] w fun e w' => e = .returned (.agg (fdc (rdF l)).toArray) ∧ Below w.heap.size w w' := by
  have HK : Hid (kf (hd l) = (5, 0)) := Lib.hid (by rw [hh]; rfl)
  rw [rdF_1539 l hh]
  have HV := Lib.hid (r3_new w l)
  clear hh
  go_enter Tryd.func50, Tryd.ntmps50
  go_wp2_with (refine comm_fetch rfl _ rfl w.heap.size 0 l hl rfl HV.out.com.range ?_)
  refine (ko_is _ l hl ho).mono ?_
  rintro e w1 ⟨rfl, hB⟩
  rw [HK.out]
  have HV1 := Lib.hid (HV.out.below hB)
  have HV2 : Hid (R3 w ((w1.setCell ⟨w.heap.size + 2, 0, none⟩ (.int .i64 5)).setCell ⟨w.heap.size + 2, 1, none⟩ (.int .i64 0)) l (fdk 5 0)) := Lib.hid ((HV1.out.set 0 (.int .i64 5)).set 1 (.int .i64 0))
  have c0 : w1.cell? ⟨w.heap.size + 2, 0, none⟩ = some (.int .i64 0) := HV1.out.var.cell 0
  have c1 : w1.cell? ⟨w.heap.size + 2, 1, none⟩ = some (.int .i64 0) := HV1.out.var.cell 1
  have f0 := HV1.out.var.frozen 0
  have f1 := HV1.out.var.frozen 1
  clear hB HV HK HV1
  go_wp2
  have hcp := copy_from ((w1.setCell ⟨w.heap.size + 2, 0, none⟩ (.int .i64 5)).setCell ⟨w.heap.size + 2, 1, none⟩ (.int .i64 0)).drew (w.heap.size + 2) w.heap.size 5 0 l hl 63 HV2.out.var HV2.out.com 3
  have HE : Hid (R3 w (((w1.setCell ⟨w.heap.size + 2, 0, none⟩ (.int .i64 5)).setCell ⟨w.heap.size + 2, 1, none⟩ (.int .i64 0)).drew.setRow (w.heap.size + 2) (fdc ⟨5, 0, 0, 0, false, seg l 2 6⟩).toArray) l (fdc ⟨5, 0, 0, 0, false, seg l 2 6⟩).toArray) := Lib.hid (R3.row (w := ((w1.setCell ⟨w.heap.size + 2, 0, none⟩ (.int .i64 5)).setCell ⟨w.heap.size + 2, 1, none⟩ (.int .i64 0)).drew) (cs := fdk 5 0) ⟨HV2.out.com, HV2.out.res, HV2.out.var, below_drewN HV2.out.low 1⟩ _)
  clear HV2 c0 c1 f0 f1
  refine wp_region_held_drew (S := fun w' => True) (by kernel_rfl) (trivial) (fun hS => ?_)
  refine wpAnyH_take (i := 0) (oi := ⟨some 43, _, _, _, _, _⟩) (v := ?_) rfl (by kernel_rfl) (by kernel_rfl) (by kernel_rfl) (fun _ _ _ h => h) (Or.inl ⟨by rfl, ?_⟩) hS ?_
  rotate_left
  · intro wq hq
    first | (go_simp; done) | (go_simp; rfl)
  try simp only [Act.put, List.setIfInBounds_toArray, List.set_cons_zero, List.set_cons_succ]
  refine wpAnyH_take (i := 1) (oi := ⟨some 44, _, _, _, _, _⟩) (v := ?_) rfl (by kernel_rfl) (by kernel_rfl) (by kernel_rfl) (fun _ _ _ h => h) (Or.inl ⟨by rfl, ?_⟩) hS ?_
  rotate_left
  · intro wq hq
    first | (go_simp; done) | (go_simp; rfl)
  try simp only [Act.put, List.setIfInBounds_toArray, List.set_cons_zero, List.set_cons_succ]
  refine wpAnyH_take (i := 2) (oi := ⟨some 45, _, _, _, _, _⟩) (v := ?_) rfl (by kernel_rfl) (by kernel_rfl) (by kernel_rfl) (fun _ _ _ h => h) (Or.inl ⟨by rfl, ?_⟩) hS ?_
  rotate_left
  · intro wq hq
    first | (go_simp; done) | (go_simp; rfl)
  try simp only [Act.put, List.setIfInBounds_toArray, List.set_cons_zero, List.set_cons_succ]
  refine wpAnyH_ready (rs := [3]) (by kernel_rfl) (by simp) ?_
  refine AllReadyH.cons (o := ⟨some 46, _, _, _, _, _⟩) rfl (fun K hK => ?_) AllReadyH.nil
  rw [if_pos (by rfl)]
  go_wp2
  refine hK.out _ _ trivial (fun hS => ?_)
  clear hK K hcp
  try simp only [Act.put, List.setIfInBounds_toArray, List.set_cons_zero, List.set_cons_succ]
  refine wpAnyH_done (by kernel_rfl) ?_ _
  clear hS
  go_wp2_with (first
    | (refine fd_fetch rfl _ rfl (w.heap.size + 2) ⟨5, 0, 0, 0, false, seg l 2 6⟩ (by first | rfl | exact seg_len l 2 6 (by omega)) rfl HE.out.var.range ?_)
    | (refine fd_store rfl _ _ rfl (w.heap.size + 1) ⟨5, 0, 0, 0, false, seg l 2 6⟩ (by first | rfl | exact seg_len l 2 6 (by omega)) rfl rfl 63 zfd HE.out.res rfl ?_))
  exact bodyPost_ret (fd_res rfl _ _ (w.heap.size + 1) 63 ⟨5, 0, 0, 0, false, seg l 2 6⟩ (by first | rfl | exact seg_len l 2 6 (by omega)) rfl (Blk.setRow HE.out.res _)) rfl ⟨rfl, HE.out.low.trans (below_setRow _ _ _ (by omega))⟩
theorem rdF_780 (l : List Int) (hh : hd l = 780) : rdF l = ⟨6, 0, 0, numOf (seg l 6 2), false, z6⟩ := by unfold rdF; rw [hh]; rfl
set_option maxHeartbeats 2000000 in
set_option maxRecDepth 100000 in
theorem rd_780 (w : World) (l : List Int) (hl : l.length = 8) (ho : Oct l) (hh : hd l = 780) :
    Calls Tryd.prog 50 #[.agg (u8s l).toArray] w fun e w' => e = .returned (.agg (fdc (rdF l)).toArray) ∧ Below w.heap.size w w' := by
  have HK : Hid (kf (hd l) = (6, 0)) := Lib.hid (by rw [hh]; rfl)
  rw [rdF_780 l hh]
  have HV := Lib.hid (r3_new w l)
  clear hh
  go_enter Tryd.func50, Tryd.ntmps50
  go_wp2_with (refine comm_fetch rfl _ rfl w.heap.size 0 l hl rfl HV.out.com.range ?_)
  refine (ko_is _ l hl ho).mono ?_
  rintro e w1 ⟨rfl, hB⟩
  rw [HK.out]
  have HV1 := Lib.hid (HV.out.below hB)
  have HV2 : Hid (R3 w ((w1.setCell ⟨w.heap.size + 2, 0, none⟩ (.int .i64 6)).setCell ⟨w.heap.size + 2, 1, none⟩ (.int .i64 0)) l (fdk 6 0)) := Lib.hid ((HV1.out.set 0 (.int .i64 6)).set 1 (.int .i64 0))
  have c0 : w1.cell? ⟨w.heap.size + 2, 0, none⟩ = some (.int .i64 0) := HV1.out.var.cell 0
  have c1 : w1.cell? ⟨w.heap.size + 2, 1, none⟩ = some (.int .i64 0) := HV1.out.var.cell 1
  have f0 := HV1.out.var.frozen 0
  have f1 := HV1.out.var.frozen 1
  clear hB HV HK HV1
  go_wp2_with fail
  refine (cnum_is _ _ _ 2 2 (seg l 6 2) (rd_comm HV2.out.com ho 6 2 (by omega)) (by omega)).mono ?_
  rintro e w3 ⟨rfl, rfl⟩
  have c3 : ((w1.setCell ⟨w.heap.size + 2, 0, none⟩ (.int .i64 6)).setCell ⟨w.heap.size + 2, 1, none⟩ (.int .i64 0)).cell? ⟨w.heap.size + 2, 3, none⟩ = some (.int .u32 0) := HV2.out.var.cell 3
  have f3 := HV2.out.var.frozen 3
  have HE : Hid (R3 w (((w1.setCell ⟨w.heap.size + 2, 0, none⟩ (.int .i64 6)).setCell ⟨w.heap.size + 2, 1, none⟩ (.int .i64 0)).setCell ⟨w.heap.size + 2, 3, none⟩ (.int .u32 (numOf (seg l 6 2)))) l (fdc ⟨6, 0, 0, numOf (seg l 6 2), false, z6⟩).toArray) := Lib.hid (HV2.out.set 3 (.int .u32 (numOf (seg l 6 2))))
  clear HV2
  go_wp2_with (first
    | (refine fd_fetch rfl _ rfl (w.heap.size + 2) ⟨6, 0, 0, numOf (seg l 6 2), false, z6⟩ (by first | rfl | exact seg_len l 2 6 (by omega)) rfl HE.out.var.range ?_)
    | (refine fd_store rfl _ _ rfl (w.heap.size + 1) ⟨6, 0, 0, numOf (seg l 6 2), false, z6⟩ (by first | rfl | exact seg_len l 2 6 (by omega)) rfl rfl 63 zfd HE.out.res rfl ?_))
  exact bodyPost_ret (fd_res rfl _ _ (w.heap.size + 1) 63 ⟨6, 0, 0, numOf (seg l 6 2), false, z6⟩ (by first | rfl | exact seg_len l 2 6 (by omega)) rfl (Blk.setRow HE.out.res _)) rfl ⟨rfl, HE.out.low.trans (below_setRow _ _ _ (by omega))⟩
theorem rdF_other (l : List Int) (hh : hd l ≠ 2 ∧ hd l ≠ 258 ∧ hd l ≠ 514 ∧ hd l ≠ 1536 ∧ hd l ≠ 1537 ∧ hd l ≠ 1538 ∧ hd l ≠ 1539 ∧ hd l ≠ 780) : rdF l = ⟨0, 0, 0, 0, false, z6⟩ := by unfold rdF; rw [if_neg hh.1, if_neg hh.2.1, if_neg hh.2.2.1, if_neg hh.2.2.2.1, if_neg hh.2.2.2.2.1, if_neg hh.2.2.2.2.2.1, if_neg hh.2.2.2.2.2.2.1, if_neg hh.2.2.2.2.2.2.2]
set_option maxHeartbeats 2000000 in
set_option maxRecDepth 100000 in
theorem rd_other (w : World) (l : List Int) (hl : l.length = 8) (ho : Oct l) (hh : hd l ≠ 2 ∧ hd l ≠ 258 ∧ hd l ≠ 514 ∧ hd l ≠ 1536 ∧ hd l ≠ 1537 ∧ hd l ≠ 1538 ∧ hd l ≠ 1539 ∧ hd l ≠ 780) :
    Calls Tryd.prog 50 #[.agg (u8s l).toArray] w fun e w' => e = .returned (.agg (fdc (rdF l)).toArray) ∧ Below w.heap.size w w' := by
  have HK : Hid (kf (hd l) = (0, 0)) := Lib.hid (kf_other hh)
  rw [rdF_other l hh]
  have HV := Lib.hid (r3_new w l)
  clear hh
  go_enter Tryd.func50, Tryd.ntmps50
  go_wp2_with (refine comm_fetch rfl _ rfl w.heap.size 0 l hl rfl HV.out.com.range ?_)
  refine (ko_is _ l hl ho).mono ?_
  rintro e w1 ⟨rfl, hB⟩
  rw [HK.out]
  have HV1 := Lib.hid (HV.out.below hB)
  have HV2 : Hid (R3 w ((w1.setCell ⟨w.heap.size + 2, 0, none⟩ (.int .i64 0)).setCell ⟨w.heap.size + 2, 1, none⟩ (.int .i64 0)) l (fdk 0 0)) := Lib.hid ((HV1.out.set 0 (.int .i64 0)).set 1 (.int .i64 0))
  have c0 : w1.cell? ⟨w.heap.size + 2, 0, none⟩ = some (.int .i64 0) := HV1.out.var.cell 0
  have c1 : w1.cell? ⟨w.heap.size + 2, 1, none⟩ = some (.int .i64 0) := HV1.out.var.cell 1
  have f0 := HV1.out.var.frozen 0
  have f1 := HV1.out.var.frozen 1
  clear hB HV HK HV1
  have HE : Hid (R3 w ((w1.setCell ⟨w.heap.size + 2, 0, none⟩ (.int .i64 0)).setCell ⟨w.heap.size + 2, 1, none⟩ (.int .i64 0)) l (fdc ⟨0, 0, 0, 0, false, z6⟩).toArray) := Lib.hid HV2.out
  clear HV2
  go_wp2_with (first
    | (refine fd_fetch rfl _ rfl (w.heap.size + 2) ⟨0, 0, 0, 0, false, z6⟩ (by first | rfl | exact seg_len l 2 6 (by omega)) rfl HE.out.var.range ?_)
    | (refine fd_store rfl _ _ rfl (w.heap.size + 1) ⟨0, 0, 0, 0, false, z6⟩ (by first | rfl | exact seg_len l 2 6 (by omega)) rfl rfl 63 zfd HE.out.res rfl ?_))
  exact bodyPost_ret (fd_res rfl _ _ (w.heap.size + 1) 63 ⟨0, 0, 0, 0, false, z6⟩ (by first | rfl | exact seg_len l 2 6 (by omega)) rfl (Blk.setRow HE.out.res _)) rfl ⟨rfl, HE.out.low.trans (below_setRow _ _ _ (by omega))⟩
theorem rd_is (w : World) (l : List Int) (hl : l.length = 8) (ho : Oct l) :
    Calls Tryd.prog 50 #[.agg (u8s l).toArray] w fun e w' => e = .returned (.agg (fdc (rdF l)).toArray) ∧ Below w.heap.size w w' := by
  rcases kinds (hd l) with h | h | h | h | h | h | h | h | h
  · exact rd_2 w l hl ho h
  · exact rd_258 w l hl ho h
  · exact rd_514 w l hl ho h
  · exact rd_1536 w l hl ho h
  · exact rd_1537 w l hl ho h
  · exact rd_1538 w l hl ho h
  · exact rd_1539 w l hl ho h
  · exact rd_780 w l hl ho h
  · exact rd_other w l hl ho h
end Go.Proofs.YtkaimdcepnhkdaaDoor
