/-
  Put together: NlB NlC NlD NlE NlH NlI NlJ NlK NlL NlM NlU NlV.
-/
import Derived.Test.YtdgoeibfggjbmaaGreatDoorMC
import Derived.Test.YtdgoeibfggjbmaaGreatDoorMB
import Derived.Test.YtdgoeibfggjbmaaGreatDoorMA
import Derived.Lib.AppendZerosOnto
import Derived.Laws.MakeOwn
import Derived.Maps.AppendAt
import Derived.Great.BuildSlice
import Derived.OpenShut
import Derived.ChangeOld
namespace Go.Proofs.YtdgoeibfggjbmaaGreatDoor
open Go.RowKit
set_option maxRecDepth 100000
set_option linter.unusedSimpArgs false
set_option linter.unusedVariables false

theorem below_cells {B b : Nat} {a : World} (hb : B ≤ b) : ∀ (cs : List Value) (o : Nat) (w : World), Below B a w → Below B a (w.setCells b o cs)
  | [], _, _, h => h
  | v :: r, o, w, h => below_cells hb r (o + 1) _ (h.setCell (p := ⟨b, o, none⟩) hb v)
theorem heap_cells {b i : Nat} (hne : i ≠ b) : ∀ (cs : List Value) (o : Nat) (w : World), (w.setCells b o cs).heap[i]? = w.heap[i]?
  | [], _, _ => rfl
  | v :: r, o, w => (heap_cells hne r (o + 1) _).trans (Below.heap_setCell w ⟨b, o, none⟩ v i hne)
section
variable {P : Program}
theorem run_storeVar_int (w : World) (b o : Nat) (ty : TypeId) (q : IntKind) (n : Int) (ht : w.there b o 1) (hi : (P.info? ty).map (·.size) = some 1) : (storeVar ty ⟨b, o, none⟩ (.int q n)).run P w = .ok () (w.setCell ⟨b, o, none⟩ (.int q n)) := by
  have := run_storeCells_cells (P := P) b o [.int q n] 0 w (fun j hj => by simpa using (ht j (by simpa using hj)).1) (fun j hj => by simpa using (ht j (by simpa using hj)).2)
    (fun v hv => by rw [List.mem_singleton] at hv; subst hv; rfl)
  cases hq : P.info? ty with
  | none => simp [hq] at hi
  | some i =>
    have hs : 1 = i.size := by simp [hq] at hi; omega
    simp only [Nat.add_zero] at this
    simp [storeVar, sizeOf, typeInfo, hq, Value.cells, ← hs, this]
    rfl
theorem wp_store_int {op : Oper} {a : Act} {w : World} {K : Act → World → Prop} {Q : Exit → Act → World → Prop} (ty : TypeId) (x y : Operand) (ho : op.op = .store ty x y)
    (b o : Nat) (q : IntKind) (n : Int) (hx : a.eval x = .pointer (some ⟨b, o, none⟩)) (hy : a.eval y = .int q n) (ht : w.there b o 1) (hi : (P.info? ty).map (·.size) = some 1)
    (h : K (a.put op.dst undef) (w.setCell ⟨b, o, none⟩ (.int q n))) : op.wp P a w K Q := by
  unfold Oper.wp execOp
  simp only [ho, hx, hy, Instr.storeAt, Instr.sureAddr, Sem.run_bind, Sem.run_pure, Result.andThen_ok, run_storeVar_int w b o ty q n ht hi]
  exact h
theorem wp_store_listN {op : Oper} {a : Act} {w : World} {K : Act → World → Prop} {Q : Exit → Act → World → Prop} (ty : TypeId) (x y : Operand) (ho : op.op = .store ty x y)
    (b o : Nat) (cs : List Value) (hx : a.eval x = .pointer (some ⟨b, o, none⟩)) (hy : a.eval y = .agg cs.toArray) (ht : w.there b o cs.length) (hi : (P.info? ty).map (·.size) = some cs.length) (h1 : ∀ v ∈ cs, v.oneCell' = true)
    (h : K (a.put op.dst undef) (w.setCells b o cs)) : op.wp P a w K Q :=
  wp_store_mid ty x y ho b o cs.toArray hx hy (by simpa using ht) (by simpa using hi) (all_oneCell_toArray h1) (by simpa using h)
end
theorem sz_rd {r : Rt} (h : RtOk r) : (Tryz.prog.info? 45).map (·.size) = some (u8s r.rd).length := by rw [u8s_len, h.rd]; kernel_rfl
theorem sz_es {r : Rt} (h : RtOk r) : (Tryz.prog.info? 47).map (·.size) = some (u8s r.es).length := by rw [u8s_len, h.es]; kernel_rfl
theorem sz_mc {r : Rt} (h : RtOk r) : (Tryz.prog.info? 49).map (·.size) = some (u8s r.mc).length := by rw [u8s_len, h.mc]; kernel_rfl
theorem sz_pf {r : Rt} (h : RtOk r) : (Tryz.prog.info? 51).map (·.size) = some (pfc r.v6 r.pl r.pn).length := by rw [pfc_len, h.pl]; kernel_rfl
theorem sz_ip {r : Rt} (h : RtOk r) : (Tryz.prog.info? 27).map (·.size) = some (ipc r.v6 r.pl).length := by rw [ipc_len, h.pl]; kernel_rfl
theorem sz_gw {r : Rt} (h : RtOk r) : (Tryz.prog.info? 27).map (·.size) = some (ipc r.gv r.gl).length := by rw [ipc_len, h.gl]; kernel_rfl
theorem sz_u32 : (Tryz.prog.info? 23).map (·.size) = some 1 := by kernel_rfl
theorem rt_build {ops : Array Oper} {rest : List Oper} {o : Oper} {a : Act} {w : World} {Q : Exit → Act → World → Prop} (hgd : o.guard = none) (parts : Array (Nat × Operand)) (ho : o.op = .build 53 parts) (vals : List (Nat × Value))
    (hv : (parts.map fun (i, x) => (i, a.eval x)).toList = vals) (r : Rt) (hb : Tryz.prog.built 53 vals = some (rtc r).toArray) (h : wpList Tryz.prog ops Q rest (a.put o.dst (.agg (rtc r).toArray)) w) : wpList Tryz.prog ops Q (o :: rest) a w :=
  wpList_plain hgd fun _ hK => by
    unfold Oper.wp execOp
    simp only [ho, Sem.run_bind, run_build w _ _ _ (by rw [hv]; exact hb), Result.andThen_ok]
    exact hK _ _ h
theorem rt_store_to {ops : Array Oper} {rest : List Oper} {o : Oper} {a : Act} {w : World} {Q : Exit → Act → World → Prop} (hgd : o.guard = none) (x y : Operand) (ho : o.op = .store 53 x y) (g : Nat) (r : Rt) (hr : RtOk r)
    (hx : a.eval x = .pointer (some ⟨g, 0, none⟩)) (hy : a.eval y = .agg (rtc r).toArray) (t : TypeId) (old : Array Value) (hg : Blk w g t old) (hold : old.size = 63) (I : World → Prop) (hI : I (w.setRow g (rtc r).toArray))
    (h : ∀ W, I W → wpList Tryz.prog ops Q rest (a.put o.dst undef) W) : wpList Tryz.prog ops Q (o :: rest) a w := rt_store hgd x y ho g r hr hx hy t old hg hold (h _ hI)

/-- r without the fields that its kind doesn't have. -/
def ownR (r : Rt) : Rt :=
  if r.k = 1 then { rtZ r.k r.rd with es := r.es, tg := r.tg, lb := r.lb }
  else if r.k = 2 then { rtZ r.k r.rd with es := r.es, tg := r.tg, mc := r.mc, v6 := r.v6, pl := r.pl, pn := r.pn, lb := r.lb, l2 := r.l2 }
  else if r.k = 3 then { rtZ r.k r.rd with tg := r.tg, v6 := r.v6, pl := r.pl, pn := r.pn }
  else if r.k = 4 then { rtZ r.k r.rd with es := r.es, v6 := r.v6, pl := r.pl, pn := r.pn }
  else if r.k = 5 then { rtZ r.k r.rd with es := r.es, tg := r.tg, v6 := r.v6, pl := r.pl, pn := r.pn, gv := r.gv, gl := r.gl, lb := r.lb }
  else rtZ r.k r.rd
section
variable {r o : Rt}
theorem RtOk.oEs (h : RtOk o) (hr : RtOk r) : RtOk { o with es := r.es } := { h with es := hr.es, oes := hr.oes }
theorem RtOk.oTg (h : RtOk o) (hr : RtOk r) : RtOk { o with tg := r.tg } := { h with tg := hr.tg }
theorem RtOk.oMc (h : RtOk o) (hr : RtOk r) : RtOk { o with mc := r.mc } := { h with mc := hr.mc, omc := hr.omc }
theorem RtOk.oPf (h : RtOk o) (hr : RtOk r) : RtOk { o with v6 := r.v6, pl := r.pl, pn := r.pn } := { h with pl := hr.pl, opl := hr.opl, pn := hr.pn }
theorem RtOk.oGw (h : RtOk o) (hr : RtOk r) : RtOk { o with gv := r.gv, gl := r.gl } := { h with gl := hr.gl, ogl := hr.ogl }
theorem RtOk.oLb (h : RtOk o) (hr : RtOk r) : RtOk { o with lb := r.lb } := { h with lb := hr.lb }
theorem RtOk.oL2 (h : RtOk o) (hr : RtOk r) : RtOk { o with l2 := r.l2 } := { h with l2 := hr.l2 }
theorem ownR_ok (hr : RtOk r) : RtOk (ownR r) := by
  have hz := rtZ_ok r.k r.rd hr.k hr.rd hr.ord
  unfold ownR
  split
  · exact ((hz.oEs hr).oTg hr).oLb hr
  · split
    · exact (((((hz.oEs hr).oTg hr).oMc hr).oPf hr).oLb hr).oL2 hr
    · split
      · exact (hz.oTg hr).oPf hr
      · split
        · exact (hz.oEs hr).oPf hr
        · split
          · exact ((((hz.oEs hr).oTg hr).oPf hr).oGw hr).oLb hr
          · exact hz
end

/-- The memory of own. -/
structure OwnWN (w W : World) (r o : Rt) : Prop where
  src : RtAt W w.heap.size r
  res : ∃ Z, Blk W (w.heap.size + 1) 53 Z ∧ Z.size = 63
  dst : RtAt W (w.heap.size + 2) o
  low : Below w.heap.size w W
  okr : RtOk r
  ok : RtOk o
section
variable {w W : World} {r o o' : Rt}
theorem OwnWN.step {off : Nat} {cs : List Value} (h : OwnWN w W r o) (hd : RtAt (W.setCells (w.heap.size + 2) off cs) (w.heap.size + 2) o') (hok : RtOk o') : OwnWN w (W.setCells (w.heap.size + 2) off cs) r o' := by
  obtain ⟨Z, hZ, hs⟩ := h.res
  exact ⟨h.src.keep (heap_cells (by omega) _ _ _), ⟨Z, (heap_cells (show w.heap.size + 1 ≠ w.heap.size + 2 by omega) _ _ _).trans hZ, hs⟩, hd, below_cells (by omega) _ _ _ h.low, h.okr, hok⟩
theorem OwnWN.es (h : OwnWN w W r o) : OwnWN w (W.setCells (w.heap.size + 2) 9 (u8s r.es)) r { o with es := r.es } := h.step (h.dst.setEs h.ok r.es h.okr.es) (h.ok.oEs h.okr)
theorem OwnWN.mc (h : OwnWN w W r o) : OwnWN w (W.setCells (w.heap.size + 2) 20 (u8s r.mc)) r { o with mc := r.mc } := h.step (h.dst.setMc h.ok r.mc h.okr.mc) (h.ok.oMc h.okr)
theorem OwnWN.pf (h : OwnWN w W r o) : OwnWN w (W.setCells (w.heap.size + 2) 26 (pfc r.v6 r.pl r.pn)) r { o with v6 := r.v6, pl := r.pl, pn := r.pn } := h.step (h.dst.setPf h.ok r.v6 r.pl r.pn h.okr.pl) (h.ok.oPf h.okr)
theorem OwnWN.gw (h : OwnWN w W r o) : OwnWN w (W.setCells (w.heap.size + 2) 44 (ipc r.gv r.gl)) r { o with gv := r.gv, gl := r.gl } := h.step (h.dst.setGw h.ok r.gv r.gl h.okr.gl) (h.ok.oGw h.okr)
theorem OwnWN.tg (h : OwnWN w W r o) : OwnWN w (W.setCell ⟨w.heap.size + 2, 19, none⟩ (.int .u32 r.tg)) r { o with tg := r.tg } := h.step (cs := [.int .u32 r.tg]) (h.dst.setTg h.ok r.tg) (h.ok.oTg h.okr)
theorem OwnWN.lb (h : OwnWN w W r o) : OwnWN w (W.setCell ⟨w.heap.size + 2, 61, none⟩ (.int .u32 r.lb)) r { o with lb := r.lb } := h.step (cs := [.int .u32 r.lb]) (h.dst.setLb h.ok r.lb) (h.ok.oLb h.okr)
theorem OwnWN.l2 (h : OwnWN w W r o) : OwnWN w (W.setCell ⟨w.heap.size + 2, 62, none⟩ (.int .u32 r.l2)) r { o with l2 := r.l2 } := h.step (cs := [.int .u32 r.l2]) (h.dst.setL2 h.ok r.l2) (h.ok.oL2 h.okr)
theorem OwnWN.drew (h : OwnWN w W r o) : OwnWN w W.drew r o := by
  obtain ⟨Z, hZ, hs⟩ := h.res
  exact ⟨h.src.keep rfl, ⟨Z, hZ, hs⟩, h.dst.keep rfl, below_drewN h.low 1, h.okr, h.ok⟩
end

set_option maxHeartbeats 4000000 in
set_option maxRecDepth 100000 in
theorem own_1 (w : World) (r : Rt) (hr : RtOk r) (hk : r.k = 1) : Calls Tryz.prog 190 #[.agg (rtc r).toArray] w fun e w' => e = .returned (.agg (rtc (ownR r)).toArray) ∧ Below w.heap.size w w' := by
  have h1 := RtAt.new w r hr 53
  have HX := Lib.hid (fun Z => (h1.alloc (.cells Z 53)).rRd)
  have c0 : (rtc r)[0]? = some (.int .i64 r.k) := rfl
  have hz := rtZ_ok r.k r.rd hr.k hr.rd hr.ord
  have HB3 : Hid (∀ Z Z', Blk (((w.alloc (.cells (rtc r).toArray 53)).alloc (.cells Z 53)).alloc (.cells Z' 53)) (w.heap.size + 2) 53 Z') := Lib.hid (fun Z Z' => by
    have := Blk.new ((w.alloc (.cells (rtc r).toArray 53)).alloc (.cells Z 53)) 53 Z'
    simpa using this)
  have HI : Hid (∀ Z Z', Z.size = 63 → OwnWN w ((((w.alloc (.cells (rtc r).toArray 53)).alloc (.cells Z 53)).alloc (.cells Z' 53)).setRow (w.heap.size + 2) (rtc (rtZ r.k r.rd)).toArray) r (rtZ r.k r.rd)) := Lib.hid (fun Z Z' hs => by
    have hb2 : Blk (w.alloc (.cells (rtc r).toArray 53) |>.alloc (.cells Z 53)) (w.heap.size + 1) 53 Z := by simpa using Blk.new (w.alloc (.cells (rtc r).toArray 53)) 53 Z
    refine ⟨((h1.alloc _).alloc _).keep (setRow_other _ _ _ _ (by omega)), ⟨Z, (setRow_other _ _ _ _ (by omega)).trans (hb2.alloc _), hs⟩, RtAt.row (HB3.out Z Z') hz, ?_, hr, hz⟩
    exact ((((Below.refl w.heap.size w).alloc (Nat.le_refl _) _).alloc (by simp) _).alloc (by simp; omega) _).trans (below_setRow _ _ _ (by omega)))
  have HR := Lib.hid hr
  have HZ := Lib.hid hz
  have HBu := Lib.hid (built_rt r.k r.rd hr.rd)
  have HF : Hid ({ rtZ r.k r.rd with es := r.es, tg := r.tg, lb := r.lb } = ownR r) := Lib.hid (by unfold ownR; rw [if_pos hk])
  have e1 : (r.k == 1) = true := by rw [beq_iff_eq]; omega
  clear h1 hz hk hr
  generalize hkk : r.k = kk at *
  have HKK := Lib.hid hkk
  clear hkk
  go_enter Tryz.func190, Tryz.ntmps190
  go_wp2_with (first
    | (refine part_fetch rfl 45 _ rfl w.heap.size 1 (u8s r.rd) _ rfl (HX.out _) Tryz.underlying45 rfl (sz_rd HR.out) ?_)
    | (refine rt_build rfl _ rfl [(0, .int .i64 kk), (1, .agg (u8s r.rd).toArray)] (by simp only [List.map_toArray, List.map_cons, List.map_nil]; rfl) (rtZ kk r.rd) HBu.out ?_)
    | (refine rt_store_to rfl _ _ rfl (w.heap.size + 2) (rtZ kk r.rd) HZ.out rfl rfl 53 _ (HB3.out _ _) rfl (fun W => OwnWN w W r (rtZ kk r.rd)) (HI.out _ _ rfl) ?_; intro W hW; have hcK := hW.src.cK; rw [HKK.out] at hcK; have HW := Lib.hid hW; clear hW))
  have HD := Lib.hid HW.out.drew
  refine wp_region_held_drew (S := fun W => RtAt W w.heap.size r) (by kernel_rfl) (HD.out.src) (fun hS => ?_)
  refine wpAnyH_take (i := 0) (oi := ⟨some 13, _, _, _, _, _⟩) (v := ?_) rfl (by kernel_rfl) (by kernel_rfl) (by kernel_rfl) (fun _ _ _ h => h) (Or.inl ⟨by rfl, ?_⟩) hS ?_
  rotate_left
  · intro wq hq
    first | (go_simp; done) | (go_simp; rfl)
  try simp only [Act.put, List.setIfInBounds_toArray, List.set_cons_zero, List.set_cons_succ]
  refine wpAnyH_take (i := 1) (oi := ⟨some 14, _, _, _, _, _⟩) rfl (by kernel_rfl) (by kernel_rfl) (by kernel_rfl) (fun _ _ _ h => h) (yieldsIf_load_mid (by rfl) 47 _ rfl _ _ rfl (u8s r.es) _ (fun wq hq => hq.rEs HR.out) Tryz.underlying47 rfl (sz_es HR.out)) hS ?_
  try simp only [Act.put, List.setIfInBounds_toArray, List.set_cons_zero, List.set_cons_succ]
  refine wpAnyH_take (i := 2) (oi := ⟨some 15, _, _, _, _, _⟩) (v := ?_) rfl (by kernel_rfl) (by kernel_rfl) (by kernel_rfl) (fun _ _ _ h => h) (Or.inl ⟨by rfl, ?_⟩) hS ?_
  rotate_left
  · intro wq hq
    first | (go_simp; done) | (go_simp; rfl)
  try simp only [Act.put, List.setIfInBounds_toArray, List.set_cons_zero, List.set_cons_succ]
  refine wpAnyH_take (i := 3) (oi := ⟨some 16, _, _, _, _, _⟩) (v := ?_) rfl (by kernel_rfl) (by kernel_rfl) (by kernel_rfl) (fun _ _ _ h => h) (Or.inl ⟨by rfl, ?_⟩) hS ?_
  rotate_left
  · intro wq hq
    have hc := hq.cTg HR.out
    first | (go_simp; done) | (go_simp; rfl)
  try simp only [Act.put, List.setIfInBounds_toArray, List.set_cons_zero, List.set_cons_succ]
  refine wpAnyH_take (i := 4) (oi := ⟨some 17, _, _, _, _, _⟩) (v := ?_) rfl (by kernel_rfl) (by kernel_rfl) (by kernel_rfl) (fun _ _ _ h => h) (Or.inl ⟨by rfl, ?_⟩) hS ?_
  rotate_left
  · intro wq hq
    first | (go_simp; done) | (go_simp; rfl)
  try simp only [Act.put, List.setIfInBounds_toArray, List.set_cons_zero, List.set_cons_succ]
  refine wpAnyH_take (i := 5) (oi := ⟨some 18, _, _, _, _, _⟩) (v := ?_) rfl (by kernel_rfl) (by kernel_rfl) (by kernel_rfl) (fun _ _ _ h => h) (Or.inl ⟨by rfl, ?_⟩) hS ?_
  rotate_left
  · intro wq hq
    have hc := hq.cLb HR.out
    first | (go_simp; done) | (go_simp; rfl)
  try simp only [Act.put, List.setIfInBounds_toArray, List.set_cons_zero, List.set_cons_succ]
  refine wpAnyH_take (i := 6) (oi := ⟨some 19, _, _, _, _, _⟩) (v := ?_) rfl (by kernel_rfl) (by kernel_rfl) (by kernel_rfl) (fun _ _ _ h => h) (Or.inl ⟨by rfl, ?_⟩) hS ?_
  rotate_left
  · intro wq hq
    first | (go_simp; done) | (go_simp; rfl)
  try simp only [Act.put, List.setIfInBounds_toArray, List.set_cons_zero, List.set_cons_succ]
  refine wpAnyH_ready (rs := [7]) (by kernel_rfl) (by simp) ?_
  refine AllReadyH.cons (o := ⟨none, _, _, _, _, _⟩) rfl (fun K hK => ?_) AllReadyH.nil
  rw [if_pos (by rfl)]
  refine wp_store_listN 47 _ _ rfl (w.heap.size + 2) 9 (u8s r.es) rfl rfl (HD.out.dst.thereAt 9 _ (by simp [HR.out.es, HR.out.mc, HR.out.pl, HR.out.gl])) (sz_es HR.out) (one_u8s _) ?_
  refine hK.out _ _ (HD.out.es.src) (fun hS => ?_)
  clear hK K
  try simp only [Act.put, List.setIfInBounds_toArray, List.set_cons_zero, List.set_cons_succ]
  refine wpAnyH_take (i := 8) (oi := ⟨some 20, _, _, _, _, _⟩) (v := ?_) rfl (by kernel_rfl) (by kernel_rfl) (by kernel_rfl) (fun _ _ _ h => h) (Or.inl ⟨by rfl, ?_⟩) hS ?_
  rotate_left
  · intro wq hq
    first | (go_simp; done) | (go_simp; rfl)
  try simp only [Act.put, List.setIfInBounds_toArray, List.set_cons_zero, List.set_cons_succ]
  refine wpAnyH_ready (rs := [9]) (by kernel_rfl) (by simp) ?_
  refine AllReadyH.cons (o := ⟨none, _, _, _, _, _⟩) rfl (fun K hK => ?_) AllReadyH.nil
  rw [if_pos (by rfl)]
  refine wp_store_int 23 _ _ rfl (w.heap.size + 2) 19 .u32 r.tg rfl rfl (HD.out.es.dst.thereAt 19 1 (by omega)) sz_u32 ?_
  refine hK.out _ _ (HD.out.es.tg.src) (fun hS => ?_)
  clear hK K
  try simp only [Act.put, List.setIfInBounds_toArray, List.set_cons_zero, List.set_cons_succ]
  refine wpAnyH_take (i := 10) (oi := ⟨some 21, _, _, _, _, _⟩) (v := ?_) rfl (by kernel_rfl) (by kernel_rfl) (by kernel_rfl) (fun _ _ _ h => h) (Or.inl ⟨by rfl, ?_⟩) hS ?_
  rotate_left
  · intro wq hq
    first | (go_simp; done) | (go_simp; rfl)
  try simp only [Act.put, List.setIfInBounds_toArray, List.set_cons_zero, List.set_cons_succ]
  refine wpAnyH_ready (rs := [11]) (by kernel_rfl) (by simp) ?_
  refine AllReadyH.cons (o := ⟨none, _, _, _, _, _⟩) rfl (fun K hK => ?_) AllReadyH.nil
  rw [if_pos (by rfl)]
  refine wp_store_int 23 _ _ rfl (w.heap.size + 2) 61 .u32 r.lb rfl rfl (HD.out.es.tg.dst.thereAt 61 1 (by omega)) sz_u32 ?_
  refine hK.out _ _ (HD.out.es.tg.lb.src) (fun hS => ?_)
  clear hK K
  try simp only [Act.put, List.setIfInBounds_toArray, List.set_cons_zero, List.set_cons_succ]
  refine wpAnyH_done (by kernel_rfl) ?_ _
  have HE := Lib.hid (HD.out.es.tg.lb)
  clear HD HW hS
  generalize hgen : { rtZ kk r.rd with es := r.es, tg := r.tg, lb := r.lb } = oo at *
  have HO := Lib.hid HE.out.ok
  obtain ⟨Z, hZ, hs⟩ := HE.out.res
  have HZZ := Lib.hid hZ
  have HSS := Lib.hid hs
  clear hZ hs hgen
  go_wp2_with (first
    | (refine rt_fetch rfl _ rfl (w.heap.size + 2) oo HO.out rfl HE.out.dst ?_)
    | (refine rt_store_to rfl _ _ rfl (w.heap.size + 1) oo HO.out rfl rfl 53 Z HZZ.out HSS.out (fun W' => Blk W' (w.heap.size + 1) 53 (rtc oo).toArray ∧ Below w.heap.size w W') ⟨Blk.setRow HZZ.out _, HE.out.low.trans (below_setRow _ _ _ (by omega))⟩ ?_; intro W2 hW2; have HW2 := Lib.hid hW2; clear hW2))
  rw [← HF.out]
  refine bodyPost_ret (v := .agg (rtc oo).toArray) ?_ rfl ⟨rfl, HW2.out.2⟩
  exact results_cell_row rfl _ _ (w.heap.size + 1) 53 _ (0, 0) _ rfl HW2.out.1 Tryz.underlying53 rfl (by rw [rt_size]; simp [rtc_len HO.out])

set_option maxHeartbeats 4000000 in
set_option maxRecDepth 100000 in
theorem own_2 (w : World) (r : Rt) (hr : RtOk r) (hk : r.k = 2) : Calls Tryz.prog 190 #[.agg (rtc r).toArray] w fun e w' => e = .returned (.agg (rtc (ownR r)).toArray) ∧ Below w.heap.size w w' := by
  have h1 := RtAt.new w r hr 53
  have HX := Lib.hid (fun Z => (h1.alloc (.cells Z 53)).rRd)
  have c0 : (rtc r)[0]? = some (.int .i64 r.k) := rfl
  have hz := rtZ_ok r.k r.rd hr.k hr.rd hr.ord
  have HB3 : Hid (∀ Z Z', Blk (((w.alloc (.cells (rtc r).toArray 53)).alloc (.cells Z 53)).alloc (.cells Z' 53)) (w.heap.size + 2) 53 Z') := Lib.hid (fun Z Z' => by
    have := Blk.new ((w.alloc (.cells (rtc r).toArray 53)).alloc (.cells Z 53)) 53 Z'
    simpa using this)
  have HI : Hid (∀ Z Z', Z.size = 63 → OwnWN w ((((w.alloc (.cells (rtc r).toArray 53)).alloc (.cells Z 53)).alloc (.cells Z' 53)).setRow (w.heap.size + 2) (rtc (rtZ r.k r.rd)).toArray) r (rtZ r.k r.rd)) := Lib.hid (fun Z Z' hs => by
    have hb2 : Blk (w.alloc (.cells (rtc r).toArray 53) |>.alloc (.cells Z 53)) (w.heap.size + 1) 53 Z := by simpa using Blk.new (w.alloc (.cells (rtc r).toArray 53)) 53 Z
    refine ⟨((h1.alloc _).alloc _).keep (setRow_other _ _ _ _ (by omega)), ⟨Z, (setRow_other _ _ _ _ (by omega)).trans (hb2.alloc _), hs⟩, RtAt.row (HB3.out Z Z') hz, ?_, hr, hz⟩
    exact ((((Below.refl w.heap.size w).alloc (Nat.le_refl _) _).alloc (by simp) _).alloc (by simp; omega) _).trans (below_setRow _ _ _ (by omega)))
  have HR := Lib.hid hr
  have HZ := Lib.hid hz
  have HBu := Lib.hid (built_rt r.k r.rd hr.rd)
  have HF : Hid ({ rtZ r.k r.rd with es := r.es, tg := r.tg, mc := r.mc, v6 := r.v6, pl := r.pl, pn := r.pn, lb := r.lb, l2 := r.l2 } = ownR r) := Lib.hid (by unfold ownR; rw [if_neg (by omega)]; rw [if_pos hk])
  have e1 : (r.k == 1) = false := by rw [beq_eq_false_iff_ne]; omega
  have e2 : (r.k == 2) = true := by rw [beq_iff_eq]; omega
  clear h1 hz hk hr
  generalize hkk : r.k = kk at *
  have HKK := Lib.hid hkk
  clear hkk
  go_enter Tryz.func190, Tryz.ntmps190
  go_wp2_with (first
    | (refine part_fetch rfl 45 _ rfl w.heap.size 1 (u8s r.rd) _ rfl (HX.out _) Tryz.underlying45 rfl (sz_rd HR.out) ?_)
    | (refine rt_build rfl _ rfl [(0, .int .i64 kk), (1, .agg (u8s r.rd).toArray)] (by simp only [List.map_toArray, List.map_cons, List.map_nil]; rfl) (rtZ kk r.rd) HBu.out ?_)
    | (refine rt_store_to rfl _ _ rfl (w.heap.size + 2) (rtZ kk r.rd) HZ.out rfl rfl 53 _ (HB3.out _ _) rfl (fun W => OwnWN w W r (rtZ kk r.rd)) (HI.out _ _ rfl) ?_; intro W hW; have hcK := hW.src.cK; rw [HKK.out] at hcK; have HW := Lib.hid hW; clear hW))
  have HD := Lib.hid HW.out.drew
  refine wp_region_held_drew (S := fun W => RtAt W w.heap.size r) (by kernel_rfl) (HD.out.src) (fun hS => ?_)
  refine wpAnyH_take (i := 0) (oi := ⟨some 24, _, _, _, _, _⟩) (v := ?_) rfl (by kernel_rfl) (by kernel_rfl) (by kernel_rfl) (fun _ _ _ h => h) (Or.inl ⟨by rfl, ?_⟩) hS ?_
  rotate_left
  · intro wq hq
    first | (go_simp; done) | (go_simp; rfl)
  try simp only [Act.put, List.setIfInBounds_toArray, List.set_cons_zero, List.set_cons_succ]
  refine wpAnyH_take (i := 1) (oi := ⟨some 25, _, _, _, _, _⟩) rfl (by kernel_rfl) (by kernel_rfl) (by kernel_rfl) (fun _ _ _ h => h) (yieldsIf_load_mid (by rfl) 47 _ rfl _ _ rfl (u8s r.es) _ (fun wq hq => hq.rEs HR.out) Tryz.underlying47 rfl (sz_es HR.out)) hS ?_
  try simp only [Act.put, List.setIfInBounds_toArray, List.set_cons_zero, List.set_cons_succ]
  refine wpAnyH_take (i := 2) (oi := ⟨some 26, _, _, _, _, _⟩) (v := ?_) rfl (by kernel_rfl) (by kernel_rfl) (by kernel_rfl) (fun _ _ _ h => h) (Or.inl ⟨by rfl, ?_⟩) hS ?_
  rotate_left
  · intro wq hq
    first | (go_simp; done) | (go_simp; rfl)
  try simp only [Act.put, List.setIfInBounds_toArray, List.set_cons_zero, List.set_cons_succ]
  refine wpAnyH_take (i := 3) (oi := ⟨some 27, _, _, _, _, _⟩) (v := ?_) rfl (by kernel_rfl) (by kernel_rfl) (by kernel_rfl) (fun _ _ _ h => h) (Or.inl ⟨by rfl, ?_⟩) hS ?_
  rotate_left
  · intro wq hq
    have hc := hq.cTg HR.out
    first | (go_simp; done) | (go_simp; rfl)
  try simp only [Act.put, List.setIfInBounds_toArray, List.set_cons_zero, List.set_cons_succ]
  refine wpAnyH_take (i := 4) (oi := ⟨some 28, _, _, _, _, _⟩) (v := ?_) rfl (by kernel_rfl) (by kernel_rfl) (by kernel_rfl) (fun _ _ _ h => h) (Or.inl ⟨by rfl, ?_⟩) hS ?_
  rotate_left
  · intro wq hq
    first | (go_simp; done) | (go_simp; rfl)
  try simp only [Act.put, List.setIfInBounds_toArray, List.set_cons_zero, List.set_cons_succ]
  refine wpAnyH_take (i := 5) (oi := ⟨some 29, _, _, _, _, _⟩) rfl (by kernel_rfl) (by kernel_rfl) (by kernel_rfl) (fun _ _ _ h => h) (yieldsIf_load_mid (by rfl) 49 _ rfl _ _ rfl (u8s r.mc) _ (fun wq hq => hq.rMc HR.out) Tryz.underlying49 rfl (sz_mc HR.out)) hS ?_
  try simp only [Act.put, List.setIfInBounds_toArray, List.set_cons_zero, List.set_cons_succ]
  refine wpAnyH_take (i := 6) (oi := ⟨some 30, _, _, _, _, _⟩) (v := ?_) rfl (by kernel_rfl) (by kernel_rfl) (by kernel_rfl) (fun _ _ _ h => h) (Or.inl ⟨by rfl, ?_⟩) hS ?_
  rotate_left
  · intro wq hq
    first | (go_simp; done) | (go_simp; rfl)
  try simp only [Act.put, List.setIfInBounds_toArray, List.set_cons_zero, List.set_cons_succ]
  refine wpAnyH_take (i := 7) (oi := ⟨some 31, _, _, _, _, _⟩) rfl (by kernel_rfl) (by kernel_rfl) (by kernel_rfl) (fun _ _ _ h => h) (yieldsIf_load_mid (by rfl) 51 _ rfl _ _ rfl (pfc r.v6 r.pl r.pn) _ (fun wq hq => hq.rPf HR.out) Tryz.underlying51 rfl (sz_pf HR.out)) hS ?_
  try simp only [Act.put, List.setIfInBounds_toArray, List.set_cons_zero, List.set_cons_succ]
  refine wpAnyH_take (i := 8) (oi := ⟨some 32, _, _, _, _, _⟩) (v := ?_) rfl (by kernel_rfl) (by kernel_rfl) (by kernel_rfl) (fun _ _ _ h => h) (Or.inl ⟨by rfl, ?_⟩) hS ?_
  rotate_left
  · intro wq hq
    first | (go_simp; done) | (go_simp; rfl)
  try simp only [Act.put, List.setIfInBounds_toArray, List.set_cons_zero, List.set_cons_succ]
  refine wpAnyH_take (i := 9) (oi := ⟨some 33, _, _, _, _, _⟩) (v := ?_) rfl (by kernel_rfl) (by kernel_rfl) (by kernel_rfl) (fun _ _ _ h => h) (Or.inl ⟨by rfl, ?_⟩) hS ?_
  rotate_left
  · intro wq hq
    have hc := hq.cLb HR.out
    first | (go_simp; done) | (go_simp; rfl)
  try simp only [Act.put, List.setIfInBounds_toArray, List.set_cons_zero, List.set_cons_succ]
  refine wpAnyH_take (i := 10) (oi := ⟨some 34, _, _, _, _, _⟩) (v := ?_) rfl (by kernel_rfl) (by kernel_rfl) (by kernel_rfl) (fun _ _ _ h => h) (Or.inl ⟨by rfl, ?_⟩) hS ?_
  rotate_left
  · intro wq hq
    first | (go_simp; done) | (go_simp; rfl)
  try simp only [Act.put, List.setIfInBounds_toArray, List.set_cons_zero, List.set_cons_succ]
  refine wpAnyH_take (i := 11) (oi := ⟨some 35, _, _, _, _, _⟩) (v := ?_) rfl (by kernel_rfl) (by kernel_rfl) (by kernel_rfl) (fun _ _ _ h => h) (Or.inl ⟨by rfl, ?_⟩) hS ?_
  rotate_left
  · intro wq hq
    have hc := hq.cL2 HR.out
    first | (go_simp; done) | (go_simp; rfl)
  try simp only [Act.put, List.setIfInBounds_toArray, List.set_cons_zero, List.set_cons_succ]
  refine wpAnyH_take (i := 12) (oi := ⟨some 36, _, _, _, _, _⟩) (v := ?_) rfl (by kernel_rfl) (by kernel_rfl) (by kernel_rfl) (fun _ _ _ h => h) (Or.inl ⟨by rfl, ?_⟩) hS ?_
  rotate_left
  · intro wq hq
    first | (go_simp; done) | (go_simp; rfl)
  try simp only [Act.put, List.setIfInBounds_toArray, List.set_cons_zero, List.set_cons_succ]
  refine wpAnyH_ready (rs := [13]) (by kernel_rfl) (by simp) ?_
  refine AllReadyH.cons (o := ⟨none, _, _, _, _, _⟩) rfl (fun K hK => ?_) AllReadyH.nil
  rw [if_pos (by rfl)]
  refine wp_store_listN 47 _ _ rfl (w.heap.size + 2) 9 (u8s r.es) rfl rfl (HD.out.dst.thereAt 9 _ (by simp [HR.out.es, HR.out.mc, HR.out.pl, HR.out.gl])) (sz_es HR.out) (one_u8s _) ?_
  refine hK.out _ _ (HD.out.es.src) (fun hS => ?_)
  clear hK K
  try simp only [Act.put, List.setIfInBounds_toArray, List.set_cons_zero, List.set_cons_succ]
  refine wpAnyH_take (i := 14) (oi := ⟨some 37, _, _, _, _, _⟩) (v := ?_) rfl (by kernel_rfl) (by kernel_rfl) (by kernel_rfl) (fun _ _ _ h => h) (Or.inl ⟨by rfl, ?_⟩) hS ?_
  rotate_left
  · intro wq hq
    first | (go_simp; done) | (go_simp; rfl)
  try simp only [Act.put, List.setIfInBounds_toArray, List.set_cons_zero, List.set_cons_succ]
  refine wpAnyH_ready (rs := [15]) (by kernel_rfl) (by simp) ?_
  refine AllReadyH.cons (o := ⟨none, _, _, _, _, _⟩) rfl (fun K hK => ?_) AllReadyH.nil
  rw [if_pos (by rfl)]
  refine wp_store_int 23 _ _ rfl (w.heap.size + 2) 19 .u32 r.tg rfl rfl (HD.out.es.dst.thereAt 19 1 (by omega)) sz_u32 ?_
  refine hK.out _ _ (HD.out.es.tg.src) (fun hS => ?_)
  clear hK K
  try simp only [Act.put, List.setIfInBounds_toArray, List.set_cons_zero, List.set_cons_succ]
  refine wpAnyH_take (i := 16) (oi := ⟨some 38, _, _, _, _, _⟩) (v := ?_) rfl (by kernel_rfl) (by kernel_rfl) (by kernel_rfl) (fun _ _ _ h => h) (Or.inl ⟨by rfl, ?_⟩) hS ?_
  rotate_left
  · intro wq hq
    first | (go_simp; done) | (go_simp; rfl)
  try simp only [Act.put, List.setIfInBounds_toArray, List.set_cons_zero, List.set_cons_succ]
  refine wpAnyH_ready (rs := [17]) (by kernel_rfl) (by simp) ?_
  refine AllReadyH.cons (o := ⟨none, _, _, _, _, _⟩) rfl (fun K hK => ?_) AllReadyH.nil
  rw [if_pos (by rfl)]
  refine wp_store_listN 49 _ _ rfl (w.heap.size + 2) 20 (u8s r.mc) rfl rfl (HD.out.es.tg.dst.thereAt 20 _ (by simp [HR.out.es, HR.out.mc, HR.out.pl, HR.out.gl])) (sz_mc HR.out) (one_u8s _) ?_
  refine hK.out _ _ (HD.out.es.tg.mc.src) (fun hS => ?_)
  clear hK K
  try simp only [Act.put, List.setIfInBounds_toArray, List.set_cons_zero, List.set_cons_succ]
  refine wpAnyH_take (i := 18) (oi := ⟨some 39, _, _, _, _, _⟩) (v := ?_) rfl (by kernel_rfl) (by kernel_rfl) (by kernel_rfl) (fun _ _ _ h => h) (Or.inl ⟨by rfl, ?_⟩) hS ?_
  rotate_left
  · intro wq hq
    first | (go_simp; done) | (go_simp; rfl)
  try simp only [Act.put, List.setIfInBounds_toArray, List.set_cons_zero, List.set_cons_succ]
  refine wpAnyH_ready (rs := [19]) (by kernel_rfl) (by simp) ?_
  refine AllReadyH.cons (o := ⟨none, _, _, _, _, _⟩) rfl (fun K hK => ?_) AllReadyH.nil
  rw [if_pos (by rfl)]
  refine wp_store_listN 51 _ _ rfl (w.heap.size + 2) 26 (pfc r.v6 r.pl r.pn) rfl rfl (HD.out.es.tg.mc.dst.thereAt 26 _ (by simp [HR.out.es, HR.out.mc, HR.out.pl, HR.out.gl])) (sz_pf HR.out) (one_pfc _ _ _) ?_
  refine hK.out _ _ (HD.out.es.tg.mc.pf.src) (fun hS => ?_)
  clear hK K
  try simp only [Act.put, List.setIfInBounds_toArray, List.set_cons_zero, List.set_cons_succ]
  refine wpAnyH_take (i := 20) (oi := ⟨some 40, _, _, _, _, _⟩) (v := ?_) rfl (by kernel_rfl) (by kernel_rfl) (by kernel_rfl) (fun _ _ _ h => h) (Or.inl ⟨by rfl, ?_⟩) hS ?_
  rotate_left
  · intro wq hq
    first | (go_simp; done) | (go_simp; rfl)
  try simp only [Act.put, List.setIfInBounds_toArray, List.set_cons_zero, List.set_cons_succ]
  refine wpAnyH_ready (rs := [21]) (by kernel_rfl) (by simp) ?_
  refine AllReadyH.cons (o := ⟨none, _, _, _, _, _⟩) rfl (fun K hK => ?_) AllReadyH.nil
  rw [if_pos (by rfl)]
  refine wp_store_int 23 _ _ rfl (w.heap.size + 2) 61 .u32 r.lb rfl rfl (HD.out.es.tg.mc.pf.dst.thereAt 61 1 (by omega)) sz_u32 ?_
  refine hK.out _ _ (HD.out.es.tg.mc.pf.lb.src) (fun hS => ?_)
  clear hK K
  try simp only [Act.put, List.setIfInBounds_toArray, List.set_cons_zero, List.set_cons_succ]
  refine wpAnyH_take (i := 22) (oi := ⟨some 41, _, _, _, _, _⟩) (v := ?_) rfl (by kernel_rfl) (by kernel_rfl) (by kernel_rfl) (fun _ _ _ h => h) (Or.inl ⟨by rfl, ?_⟩) hS ?_
  rotate_left
  · intro wq hq
    first | (go_simp; done) | (go_simp; rfl)
  try simp only [Act.put, List.setIfInBounds_toArray, List.set_cons_zero, List.set_cons_succ]
  refine wpAnyH_ready (rs := [23]) (by kernel_rfl) (by simp) ?_
  refine AllReadyH.cons (o := ⟨none, _, _, _, _, _⟩) rfl (fun K hK => ?_) AllReadyH.nil
  rw [if_pos (by rfl)]
  refine wp_store_int 23 _ _ rfl (w.heap.size + 2) 62 .u32 r.l2 rfl rfl (HD.out.es.tg.mc.pf.lb.dst.thereAt 62 1 (by omega)) sz_u32 ?_
  refine hK.out _ _ (HD.out.es.tg.mc.pf.lb.l2.src) (fun hS => ?_)
  clear hK K
  try simp only [Act.put, List.setIfInBounds_toArray, List.set_cons_zero, List.set_cons_succ]
  refine wpAnyH_done (by kernel_rfl) ?_ _
  have HE := Lib.hid (HD.out.es.tg.mc.pf.lb.l2)
  clear HD HW hS
  generalize hgen : { rtZ kk r.rd with es := r.es, tg := r.tg, mc := r.mc, v6 := r.v6, pl := r.pl, pn := r.pn, lb := r.lb, l2 := r.l2 } = oo at *
  have HO := Lib.hid HE.out.ok
  obtain ⟨Z, hZ, hs⟩ := HE.out.res
  have HZZ := Lib.hid hZ
  have HSS := Lib.hid hs
  clear hZ hs hgen
  go_wp2_with (first
    | (refine rt_fetch rfl _ rfl (w.heap.size + 2) oo HO.out rfl HE.out.dst ?_)
    | (refine rt_store_to rfl _ _ rfl (w.heap.size + 1) oo HO.out rfl rfl 53 Z HZZ.out HSS.out (fun W' => Blk W' (w.heap.size + 1) 53 (rtc oo).toArray ∧ Below w.heap.size w W') ⟨Blk.setRow HZZ.out _, HE.out.low.trans (below_setRow _ _ _ (by omega))⟩ ?_; intro W2 hW2; have HW2 := Lib.hid hW2; clear hW2))
  rw [← HF.out]
  refine bodyPost_ret (v := .agg (rtc oo).toArray) ?_ rfl ⟨rfl, HW2.out.2⟩
  exact results_cell_row rfl _ _ (w.heap.size + 1) 53 _ (0, 0) _ rfl HW2.out.1 Tryz.underlying53 rfl (by rw [rt_size]; simp [rtc_len HO.out])

set_option maxHeartbeats 4000000 in
set_option maxRecDepth 100000 in
theorem own_3 (w : World) (r : Rt) (hr : RtOk r) (hk : r.k = 3) : Calls Tryz.prog 190 #[.agg (rtc r).toArray] w fun e w' => e = .returned (.agg (rtc (ownR r)).toArray) ∧ Below w.heap.size w w' := by
  have h1 := RtAt.new w r hr 53
  have HX := Lib.hid (fun Z => (h1.alloc (.cells Z 53)).rRd)
  have c0 : (rtc r)[0]? = some (.int .i64 r.k) := rfl
  have hz := rtZ_ok r.k r.rd hr.k hr.rd hr.ord
  have HB3 : Hid (∀ Z Z', Blk (((w.alloc (.cells (rtc r).toArray 53)).alloc (.cells Z 53)).alloc (.cells Z' 53)) (w.heap.size + 2) 53 Z') := Lib.hid (fun Z Z' => by
    have := Blk.new ((w.alloc (.cells (rtc r).toArray 53)).alloc (.cells Z 53)) 53 Z'
    simpa using this)
  have HI : Hid (∀ Z Z', Z.size = 63 → OwnWN w ((((w.alloc (.cells (rtc r).toArray 53)).alloc (.cells Z 53)).alloc (.cells Z' 53)).setRow (w.heap.size + 2) (rtc (rtZ r.k r.rd)).toArray) r (rtZ r.k r.rd)) := Lib.hid (fun Z Z' hs => by
    have hb2 : Blk (w.alloc (.cells (rtc r).toArray 53) |>.alloc (.cells Z 53)) (w.heap.size + 1) 53 Z := by simpa using Blk.new (w.alloc (.cells (rtc r).toArray 53)) 53 Z
    refine ⟨((h1.alloc _).alloc _).keep (setRow_other _ _ _ _ (by omega)), ⟨Z, (setRow_other _ _ _ _ (by omega)).trans (hb2.alloc _), hs⟩, RtAt.row (HB3.out Z Z') hz, ?_, hr, hz⟩
    exact ((((Below.refl w.heap.size w).alloc (Nat.le_refl _) _).alloc (by simp) _).alloc (by simp; omega) _).trans (below_setRow _ _ _ (by omega)))
  have HR := Lib.hid hr
  have HZ := Lib.hid hz
  have HBu := Lib.hid (built_rt r.k r.rd hr.rd)
  have HF : Hid ({ rtZ r.k r.rd with tg := r.tg, v6 := r.v6, pl := r.pl, pn := r.pn } = ownR r) := Lib.hid (by unfold ownR; rw [if_neg (by omega)]; rw [if_neg (by omega)]; rw [if_pos hk])
  have e1 : (r.k == 1) = false := by rw [beq_eq_false_iff_ne]; omega
  have e2 : (r.k == 2) = false := by rw [beq_eq_false_iff_ne]; omega
  have e3 : (r.k == 3) = true := by rw [beq_iff_eq]; omega
  clear h1 hz hk hr
  generalize hkk : r.k = kk at *
  have HKK := Lib.hid hkk
  clear hkk
  go_enter Tryz.func190, Tryz.ntmps190
  go_wp2_with (first
    | (refine part_fetch rfl 45 _ rfl w.heap.size 1 (u8s r.rd) _ rfl (HX.out _) Tryz.underlying45 rfl (sz_rd HR.out) ?_)
    | (refine rt_build rfl _ rfl [(0, .int .i64 kk), (1, .agg (u8s r.rd).toArray)] (by simp only [List.map_toArray, List.map_cons, List.map_nil]; rfl) (rtZ kk r.rd) HBu.out ?_)
    | (refine rt_store_to rfl _ _ rfl (w.heap.size + 2) (rtZ kk r.rd) HZ.out rfl rfl 53 _ (HB3.out _ _) rfl (fun W => OwnWN w W r (rtZ kk r.rd)) (HI.out _ _ rfl) ?_; intro W hW; have hcK := hW.src.cK; rw [HKK.out] at hcK; have HW := Lib.hid hW; clear hW))
  have HD := Lib.hid HW.out.drew
  refine wp_region_held_drew (S := fun W => RtAt W w.heap.size r) (by kernel_rfl) (HD.out.src) (fun hS => ?_)
  refine wpAnyH_take (i := 0) (oi := ⟨some 44, _, _, _, _, _⟩) (v := ?_) rfl (by kernel_rfl) (by kernel_rfl) (by kernel_rfl) (fun _ _ _ h => h) (Or.inl ⟨by rfl, ?_⟩) hS ?_
  rotate_left
  · intro wq hq
    first | (go_simp; done) | (go_simp; rfl)
  try simp only [Act.put, List.setIfInBounds_toArray, List.set_cons_zero, List.set_cons_succ]
  refine wpAnyH_take (i := 1) (oi := ⟨some 45, _, _, _, _, _⟩) (v := ?_) rfl (by kernel_rfl) (by kernel_rfl) (by kernel_rfl) (fun _ _ _ h => h) (Or.inl ⟨by rfl, ?_⟩) hS ?_
  rotate_left
  · intro wq hq
    have hc := hq.cTg HR.out
    first | (go_simp; done) | (go_simp; rfl)
  try simp only [Act.put, List.setIfInBounds_toArray, List.set_cons_zero, List.set_cons_succ]
  refine wpAnyH_take (i := 2) (oi := ⟨some 46, _, _, _, _, _⟩) (v := ?_) rfl (by kernel_rfl) (by kernel_rfl) (by kernel_rfl) (fun _ _ _ h => h) (Or.inl ⟨by rfl, ?_⟩) hS ?_
  rotate_left
  · intro wq hq
    first | (go_simp; done) | (go_simp; rfl)
  try simp only [Act.put, List.setIfInBounds_toArray, List.set_cons_zero, List.set_cons_succ]
  refine wpAnyH_take (i := 3) (oi := ⟨some 47, _, _, _, _, _⟩) rfl (by kernel_rfl) (by kernel_rfl) (by kernel_rfl) (fun _ _ _ h => h) (yieldsIf_load_mid (by rfl) 51 _ rfl _ _ rfl (pfc r.v6 r.pl r.pn) _ (fun wq hq => hq.rPf HR.out) Tryz.underlying51 rfl (sz_pf HR.out)) hS ?_
  try simp only [Act.put, List.setIfInBounds_toArray, List.set_cons_zero, List.set_cons_succ]
  refine wpAnyH_take (i := 4) (oi := ⟨some 48, _, _, _, _, _⟩) (v := ?_) rfl (by kernel_rfl) (by kernel_rfl) (by kernel_rfl) (fun _ _ _ h => h) (Or.inl ⟨by rfl, ?_⟩) hS ?_
  rotate_left
  · intro wq hq
    first | (go_simp; done) | (go_simp; rfl)
  try simp only [Act.put, List.setIfInBounds_toArray, List.set_cons_zero, List.set_cons_succ]
  refine wpAnyH_ready (rs := [5]) (by kernel_rfl) (by simp) ?_
  refine AllReadyH.cons (o := ⟨none, _, _, _, _, _⟩) rfl (fun K hK => ?_) AllReadyH.nil
  rw [if_pos (by rfl)]
  refine wp_store_int 23 _ _ rfl (w.heap.size + 2) 19 .u32 r.tg rfl rfl (HD.out.dst.thereAt 19 1 (by omega)) sz_u32 ?_
  refine hK.out _ _ (HD.out.tg.src) (fun hS => ?_)
  clear hK K
  try simp only [Act.put, List.setIfInBounds_toArray, List.set_cons_zero, List.set_cons_succ]
  refine wpAnyH_take (i := 6) (oi := ⟨some 49, _, _, _, _, _⟩) (v := ?_) rfl (by kernel_rfl) (by kernel_rfl) (by kernel_rfl) (fun _ _ _ h => h) (Or.inl ⟨by rfl, ?_⟩) hS ?_
  rotate_left
  · intro wq hq
    first | (go_simp; done) | (go_simp; rfl)
  try simp only [Act.put, List.setIfInBounds_toArray, List.set_cons_zero, List.set_cons_succ]
  refine wpAnyH_ready (rs := [7]) (by kernel_rfl) (by simp) ?_
  refine AllReadyH.cons (o := ⟨none, _, _, _, _, _⟩) rfl (fun K hK => ?_) AllReadyH.nil
  rw [if_pos (by rfl)]
  refine wp_store_listN 51 _ _ rfl (w.heap.size + 2) 26 (pfc r.v6 r.pl r.pn) rfl rfl (HD.out.tg.dst.thereAt 26 _ (by simp [HR.out.es, HR.out.mc, HR.out.pl, HR.out.gl])) (sz_pf HR.out) (one_pfc _ _ _) ?_
  refine hK.out _ _ (HD.out.tg.pf.src) (fun hS => ?_)
  clear hK K
  try simp only [Act.put, List.setIfInBounds_toArray, List.set_cons_zero, List.set_cons_succ]
  refine wpAnyH_done (by kernel_rfl) ?_ _
  have HE := Lib.hid (HD.out.tg.pf)
  clear HD HW hS
  generalize hgen : { rtZ kk r.rd with tg := r.tg, v6 := r.v6, pl := r.pl, pn := r.pn } = oo at *
  have HO := Lib.hid HE.out.ok
  obtain ⟨Z, hZ, hs⟩ := HE.out.res
  have HZZ := Lib.hid hZ
  have HSS := Lib.hid hs
  clear hZ hs hgen
  go_wp2_with (first
    | (refine rt_fetch rfl _ rfl (w.heap.size + 2) oo HO.out rfl HE.out.dst ?_)
    | (refine rt_store_to rfl _ _ rfl (w.heap.size + 1) oo HO.out rfl rfl 53 Z HZZ.out HSS.out (fun W' => Blk W' (w.heap.size + 1) 53 (rtc oo).toArray ∧ Below w.heap.size w W') ⟨Blk.setRow HZZ.out _, HE.out.low.trans (below_setRow _ _ _ (by omega))⟩ ?_; intro W2 hW2; have HW2 := Lib.hid hW2; clear hW2))
  rw [← HF.out]
  refine bodyPost_ret (v := .agg (rtc oo).toArray) ?_ rfl ⟨rfl, HW2.out.2⟩
  exact results_cell_row rfl _ _ (w.heap.size + 1) 53 _ (0, 0) _ rfl HW2.out.1 Tryz.underlying53 rfl (by rw [rt_size]; simp [rtc_len HO.out])

set_option maxHeartbeats 4000000 in
set_option maxRecDepth 100000 in
theorem own_4 (w : World) (r : Rt) (hr : RtOk r) (hk : r.k = 4) : Calls Tryz.prog 190 #[.agg (rtc r).toArray] w fun e w' => e = .returned (.agg (rtc (ownR r)).toArray) ∧ Below w.heap.size w w' := by
  have h1 := RtAt.new w r hr 53
  have HX := Lib.hid (fun Z => (h1.alloc (.cells Z 53)).rRd)
  have c0 : (rtc r)[0]? = some (.int .i64 r.k) := rfl
  have hz := rtZ_ok r.k r.rd hr.k hr.rd hr.ord
  have HB3 : Hid (∀ Z Z', Blk (((w.alloc (.cells (rtc r).toArray 53)).alloc (.cells Z 53)).alloc (.cells Z' 53)) (w.heap.size + 2) 53 Z') := Lib.hid (fun Z Z' => by
    have := Blk.new ((w.alloc (.cells (rtc r).toArray 53)).alloc (.cells Z 53)) 53 Z'
    simpa using this)
  have HI : Hid (∀ Z Z', Z.size = 63 → OwnWN w ((((w.alloc (.cells (rtc r).toArray 53)).alloc (.cells Z 53)).alloc (.cells Z' 53)).setRow (w.heap.size + 2) (rtc (rtZ r.k r.rd)).toArray) r (rtZ r.k r.rd)) := Lib.hid (fun Z Z' hs => by
    have hb2 : Blk (w.alloc (.cells (rtc r).toArray 53) |>.alloc (.cells Z 53)) (w.heap.size + 1) 53 Z := by simpa using Blk.new (w.alloc (.cells (rtc r).toArray 53)) 53 Z
    refine ⟨((h1.alloc _).alloc _).keep (setRow_other _ _ _ _ (by omega)), ⟨Z, (setRow_other _ _ _ _ (by omega)).trans (hb2.alloc _), hs⟩, RtAt.row (HB3.out Z Z') hz, ?_, hr, hz⟩
    exact ((((Below.refl w.heap.size w).alloc (Nat.le_refl _) _).alloc (by simp) _).alloc (by simp; omega) _).trans (below_setRow _ _ _ (by omega)))
  have HR := Lib.hid hr
  have HZ := Lib.hid hz
  have HBu := Lib.hid (built_rt r.k r.rd hr.rd)
  have HF : Hid ({ rtZ r.k r.rd with es := r.es, v6 := r.v6, pl := r.pl, pn := r.pn } = ownR r) := Lib.hid (by unfold ownR; rw [if_neg (by omega)]; rw [if_neg (by omega)]; rw [if_neg (by omega)]; rw [if_pos hk])
  have e1 : (r.k == 1) = false := by rw [beq_eq_false_iff_ne]; omega
  have e2 : (r.k == 2) = false := by rw [beq_eq_false_iff_ne]; omega
  have e3 : (r.k == 3) = false := by rw [beq_eq_false_iff_ne]; omega
  have e4 : (r.k == 4) = true := by rw [beq_iff_eq]; omega
  clear h1 hz hk hr
  generalize hkk : r.k = kk at *
  have HKK := Lib.hid hkk
  clear hkk
  go_enter Tryz.func190, Tryz.ntmps190
  go_wp2_with (first
    | (refine part_fetch rfl 45 _ rfl w.heap.size 1 (u8s r.rd) _ rfl (HX.out _) Tryz.underlying45 rfl (sz_rd HR.out) ?_)
    | (refine rt_build rfl _ rfl [(0, .int .i64 kk), (1, .agg (u8s r.rd).toArray)] (by simp only [List.map_toArray, List.map_cons, List.map_nil]; rfl) (rtZ kk r.rd) HBu.out ?_)
    | (refine rt_store_to rfl _ _ rfl (w.heap.size + 2) (rtZ kk r.rd) HZ.out rfl rfl 53 _ (HB3.out _ _) rfl (fun W => OwnWN w W r (rtZ kk r.rd)) (HI.out _ _ rfl) ?_; intro W hW; have hcK := hW.src.cK; rw [HKK.out] at hcK; have HW := Lib.hid hW; clear hW))
  have HD := Lib.hid HW.out.drew
  refine wp_region_held_drew (S := fun W => RtAt W w.heap.size r) (by kernel_rfl) (HD.out.src) (fun hS => ?_)
  refine wpAnyH_take (i := 0) (oi := ⟨some 52, _, _, _, _, _⟩) (v := ?_) rfl (by kernel_rfl) (by kernel_rfl) (by kernel_rfl) (fun _ _ _ h => h) (Or.inl ⟨by rfl, ?_⟩) hS ?_
  rotate_left
  · intro wq hq
    first | (go_simp; done) | (go_simp; rfl)
  try simp only [Act.put, List.setIfInBounds_toArray, List.set_cons_zero, List.set_cons_succ]
  refine wpAnyH_take (i := 1) (oi := ⟨some 53, _, _, _, _, _⟩) rfl (by kernel_rfl) (by kernel_rfl) (by kernel_rfl) (fun _ _ _ h => h) (yieldsIf_load_mid (by rfl) 47 _ rfl _ _ rfl (u8s r.es) _ (fun wq hq => hq.rEs HR.out) Tryz.underlying47 rfl (sz_es HR.out)) hS ?_
  try simp only [Act.put, List.setIfInBounds_toArray, List.set_cons_zero, List.set_cons_succ]
  refine wpAnyH_take (i := 2) (oi := ⟨some 54, _, _, _, _, _⟩) (v := ?_) rfl (by kernel_rfl) (by kernel_rfl) (by kernel_rfl) (fun _ _ _ h => h) (Or.inl ⟨by rfl, ?_⟩) hS ?_
  rotate_left
  · intro wq hq
    first | (go_simp; done) | (go_simp; rfl)
  try simp only [Act.put, List.setIfInBounds_toArray, List.set_cons_zero, List.set_cons_succ]
  refine wpAnyH_take (i := 3) (oi := ⟨some 55, _, _, _, _, _⟩) rfl (by kernel_rfl) (by kernel_rfl) (by kernel_rfl) (fun _ _ _ h => h) (yieldsIf_load_mid (by rfl) 51 _ rfl _ _ rfl (pfc r.v6 r.pl r.pn) _ (fun wq hq => hq.rPf HR.out) Tryz.underlying51 rfl (sz_pf HR.out)) hS ?_
  try simp only [Act.put, List.setIfInBounds_toArray, List.set_cons_zero, List.set_cons_succ]
  refine wpAnyH_take (i := 4) (oi := ⟨some 56, _, _, _, _, _⟩) (v := ?_) rfl (by kernel_rfl) (by kernel_rfl) (by kernel_rfl) (fun _ _ _ h => h) (Or.inl ⟨by rfl, ?_⟩) hS ?_
  rotate_left
  · intro wq hq
    first | (go_simp; done) | (go_simp; rfl)
  try simp only [Act.put, List.setIfInBounds_toArray, List.set_cons_zero, List.set_cons_succ]
  refine wpAnyH_ready (rs := [5]) (by kernel_rfl) (by simp) ?_
  refine AllReadyH.cons (o := ⟨none, _, _, _, _, _⟩) rfl (fun K hK => ?_) AllReadyH.nil
  rw [if_pos (by rfl)]
  refine wp_store_listN 47 _ _ rfl (w.heap.size + 2) 9 (u8s r.es) rfl rfl (HD.out.dst.thereAt 9 _ (by simp [HR.out.es, HR.out.mc, HR.out.pl, HR.out.gl])) (sz_es HR.out) (one_u8s _) ?_
  refine hK.out _ _ (HD.out.es.src) (fun hS => ?_)
  clear hK K
  try simp only [Act.put, List.setIfInBounds_toArray, List.set_cons_zero, List.set_cons_succ]
  refine wpAnyH_take (i := 6) (oi := ⟨some 57, _, _, _, _, _⟩) (v := ?_) rfl (by kernel_rfl) (by kernel_rfl) (by kernel_rfl) (fun _ _ _ h => h) (Or.inl ⟨by rfl, ?_⟩) hS ?_
  rotate_left
  · intro wq hq
    first | (go_simp; done) | (go_simp; rfl)
  try simp only [Act.put, List.setIfInBounds_toArray, List.set_cons_zero, List.set_cons_succ]
  refine wpAnyH_ready (rs := [7]) (by kernel_rfl) (by simp) ?_
  refine AllReadyH.cons (o := ⟨none, _, _, _, _, _⟩) rfl (fun K hK => ?_) AllReadyH.nil
  rw [if_pos (by rfl)]
  refine wp_store_listN 51 _ _ rfl (w.heap.size + 2) 26 (pfc r.v6 r.pl r.pn) rfl rfl (HD.out.es.dst.thereAt 26 _ (by simp [HR.out.es, HR.out.mc, HR.out.pl, HR.out.gl])) (sz_pf HR.out) (one_pfc _ _ _) ?_
  refine hK.out _ _ (HD.out.es.pf.src) (fun hS => ?_)
  clear hK K
  try simp only [Act.put, List.setIfInBounds_toArray, List.set_cons_zero, List.set_cons_succ]
  refine wpAnyH_done (by kernel_rfl) ?_ _
  have HE := Lib.hid (HD.out.es.pf)
  clear HD HW hS
  generalize hgen : { rtZ kk r.rd with es := r.es, v6 := r.v6, pl := r.pl, pn := r.pn } = oo at *
  have HO := Lib.hid HE.out.ok
  obtain ⟨Z, hZ, hs⟩ := HE.out.res
  have HZZ := Lib.hid hZ
  have HSS := Lib.hid hs
  clear hZ hs hgen
  go_wp2_with (first
    | (refine rt_fetch rfl _ rfl (w.heap.size + 2) oo HO.out rfl HE.out.dst ?_)
    | (refine rt_store_to rfl _ _ rfl (w.heap.size + 1) oo HO.out rfl rfl 53 Z HZZ.out HSS.out (fun W' => Blk W' (w.heap.size + 1) 53 (rtc oo).toArray ∧ Below w.heap.size w W') ⟨Blk.setRow HZZ.out _, HE.out.low.trans (below_setRow _ _ _ (by omega))⟩ ?_; intro W2 hW2; have HW2 := Lib.hid hW2; clear hW2))
  rw [← HF.out]
  refine bodyPost_ret (v := .agg (rtc oo).toArray) ?_ rfl ⟨rfl, HW2.out.2⟩
  exact results_cell_row rfl _ _ (w.heap.size + 1) 53 _ (0, 0) _ rfl HW2.out.1 Tryz.underlying53 rfl (by rw [rt_size]; simp [rtc_len HO.out])

set_option maxHeartbeats 4000000 in
set_option maxRecDepth 100000 in
theorem own_5 (w : World) (r : Rt) (hr : RtOk r) (hk : r.k = 5) : Calls Tryz.prog 190 #[.agg (rtc r).toArray] w fun e w' => e = .returned (.agg (rtc (ownR r)).toArray) ∧ Below w.heap.size w w' := by
  have h1 := RtAt.new w r hr 53
  have HX := Lib.hid (fun Z => (h1.alloc (.cells Z 53)).rRd)
  have c0 : (rtc r)[0]? = some (.int .i64 r.k) := rfl
  have hz := rtZ_ok r.k r.rd hr.k hr.rd hr.ord
  have HB3 : Hid (∀ Z Z', Blk (((w.alloc (.cells (rtc r).toArray 53)).alloc (.cells Z 53)).alloc (.cells Z' 53)) (w.heap.size + 2) 53 Z') := Lib.hid (fun Z Z' => by
    have := Blk.new ((w.alloc (.cells (rtc r).toArray 53)).alloc (.cells Z 53)) 53 Z'
    simpa using this)
  have HI : Hid (∀ Z Z', Z.size = 63 → OwnWN w ((((w.alloc (.cells (rtc r).toArray 53)).alloc (.cells Z 53)).alloc (.cells Z' 53)).setRow (w.heap.size + 2) (rtc (rtZ r.k r.rd)).toArray) r (rtZ r.k r.rd)) := Lib.hid (fun Z Z' hs => by
    have hb2 : Blk (w.alloc (.cells (rtc r).toArray 53) |>.alloc (.cells Z 53)) (w.heap.size + 1) 53 Z := by simpa using Blk.new (w.alloc (.cells (rtc r).toArray 53)) 53 Z
    refine ⟨((h1.alloc _).alloc _).keep (setRow_other _ _ _ _ (by omega)), ⟨Z, (setRow_other _ _ _ _ (by omega)).trans (hb2.alloc _), hs⟩, RtAt.row (HB3.out Z Z') hz, ?_, hr, hz⟩
    exact ((((Below.refl w.heap.size w).alloc (Nat.le_refl _) _).alloc (by simp) _).alloc (by simp; omega) _).trans (below_setRow _ _ _ (by omega)))
  have HR := Lib.hid hr
  have HZ := Lib.hid hz
  have HBu := Lib.hid (built_rt r.k r.rd hr.rd)
  have HF : Hid ({ rtZ r.k r.rd with es := r.es, tg := r.tg, v6 := r.v6, pl := r.pl, pn := r.pn, gv := r.gv, gl := r.gl, lb := r.lb } = ownR r) := Lib.hid (by unfold ownR; rw [if_neg (by omega)]; rw [if_neg (by omega)]; rw [if_neg (by omega)]; rw [if_neg (by omega)]; rw [if_pos hk])
  have e1 : (r.k == 1) = false := by rw [beq_eq_false_iff_ne]; omega
  have e2 : (r.k == 2) = false := by rw [beq_eq_false_iff_ne]; omega
  have e3 : (r.k == 3) = false := by rw [beq_eq_false_iff_ne]; omega
  have e4 : (r.k == 4) = false := by rw [beq_eq_false_iff_ne]; omega
  have e5 : (r.k == 5) = true := by rw [beq_iff_eq]; omega
  clear h1 hz hk hr
  generalize hkk : r.k = kk at *
  have HKK := Lib.hid hkk
  clear hkk
  go_enter Tryz.func190, Tryz.ntmps190
  go_wp2_with (first
    | (refine part_fetch rfl 45 _ rfl w.heap.size 1 (u8s r.rd) _ rfl (HX.out _) Tryz.underlying45 rfl (sz_rd HR.out) ?_)
    | (refine rt_build rfl _ rfl [(0, .int .i64 kk), (1, .agg (u8s r.rd).toArray)] (by simp only [List.map_toArray, List.map_cons, List.map_nil]; rfl) (rtZ kk r.rd) HBu.out ?_)
    | (refine rt_store_to rfl _ _ rfl (w.heap.size + 2) (rtZ kk r.rd) HZ.out rfl rfl 53 _ (HB3.out _ _) rfl (fun W => OwnWN w W r (rtZ kk r.rd)) (HI.out _ _ rfl) ?_; intro W hW; have hcK := hW.src.cK; rw [HKK.out] at hcK; have HW := Lib.hid hW; clear hW))
  have HD := Lib.hid HW.out.drew
  refine wp_region_held_drew (S := fun W => RtAt W w.heap.size r) (by kernel_rfl) (HD.out.src) (fun hS => ?_)
  refine wpAnyH_take (i := 0) (oi := ⟨some 60, _, _, _, _, _⟩) (v := ?_) rfl (by kernel_rfl) (by kernel_rfl) (by kernel_rfl) (fun _ _ _ h => h) (Or.inl ⟨by rfl, ?_⟩) hS ?_
  rotate_left
  · intro wq hq
    first | (go_simp; done) | (go_simp; rfl)
  try simp only [Act.put, List.setIfInBounds_toArray, List.set_cons_zero, List.set_cons_succ]
  refine wpAnyH_take (i := 1) (oi := ⟨some 61, _, _, _, _, _⟩) rfl (by kernel_rfl) (by kernel_rfl) (by kernel_rfl) (fun _ _ _ h => h) (yieldsIf_load_mid (by rfl) 47 _ rfl _ _ rfl (u8s r.es) _ (fun wq hq => hq.rEs HR.out) Tryz.underlying47 rfl (sz_es HR.out)) hS ?_
  try simp only [Act.put, List.setIfInBounds_toArray, List.set_cons_zero, List.set_cons_succ]
  refine wpAnyH_take (i := 2) (oi := ⟨some 62, _, _, _, _, _⟩) (v := ?_) rfl (by kernel_rfl) (by kernel_rfl) (by kernel_rfl) (fun _ _ _ h => h) (Or.inl ⟨by rfl, ?_⟩) hS ?_
  rotate_left
  · intro wq hq
    first | (go_simp; done) | (go_simp; rfl)
  try simp only [Act.put, List.setIfInBounds_toArray, List.set_cons_zero, List.set_cons_succ]
  refine wpAnyH_take (i := 3) (oi := ⟨some 63, _, _, _, _, _⟩) (v := ?_) rfl (by kernel_rfl) (by kernel_rfl) (by kernel_rfl) (fun _ _ _ h => h) (Or.inl ⟨by rfl, ?_⟩) hS ?_
  rotate_left
  · intro wq hq
    have hc := hq.cTg HR.out
    first | (go_simp; done) | (go_simp; rfl)
  try simp only [Act.put, List.setIfInBounds_toArray, List.set_cons_zero, List.set_cons_succ]
  refine wpAnyH_take (i := 4) (oi := ⟨some 64, _, _, _, _, _⟩) (v := ?_) rfl (by kernel_rfl) (by kernel_rfl) (by kernel_rfl) (fun _ _ _ h => h) (Or.inl ⟨by rfl, ?_⟩) hS ?_
  rotate_left
  · intro wq hq
    first | (go_simp; done) | (go_simp; rfl)
  try simp only [Act.put, List.setIfInBounds_toArray, List.set_cons_zero, List.set_cons_succ]
  refine wpAnyH_take (i := 5) (oi := ⟨some 65, _, _, _, _, _⟩) rfl (by kernel_rfl) (by kernel_rfl) (by kernel_rfl) (fun _ _ _ h => h) (yieldsIf_load_mid (by rfl) 51 _ rfl _ _ rfl (pfc r.v6 r.pl r.pn) _ (fun wq hq => hq.rPf HR.out) Tryz.underlying51 rfl (sz_pf HR.out)) hS ?_
  try simp only [Act.put, List.setIfInBounds_toArray, List.set_cons_zero, List.set_cons_succ]
  refine wpAnyH_take (i := 6) (oi := ⟨some 66, _, _, _, _, _⟩) (v := ?_) rfl (by kernel_rfl) (by kernel_rfl) (by kernel_rfl) (fun _ _ _ h => h) (Or.inl ⟨by rfl, ?_⟩) hS ?_
  rotate_left
  · intro wq hq
    first | (go_simp; done) | (go_simp; rfl)
  try simp only [Act.put, List.setIfInBounds_toArray, List.set_cons_zero, List.set_cons_succ]
  refine wpAnyH_take (i := 7) (oi := ⟨some 67, _, _, _, _, _⟩) rfl (by kernel_rfl) (by kernel_rfl) (by kernel_rfl) (fun _ _ _ h => h) (yieldsIf_load_mid (by rfl) 27 _ rfl _ _ rfl (ipc r.gv r.gl) _ (fun wq hq => hq.rGw HR.out) Tryz.underlying27 rfl (sz_gw HR.out)) hS ?_
  try simp only [Act.put, List.setIfInBounds_toArray, List.set_cons_zero, List.set_cons_succ]
  refine wpAnyH_take (i := 8) (oi := ⟨some 68, _, _, _, _, _⟩) (v := ?_) rfl (by kernel_rfl) (by kernel_rfl) (by kernel_rfl) (fun _ _ _ h => h) (Or.inl ⟨by rfl, ?_⟩) hS ?_
  rotate_left
  · intro wq hq
    first | (go_simp; done) | (go_simp; rfl)
  try simp only [Act.put, List.setIfInBounds_toArray, List.set_cons_zero, List.set_cons_succ]
  refine wpAnyH_take (i := 9) (oi := ⟨some 69, _, _, _, _, _⟩) (v := ?_) rfl (by kernel_rfl) (by kernel_rfl) (by kernel_rfl) (fun _ _ _ h => h) (Or.inl ⟨by rfl, ?_⟩) hS ?_
  rotate_left
  · intro wq hq
    have hc := hq.cLb HR.out
    first | (go_simp; done) | (go_simp; rfl)
  try simp only [Act.put, List.setIfInBounds_toArray, List.set_cons_zero, List.set_cons_succ]
  refine wpAnyH_take (i := 10) (oi := ⟨some 70, _, _, _, _, _⟩) (v := ?_) rfl (by kernel_rfl) (by kernel_rfl) (by kernel_rfl) (fun _ _ _ h => h) (Or.inl ⟨by rfl, ?_⟩) hS ?_
  rotate_left
  · intro wq hq
    first | (go_simp; done) | (go_simp; rfl)
  try simp only [Act.put, List.setIfInBounds_toArray, List.set_cons_zero, List.set_cons_succ]
  refine wpAnyH_ready (rs := [11]) (by kernel_rfl) (by simp) ?_
  refine AllReadyH.cons (o := ⟨none, _, _, _, _, _⟩) rfl (fun K hK => ?_) AllReadyH.nil
  rw [if_pos (by rfl)]
  refine wp_store_listN 47 _ _ rfl (w.heap.size + 2) 9 (u8s r.es) rfl rfl (HD.out.dst.thereAt 9 _ (by simp [HR.out.es, HR.out.mc, HR.out.pl, HR.out.gl])) (sz_es HR.out) (one_u8s _) ?_
  refine hK.out _ _ (HD.out.es.src) (fun hS => ?_)
  clear hK K
  try simp only [Act.put, List.setIfInBounds_toArray, List.set_cons_zero, List.set_cons_succ]
  refine wpAnyH_take (i := 12) (oi := ⟨some 71, _, _, _, _, _⟩) (v := ?_) rfl (by kernel_rfl) (by kernel_rfl) (by kernel_rfl) (fun _ _ _ h => h) (Or.inl ⟨by rfl, ?_⟩) hS ?_
  rotate_left
  · intro wq hq
    first | (go_simp; done) | (go_simp; rfl)
  try simp only [Act.put, List.setIfInBounds_toArray, List.set_cons_zero, List.set_cons_succ]
  refine wpAnyH_ready (rs := [13]) (by kernel_rfl) (by simp) ?_
  refine AllReadyH.cons (o := ⟨none, _, _, _, _, _⟩) rfl (fun K hK => ?_) AllReadyH.nil
  rw [if_pos (by rfl)]
  refine wp_store_int 23 _ _ rfl (w.heap.size + 2) 19 .u32 r.tg rfl rfl (HD.out.es.dst.thereAt 19 1 (by omega)) sz_u32 ?_
  refine hK.out _ _ (HD.out.es.tg.src) (fun hS => ?_)
  clear hK K
  try simp only [Act.put, List.setIfInBounds_toArray, List.set_cons_zero, List.set_cons_succ]
  refine wpAnyH_take (i := 14) (oi := ⟨some 72, _, _, _, _, _⟩) (v := ?_) rfl (by kernel_rfl) (by kernel_rfl) (by kernel_rfl) (fun _ _ _ h => h) (Or.inl ⟨by rfl, ?_⟩) hS ?_
  rotate_left
  · intro wq hq
    first | (go_simp; done) | (go_simp; rfl)
  try simp only [Act.put, List.setIfInBounds_toArray, List.set_cons_zero, List.set_cons_succ]
  refine wpAnyH_ready (rs := [15]) (by kernel_rfl) (by simp) ?_
  refine AllReadyH.cons (o := ⟨none, _, _, _, _, _⟩) rfl (fun K hK => ?_) AllReadyH.nil
  rw [if_pos (by rfl)]
  refine wp_store_listN 51 _ _ rfl (w.heap.size + 2) 26 (pfc r.v6 r.pl r.pn) rfl rfl (HD.out.es.tg.dst.thereAt 26 _ (by simp [HR.out.es, HR.out.mc, HR.out.pl, HR.out.gl])) (sz_pf HR.out) (one_pfc _ _ _) ?_
  refine hK.out _ _ (HD.out.es.tg.pf.src) (fun hS => ?_)
  clear hK K
  try simp only [Act.put, List.setIfInBounds_toArray, List.set_cons_zero, List.set_cons_succ]
  refine wpAnyH_take (i := 16) (oi := ⟨some 73, _, _, _, _, _⟩) (v := ?_) rfl (by kernel_rfl) (by kernel_rfl) (by kernel_rfl) (fun _ _ _ h => h) (Or.inl ⟨by rfl, ?_⟩) hS ?_
  rotate_left
  · intro wq hq
    first | (go_simp; done) | (go_simp; rfl)
  try simp only [Act.put, List.setIfInBounds_toArray, List.set_cons_zero, List.set_cons_succ]
  refine wpAnyH_ready (rs := [17]) (by kernel_rfl) (by simp) ?_
  refine AllReadyH.cons (o := ⟨none, _, _, _, _, _⟩) rfl (fun K hK => ?_) AllReadyH.nil
  rw [if_pos (by rfl)]
  refine wp_store_listN 27 _ _ rfl (w.heap.size + 2) 44 (ipc r.gv r.gl) rfl rfl (HD.out.es.tg.pf.dst.thereAt 44 _ (by simp [HR.out.es, HR.out.mc, HR.out.pl, HR.out.gl])) (sz_gw HR.out) (one_ipcN _ _) ?_
  refine hK.out _ _ (HD.out.es.tg.pf.gw.src) (fun hS => ?_)
  clear hK K
  try simp only [Act.put, List.setIfInBounds_toArray, List.set_cons_zero, List.set_cons_succ]
  refine wpAnyH_take (i := 18) (oi := ⟨some 74, _, _, _, _, _⟩) (v := ?_) rfl (by kernel_rfl) (by kernel_rfl) (by kernel_rfl) (fun _ _ _ h => h) (Or.inl ⟨by rfl, ?_⟩) hS ?_
  rotate_left
  · intro wq hq
    first | (go_simp; done) | (go_simp; rfl)
  try simp only [Act.put, List.setIfInBounds_toArray, List.set_cons_zero, List.set_cons_succ]
  refine wpAnyH_ready (rs := [19]) (by kernel_rfl) (by simp) ?_
  refine AllReadyH.cons (o := ⟨none, _, _, _, _, _⟩) rfl (fun K hK => ?_) AllReadyH.nil
  rw [if_pos (by rfl)]
  refine wp_store_int 23 _ _ rfl (w.heap.size + 2) 61 .u32 r.lb rfl rfl (HD.out.es.tg.pf.gw.dst.thereAt 61 1 (by omega)) sz_u32 ?_
  refine hK.out _ _ (HD.out.es.tg.pf.gw.lb.src) (fun hS => ?_)
  clear hK K
  try simp only [Act.put, List.setIfInBounds_toArray, List.set_cons_zero, List.set_cons_succ]
  refine wpAnyH_done (by kernel_rfl) ?_ _
  have HE := Lib.hid (HD.out.es.tg.pf.gw.lb)
  clear HD HW hS
  generalize hgen : { rtZ kk r.rd with es := r.es, tg := r.tg, v6 := r.v6, pl := r.pl, pn := r.pn, gv := r.gv, gl := r.gl, lb := r.lb } = oo at *
  have HO := Lib.hid HE.out.ok
  obtain ⟨Z, hZ, hs⟩ := HE.out.res
  have HZZ := Lib.hid hZ
  have HSS := Lib.hid hs
  clear hZ hs hgen
  go_wp2_with (first
    | (refine rt_fetch rfl _ rfl (w.heap.size + 2) oo HO.out rfl HE.out.dst ?_)
    | (refine rt_store_to rfl _ _ rfl (w.heap.size + 1) oo HO.out rfl rfl 53 Z HZZ.out HSS.out (fun W' => Blk W' (w.heap.size + 1) 53 (rtc oo).toArray ∧ Below w.heap.size w W') ⟨Blk.setRow HZZ.out _, HE.out.low.trans (below_setRow _ _ _ (by omega))⟩ ?_; intro W2 hW2; have HW2 := Lib.hid hW2; clear hW2))
  rw [← HF.out]
  refine bodyPost_ret (v := .agg (rtc oo).toArray) ?_ rfl ⟨rfl, HW2.out.2⟩
  exact results_cell_row rfl _ _ (w.heap.size + 1) 53 _ (0, 0) _ rfl HW2.out.1 Tryz.underlying53 rfl (by rw [rt_size]; simp [rtc_len HO.out])

set_option maxHeartbeats 4000000 in
set_option maxRecDepth 100000 in
theorem own_0 (w : World) (r : Rt) (hr : RtOk r) (hk : ¬ (1 ≤ r.k ∧ r.k ≤ 5)) : Calls Tryz.prog 190 #[.agg (rtc r).toArray] w fun e w' => e = .returned (.agg (rtc (ownR r)).toArray) ∧ Below w.heap.size w w' := by
  have h1 := RtAt.new w r hr 53
  have HX := Lib.hid (fun Z => (h1.alloc (.cells Z 53)).rRd)
  have c0 : (rtc r)[0]? = some (.int .i64 r.k) := rfl
  have hz := rtZ_ok r.k r.rd hr.k hr.rd hr.ord
  have HB3 : Hid (∀ Z Z', Blk (((w.alloc (.cells (rtc r).toArray 53)).alloc (.cells Z 53)).alloc (.cells Z' 53)) (w.heap.size + 2) 53 Z') := Lib.hid (fun Z Z' => by
    have := Blk.new ((w.alloc (.cells (rtc r).toArray 53)).alloc (.cells Z 53)) 53 Z'
    simpa using this)
  have HI : Hid (∀ Z Z', Z.size = 63 → OwnWN w ((((w.alloc (.cells (rtc r).toArray 53)).alloc (.cells Z 53)).alloc (.cells Z' 53)).setRow (w.heap.size + 2) (rtc (rtZ r.k r.rd)).toArray) r (rtZ r.k r.rd)) := Lib.hid (fun Z Z' hs => by
    have hb2 : Blk (w.alloc (.cells (rtc r).toArray 53) |>.alloc (.cells Z 53)) (w.heap.size + 1) 53 Z := by simpa using Blk.new (w.alloc (.cells (rtc r).toArray 53)) 53 Z
    refine ⟨((h1.alloc _).alloc _).keep (setRow_other _ _ _ _ (by omega)), ⟨Z, (setRow_other _ _ _ _ (by omega)).trans (hb2.alloc _), hs⟩, RtAt.row (HB3.out Z Z') hz, ?_, hr, hz⟩
    exact ((((Below.refl w.heap.size w).alloc (Nat.le_refl _) _).alloc (by simp) _).alloc (by simp; omega) _).trans (below_setRow _ _ _ (by omega)))
  have HR := Lib.hid hr
  have HZ := Lib.hid hz
  have HBu := Lib.hid (built_rt r.k r.rd hr.rd)
  have HF : Hid (rtZ r.k r.rd = ownR r) := Lib.hid (by unfold ownR; rw [if_neg (by omega), if_neg (by omega), if_neg (by omega), if_neg (by omega), if_neg (by omega)])
  have e1 : (r.k == 1) = false := by rw [beq_eq_false_iff_ne]; omega
  have e2 : (r.k == 2) = false := by rw [beq_eq_false_iff_ne]; omega
  have e3 : (r.k == 3) = false := by rw [beq_eq_false_iff_ne]; omega
  have e4 : (r.k == 4) = false := by rw [beq_eq_false_iff_ne]; omega
  have e5 : (r.k == 5) = false := by rw [beq_eq_false_iff_ne]; omega
  clear h1 hz hk hr
  generalize hkk : r.k = kk at *
  have HKK := Lib.hid hkk
  clear hkk
  go_enter Tryz.func190, Tryz.ntmps190
  go_wp2_with (first
    | (refine part_fetch rfl 45 _ rfl w.heap.size 1 (u8s r.rd) _ rfl (HX.out _) Tryz.underlying45 rfl (sz_rd HR.out) ?_)
    | (refine rt_build rfl _ rfl [(0, .int .i64 kk), (1, .agg (u8s r.rd).toArray)] (by simp only [List.map_toArray, List.map_cons, List.map_nil]; rfl) (rtZ kk r.rd) HBu.out ?_)
    | (refine rt_store_to rfl _ _ rfl (w.heap.size + 2) (rtZ kk r.rd) HZ.out rfl rfl 53 _ (HB3.out _ _) rfl (fun W => OwnWN w W r (rtZ kk r.rd)) (HI.out _ _ rfl) ?_; intro W hW; have hcK := hW.src.cK; rw [HKK.out] at hcK; have HW := Lib.hid hW; clear hW)
    | (obtain ⟨Z, hZ, hs⟩ := HW.out.res; refine rt_fetch rfl _ rfl (w.heap.size + 2) (rtZ kk r.rd) HZ.out rfl HW.out.dst ?_)
    | (obtain ⟨Z, hZ, hs⟩ := HW.out.res; refine rt_store_to rfl _ _ rfl (w.heap.size + 1) (rtZ kk r.rd) HZ.out rfl rfl 53 Z hZ hs (fun W' => Blk W' (w.heap.size + 1) 53 (rtc (rtZ kk r.rd)).toArray ∧ Below w.heap.size w W') ⟨Blk.setRow hZ _, HW.out.low.trans (below_setRow _ _ _ (by omega))⟩ ?_; intro W2 hW2; clear hZ; have HW2 := Lib.hid hW2; clear hW2))
  rw [← HF.out]
  refine bodyPost_ret (v := .agg (rtc (rtZ kk r.rd)).toArray) ?_ rfl ⟨rfl, HW2.out.2⟩
  exact results_cell_row rfl _ _ (w.heap.size + 1) 53 _ (0, 0) _ rfl HW2.out.1 Tryz.underlying53 rfl (by rw [rt_size]; simp [rtc_len HZ.out])

theorem own_is (w : World) (r : Rt) (hr : RtOk r) : Calls Tryz.prog 190 #[.agg (rtc r).toArray] w fun e w' => e = .returned (.agg (rtc (ownR r)).toArray) ∧ Below w.heap.size w w' := by
  by_cases h1 : r.k = 1
  · exact own_1 w r hr h1
  by_cases h2 : r.k = 2
  · exact own_2 w r hr h2
  by_cases h3 : r.k = 3
  · exact own_3 w r hr h3
  by_cases h4 : r.k = 4
  · exact own_4 w r hr h4
  by_cases h5 : r.k = 5
  · exact own_5 w r hr h5
  exact own_0 w r hr (by omega)
end Go.Proofs.YtdgoeibfggjbmaaGreatDoor
namespace Go.Proofs.YtdgoeibfggjbmaaGreatDoor
open Go.RowKit
set_option maxRecDepth 100000
set_option linter.unusedSimpArgs false
set_option linter.unusedVariables false

theorem isKind_is (w : World) (k : Int) : Calls Tryz.prog 189 #[.int .i64 k] w fun e w' => e = .returned (.bool (decide (1 ≤ k ∧ k ≤ 5))) ∧ w' = w := by
  by_cases h1 : 1 ≤ k
  · by_cases h5 : k ≤ 5
    · rw [show decide (1 ≤ k ∧ k ≤ 5) = true from decide_eq_true ⟨h1, h5⟩]
      go_enter Tryz.func189, Tryz.ntmps189
      go_wp2
      go_ret
      exact ⟨rfl, rfl⟩
    · rw [show decide (1 ≤ k ∧ k ≤ 5) = false from decide_eq_false (fun h => h5 h.2)]
      go_enter Tryz.func189, Tryz.ntmps189
      go_wp2
      go_ret
      exact ⟨rfl, rfl⟩
  · rw [show decide (1 ≤ k ∧ k ≤ 5) = false from decide_eq_false (fun h => h1 h.1)]
    go_enter Tryz.func189, Tryz.ntmps189
    go_wp2
    go_ret
    exact ⟨rfl, rfl⟩

def labelsB (r : Rt) : Bool := decide (r.lb ≤ 16777215) && decide (r.l2 ≤ 16777215)
theorem rtc_at {r : Rt} {pre post : List Value} {v : Value} {o : Nat} (e : rtc r = pre ++ ([v] ++ post)) (ho : pre.length = o) : (rtc r)[o]? = some v := by
  subst ho
  rw [e, List.getElem?_append_right (Nat.le_refl _), Nat.sub_self]
  rfl
theorem labels_is (w : World) (r : Rt) (hr : RtOk r) : Calls Tryz.prog 191 #[.agg (rtc r).toArray] w fun e w' => e = .returned (.bool (labelsB r)) ∧ Below w.heap.size w w' := by
  have c1 := rtc_at (rtc_lb r) (preLb_len hr)
  have c2 := rtc_at (rtc_l2 r) (preL2_len hr)
  unfold labelsB
  by_cases h1 : r.lb ≤ 16777215
  · by_cases h2 : r.l2 ≤ 16777215
    · rw [decide_eq_true h1, decide_eq_true h2]
      go_enter Tryz.func191, Tryz.ntmps191
      go_wp2
      go_ret
      exact ⟨rfl, (Below.refl _ _).alloc (Nat.le_refl _) _⟩
    · rw [decide_eq_true h1, decide_eq_false h2]
      go_enter Tryz.func191, Tryz.ntmps191
      go_wp2
      go_ret
      exact ⟨rfl, (Below.refl _ _).alloc (Nat.le_refl _) _⟩
  · rw [decide_eq_false h1]
    go_enter Tryz.func191, Tryz.ntmps191
    go_wp2
    go_ret
    exact ⟨rfl, (Below.refl _ _).alloc (Nat.le_refl _) _⟩

def wholeB (v : Bool) (l : List Int) (n : Int) : Bool := rightPfB v l n && decide (n = bitsOf v)
theorem pfsz (v : Bool) (l : List Int) (n : Int) (hl : l.length = 16) : (Tryz.prog.info? 51).map (·.size) = some (pfc v l n).length := by rw [pfc_len, hl]; kernel_rfl
set_option maxHeartbeats 1000000 in
theorem whole_is (w : World) (v : Bool) (l : List Int) (n : Int) (hl : l.length = 16) (ho : Oct l) (hn : I64 n) : Calls Tryz.prog 218 #[.agg (pfc v l n).toArray] w fun e w' => e = .returned (.bool (wholeB v l n)) ∧ Below w.heap.size w w' := by
  have HL := Lib.hid hl
  have HC : Hid (∀ W : World, W.rangeAt w.heap.size 0 (pfc v l n) → W.cell? ⟨w.heap.size, 17, none⟩ = some (.int .i64 n)) := Lib.hid (fun W hW => by
    have := (range_post (cs := ipc v l) (ds := [Value.int .i64 n]) hW) 0 _ rfl
    rwa [show 0 + (ipc v l).length + 0 = 17 by simp [hl]] at this)
  have HS0 := Lib.hid (range_drewN (range_new w 51 (pfc v l n)) 1)
  have HB0 := Lib.hid (below_drewN ((Below.refl w.heap.size w).alloc (Nat.le_refl _) (.cells (pfc v l n).toArray 51)) 1)
  have HE : Hid (∀ b, rightPfB v l n = b → wholeB v l n = (b && decide (n = bitsOf v))) := Lib.hid (fun b hb => by unfold wholeB; rw [hb])
  have HPF := Lib.hid (fun W => rpf_is W v l n hl ho hn)
  clear hl ho hn
  go_enter Tryz.func218, Tryz.ntmps218
  go_wp2
  refine wp_region_held_drew (S := fun w' => w'.rangeAt w.heap.size 0 (pfc v l n)) (by kernel_rfl) (HS0.out) (fun hS => ?_)
  refine wpAnyH_take (i := 0) (oi := ⟨some 3, _, _, _, _, _⟩) rfl (by kernel_rfl) (by kernel_rfl) (by kernel_rfl) (fun _ _ _ h => h) (yieldsIf_load_mid (by rfl) 51 _ rfl _ _ rfl (pfc v l n) _ (fun wq hq => hq) Tryz.underlying51 rfl (pfsz v l n HL.out)) hS ?_
  try simp only [Act.put, List.setIfInBounds_toArray, List.set_cons_zero, List.set_cons_succ]
  refine wpAnyH_ready (rs := [1]) (by kernel_rfl) (by simp) ?_
  refine AllReadyH.cons (o := ⟨some 4, _, _, _, _, _⟩) rfl (fun K hK => ?_) AllReadyH.nil
  rw [if_pos (by rfl)]
  go_wp2_with fail
  refine (HPF.out _).mono ?_
  rintro e w1 ⟨rfl, hB⟩
  have hS1 := range_below hS hB (by simp)
  have HB := Lib.hid (HB0.out.trans (hB.mono HB0.out.size))
  have hsz : w.heap.size < w1.heap.size := by have := hB.size; simp at this; omega
  clear hB
  refine hK.out _ _ (hS1) (fun hS => ?_)
  clear hK K
  try simp only [Act.put, List.setIfInBounds_toArray, List.set_cons_zero, List.set_cons_succ]
  refine wpAnyH_take (i := 2) (oi := ⟨some 5, _, _, _, _, _⟩) (v := ?_) rfl (by kernel_rfl) (by kernel_rfl) (by kernel_rfl) (fun _ _ _ h => h) (Or.inl ⟨by rfl, ?_⟩) hS ?_
  rotate_left
  · intro wq hq
    first | (go_simp; done) | (go_simp; rfl)
  try simp only [Act.put, List.setIfInBounds_toArray, List.set_cons_zero, List.set_cons_succ]
  cases hp : rightPfB v l n
  · have HV := Lib.hid (HE.out false hp)
    clear hp
    refine wpAnyH_take (i := 3) (oi := ⟨some 6, _, _, _, _, _⟩) (v := undef) rfl (by kernel_rfl) (by kernel_rfl) (by kernel_rfl) (fun _ _ _ h => h) (Or.inr ⟨by rfl, rfl⟩) hS ?_
    try simp only [Act.put, List.setIfInBounds_toArray, List.set_cons_zero, List.set_cons_succ]
    refine wpAnyH_take (i := 4) (oi := ⟨some 7, _, _, _, _, _⟩) (v := undef) rfl (by kernel_rfl) (by kernel_rfl) (by kernel_rfl) (fun _ _ _ h => h) (Or.inr ⟨by rfl, rfl⟩) hS ?_
    try simp only [Act.put, List.setIfInBounds_toArray, List.set_cons_zero, List.set_cons_succ]
    refine wpAnyH_take (i := 5) (oi := ⟨some 8, _, _, _, _, _⟩) (v := undef) rfl (by kernel_rfl) (by kernel_rfl) (by kernel_rfl) (fun _ _ _ h => h) (Or.inr ⟨by rfl, rfl⟩) hS ?_
    try simp only [Act.put, List.setIfInBounds_toArray, List.set_cons_zero, List.set_cons_succ]
    refine wpAnyH_take (i := 6) (oi := ⟨some 9, _, _, _, _, _⟩) (v := undef) rfl (by kernel_rfl) (by kernel_rfl) (by kernel_rfl) (fun _ _ _ h => h) (Or.inr ⟨by rfl, rfl⟩) hS ?_
    try simp only [Act.put, List.setIfInBounds_toArray, List.set_cons_zero, List.set_cons_succ]
    refine wpAnyH_take (i := 7) (oi := ⟨some 10, _, _, _, _, _⟩) (v := undef) rfl (by kernel_rfl) (by kernel_rfl) (by kernel_rfl) (fun _ _ _ h => h) (Or.inr ⟨by rfl, rfl⟩) hS ?_
    try simp only [Act.put, List.setIfInBounds_toArray, List.set_cons_zero, List.set_cons_succ]
    refine wpAnyH_take (i := 8) (oi := ⟨some 11, _, _, _, _, _⟩) (v := undef) rfl (by kernel_rfl) (by kernel_rfl) (by kernel_rfl) (fun _ _ _ h => h) (Or.inr ⟨by rfl, rfl⟩) hS ?_
    try simp only [Act.put, List.setIfInBounds_toArray, List.set_cons_zero, List.set_cons_succ]
    refine wpAnyH_take (i := 9) (oi := ⟨some 12, _, _, _, _, _⟩) (v := ?_) rfl (by kernel_rfl) (by kernel_rfl) (by kernel_rfl) (fun _ _ _ h => h) (Or.inl ⟨by rfl, ?_⟩) hS ?_
    rotate_left
    · intro wq hq
      first | (go_simp; done) | (go_simp; rfl)
    try simp only [Act.put, List.setIfInBounds_toArray, List.set_cons_zero, List.set_cons_succ]
    refine wpAnyH_take (i := 10) (oi := ⟨some 2, _, _, _, _, _⟩) (v := ?_) rfl (by kernel_rfl) (by kernel_rfl) (by kernel_rfl) (fun _ _ _ h => h) (Or.inl ⟨by rfl, ?_⟩) hS ?_
    rotate_left
    · intro wq hq
      first | (go_simp; done) | (go_simp; rfl)
    try simp only [Act.put, List.setIfInBounds_toArray, List.set_cons_zero, List.set_cons_succ]
    refine wpAnyH_done (by kernel_rfl) ?_ _
    go_wp2
    go_ret
    exact ⟨by rw [HV.out]; rfl, HB.out⟩
  · have HV := Lib.hid (HE.out true hp)
    clear hp
    refine wpAnyH_take (i := 3) (oi := ⟨some 6, _, _, _, _, _⟩) (v := ?_) rfl (by kernel_rfl) (by kernel_rfl) (by kernel_rfl) (fun _ _ _ h => h) (Or.inl ⟨by rfl, ?_⟩) hS ?_
    rotate_left
    · intro wq hq
      first | (go_simp; done) | (go_simp; rfl)
    try simp only [Act.put, List.setIfInBounds_toArray, List.set_cons_zero, List.set_cons_succ]
    refine wpAnyH_take (i := 4) (oi := ⟨some 7, _, _, _, _, _⟩) (v := ?_) rfl (by kernel_rfl) (by kernel_rfl) (by kernel_rfl) (fun _ _ _ h => h) (Or.inl ⟨by rfl, ?_⟩) hS ?_
    rotate_left
    · intro wq hq
      have hc := HC.out _ hq
      first | (go_simp; done) | (go_simp; rfl)
    try simp only [Act.put, List.setIfInBounds_toArray, List.set_cons_zero, List.set_cons_succ]
    refine wpAnyH_take (i := 5) (oi := ⟨some 8, _, _, _, _, _⟩) (v := ?_) rfl (by kernel_rfl) (by kernel_rfl) (by kernel_rfl) (fun _ _ _ h => h) (Or.inl ⟨by rfl, ?_⟩) hS ?_
    rotate_left
    · intro wq hq
      first | (go_simp; done) | (go_simp; rfl)
    try simp only [Act.put, List.setIfInBounds_toArray, List.set_cons_zero, List.set_cons_succ]
    refine wpAnyH_take (i := 6) (oi := ⟨some 9, _, _, _, _, _⟩) rfl (by kernel_rfl) (by kernel_rfl) (by kernel_rfl) (fun _ _ _ h => h) (yieldsIf_load_mid (by rfl) 27 _ rfl _ _ rfl (ipc v l) _ (fun wq hq => range_pre (ds := [Value.int .i64 n]) hq) Tryz.underlying27 rfl (ip_size v l HL.out)) hS ?_
    try simp only [Act.put, List.setIfInBounds_toArray, List.set_cons_zero, List.set_cons_succ]
    refine wpAnyH_ready (rs := [7]) (by kernel_rfl) (by simp) ?_
    refine AllReadyH.cons (o := ⟨some 10, _, _, _, _, _⟩) rfl (fun K hK => ?_) AllReadyH.nil
    rw [if_pos (by rfl)]
    go_wp2_with fail
    refine (bits_is _ v l).mono ?_
    rintro e w2 ⟨rfl, hB2⟩
    have hS2 := range_below hS hB2 hsz
    have HB2 := Lib.hid (HB.out.trans (hB2.mono HB.out.size))
    clear hB2
    refine hK.out _ _ (hS2) (fun hS => ?_)
    clear hK K
    try simp only [Act.put, List.setIfInBounds_toArray, List.set_cons_zero, List.set_cons_succ]
    have hq8 : (n == bitsOf v) = decide (n = bitsOf v) := by rw [Bool.eq_iff_iff]; simp
    generalize decide (n = bitsOf v) = dd at *
    generalize bitsOf v = bb at *
    refine wpAnyH_take (i := 8) (oi := ⟨some 11, _, _, _, _, _⟩) (v := ?_) rfl (by kernel_rfl) (by kernel_rfl) (by kernel_rfl) (fun _ _ _ h => h) (Or.inl ⟨by rfl, ?_⟩) hS ?_
    rotate_left
    · intro wq hq
      first | (go_simp; done) | (go_simp; rfl)
    try simp only [Act.put, List.setIfInBounds_toArray, List.set_cons_zero, List.set_cons_succ]
    refine wpAnyH_take (i := 9) (oi := ⟨some 12, _, _, _, _, _⟩) (v := ?_) rfl (by kernel_rfl) (by kernel_rfl) (by kernel_rfl) (fun _ _ _ h => h) (Or.inl ⟨by rfl, ?_⟩) hS ?_
    rotate_left
    · intro wq hq
      first | (go_simp; done) | (go_simp; rfl)
    try simp only [Act.put, List.setIfInBounds_toArray, List.set_cons_zero, List.set_cons_succ]
    refine wpAnyH_take (i := 10) (oi := ⟨some 2, _, _, _, _, _⟩) (v := ?_) rfl (by kernel_rfl) (by kernel_rfl) (by kernel_rfl) (fun _ _ _ h => h) (Or.inl ⟨by rfl, ?_⟩) hS ?_
    rotate_left
    · intro wq hq
      first | (go_simp; done) | (go_simp; rfl)
    try simp only [Act.put, List.setIfInBounds_toArray, List.set_cons_zero, List.set_cons_succ]
    refine wpAnyH_done (by kernel_rfl) ?_ _
    go_wp2
    go_ret
    exact ⟨by rw [HV.out]; rfl, HB2.out⟩

def zeroPf (r : Rt) : Bool := decide (r.v6 = false ∧ r.pl = z16 ∧ r.pn = 0)
def addrsB (r : Rt) : Bool :=
  if r.k = 2 then zeroPf r || wholeB r.v6 r.pl r.pn
  else if r.k = 3 ∨ r.k = 4 then wholeB r.v6 r.pl r.pn
  else if r.k = 5 then rightPfB r.v6 r.pl r.pn && (rightB r.gv r.gl && decide (r.gv = r.v6))
  else true
theorem built_pf0 : Tryz.prog.built 51 [] = some (pfc false z16 0).toArray := by kernel_rfl
theorem pf_build0 {ops : Array Oper} {rest : List Oper} {o : Oper} {a : Act} {w : World} {Q : Exit → Act → World → Prop} (hgd : o.guard = none) (ho : o.op = .build 51 #[]) (h : wpList Tryz.prog ops Q rest (a.put o.dst (.agg (pfc false z16 0).toArray)) w) : wpList Tryz.prog ops Q (o :: rest) a w := by
  have he : ((#[] : Array (Nat × Operand)).map fun (i, x) => (i, a.eval x)).toList = [] := by simp
  refine wpList_build hgd 51 _ ho (by rw [he, built_pf0]; rfl) ?_
  rw [he, built_pf0]
  exact h
set_option maxHeartbeats 1000000 in
theorem addrs_2z (w : World) (r : Rt) (hr : RtOk r) (hk : r.k = 2) (hz : zeroPf r = true) : Calls Tryz.prog 192 #[.agg (rtc r).toArray] w fun e w' => e = .returned (.bool (addrsB r)) ∧ Below w.heap.size w w' := by
  have h1 := RtAt.new w r hr 53
  have H1 := Lib.hid h1
  have HR := Lib.hid hr
  have c0 : (rtc r)[0]? = some (.int .i64 r.k) := rfl
  have HB0 := Lib.hid ((Below.refl w.heap.size w).alloc (Nat.le_refl _) (.cells (rtc r).toArray 53))
  have HPF := Lib.hid (fun W => rpf_is W r.v6 r.pl r.pn hr.pl hr.opl hr.pn)
  have HWH := Lib.hid (fun W => whole_is W r.v6 r.pl r.pn hr.pl hr.opl hr.pn)
  have HRI := Lib.hid (fun W => right_is W r.gv r.gl hr.gl hr.ogl)
  have e2 : (r.k == 2) = true := by rw [beq_iff_eq]; omega
  have HF : Hid (addrsB r = true) := Lib.hid (by unfold addrsB; rw [if_pos hk, hz]; rfl)
  have HQ : Hid (∀ W, (binOp .eql 51 (.agg (pfc r.v6 r.pl r.pn).toArray) (.agg (pfc false z16 0).toArray)).run Tryz.prog W = .ok (.bool true) W) := Lib.hid (pf_eql _ _ _ _ _ _ hr.pl (by simp [z16]) hr.opl (oct_zeros 16) hr.pn i64_0 _ hz)
  have hQ := HQ.out
  clear hk hz HQ
  clear h1 hr
  generalize hkk : r.k = kk at *
  clear hkk
  go_enter Tryz.func192, Tryz.ntmps192
  go_wp2_with (first
    | (refine part_fetch rfl 51 _ rfl w.heap.size 26 (pfc r.v6 r.pl r.pn) _ rfl (H1.out.rPf HR.out) Tryz.underlying51 rfl (sz_pf HR.out) ?_)
    | (refine pf_build0 rfl rfl ?_))
  go_ret
  exact ⟨by rw [HF.out]; rfl, HB0.out⟩
set_option maxHeartbeats 1000000 in
theorem addrs_2w (w : World) (r : Rt) (hr : RtOk r) (hk : r.k = 2) (hz : zeroPf r = false) : Calls Tryz.prog 192 #[.agg (rtc r).toArray] w fun e w' => e = .returned (.bool (addrsB r)) ∧ Below w.heap.size w w' := by
  have h1 := RtAt.new w r hr 53
  have H1 := Lib.hid h1
  have HR := Lib.hid hr
  have c0 : (rtc r)[0]? = some (.int .i64 r.k) := rfl
  have HB0 := Lib.hid ((Below.refl w.heap.size w).alloc (Nat.le_refl _) (.cells (rtc r).toArray 53))
  have HPF := Lib.hid (fun W => rpf_is W r.v6 r.pl r.pn hr.pl hr.opl hr.pn)
  have HWH := Lib.hid (fun W => whole_is W r.v6 r.pl r.pn hr.pl hr.opl hr.pn)
  have HRI := Lib.hid (fun W => right_is W r.gv r.gl hr.gl hr.ogl)
  have e2 : (r.k == 2) = true := by rw [beq_iff_eq]; omega
  have HF : Hid (addrsB r = wholeB r.v6 r.pl r.pn) := Lib.hid (by unfold addrsB; rw [if_pos hk, hz]; rfl)
  have HQ : Hid (∀ W, (binOp .eql 51 (.agg (pfc r.v6 r.pl r.pn).toArray) (.agg (pfc false z16 0).toArray)).run Tryz.prog W = .ok (.bool false) W) := Lib.hid (pf_eql _ _ _ _ _ _ hr.pl (by simp [z16]) hr.opl (oct_zeros 16) hr.pn i64_0 _ hz)
  have hQ := HQ.out
  clear hk hz HQ
  clear h1 hr
  generalize hkk : r.k = kk at *
  clear hkk
  go_enter Tryz.func192, Tryz.ntmps192
  go_wp2_with (first
    | (refine part_fetch rfl 51 _ rfl w.heap.size 26 (pfc r.v6 r.pl r.pn) _ rfl (H1.out.rPf HR.out) Tryz.underlying51 rfl (sz_pf HR.out) ?_)
    | (refine pf_build0 rfl rfl ?_))
  refine (HWH.out _).mono ?_
  rintro e w1 ⟨rfl, hB⟩
  have HB := Lib.hid (HB0.out.trans (hB.mono HB0.out.size))
  clear hB hQ
  go_wp2
  go_ret
  exact ⟨by rw [HF.out]; rfl, HB.out⟩
set_option maxHeartbeats 1000000 in
theorem addrs_3 (w : World) (r : Rt) (hr : RtOk r) (hk : r.k = 3) : Calls Tryz.prog 192 #[.agg (rtc r).toArray] w fun e w' => e = .returned (.bool (addrsB r)) ∧ Below w.heap.size w w' := by
  have h1 := RtAt.new w r hr 53
  have H1 := Lib.hid h1
  have HR := Lib.hid hr
  have c0 : (rtc r)[0]? = some (.int .i64 r.k) := rfl
  have HB0 := Lib.hid ((Below.refl w.heap.size w).alloc (Nat.le_refl _) (.cells (rtc r).toArray 53))
  have HPF := Lib.hid (fun W => rpf_is W r.v6 r.pl r.pn hr.pl hr.opl hr.pn)
  have HWH := Lib.hid (fun W => whole_is W r.v6 r.pl r.pn hr.pl hr.opl hr.pn)
  have HRI := Lib.hid (fun W => right_is W r.gv r.gl hr.gl hr.ogl)
  have e2 : (r.k == 2) = false := by rw [beq_eq_false_iff_ne]; omega
  have e3 : (r.k == 3) = true := by rw [beq_iff_eq]; omega
  have HF : Hid (addrsB r = wholeB r.v6 r.pl r.pn) := Lib.hid (by unfold addrsB; rw [if_neg (by omega), if_pos (by omega)])
  clear hk
  clear h1 hr
  generalize hkk : r.k = kk at *
  clear hkk
  go_enter Tryz.func192, Tryz.ntmps192
  go_wp2_with (first
    | (refine part_fetch rfl 51 _ rfl w.heap.size 26 (pfc r.v6 r.pl r.pn) _ rfl (H1.out.rPf HR.out) Tryz.underlying51 rfl (sz_pf HR.out) ?_))
  refine (HWH.out _).mono ?_
  rintro e w1 ⟨rfl, hB⟩
  have HB := Lib.hid (HB0.out.trans (hB.mono HB0.out.size))
  clear hB
  go_wp2
  go_ret
  exact ⟨by rw [HF.out]; rfl, HB.out⟩
set_option maxHeartbeats 1000000 in
theorem addrs_4 (w : World) (r : Rt) (hr : RtOk r) (hk : r.k = 4) : Calls Tryz.prog 192 #[.agg (rtc r).toArray] w fun e w' => e = .returned (.bool (addrsB r)) ∧ Below w.heap.size w w' := by
  have h1 := RtAt.new w r hr 53
  have H1 := Lib.hid h1
  have HR := Lib.hid hr
  have c0 : (rtc r)[0]? = some (.int .i64 r.k) := rfl
  have HB0 := Lib.hid ((Below.refl w.heap.size w).alloc (Nat.le_refl _) (.cells (rtc r).toArray 53))
  have HPF := Lib.hid (fun W => rpf_is W r.v6 r.pl r.pn hr.pl hr.opl hr.pn)
  have HWH := Lib.hid (fun W => whole_is W r.v6 r.pl r.pn hr.pl hr.opl hr.pn)
  have HRI := Lib.hid (fun W => right_is W r.gv r.gl hr.gl hr.ogl)
  have e2 : (r.k == 2) = false := by rw [beq_eq_false_iff_ne]; omega
  have e3 : (r.k == 3) = false := by rw [beq_eq_false_iff_ne]; omega
  have e4 : (r.k == 4) = true := by rw [beq_iff_eq]; omega
  have HF : Hid (addrsB r = wholeB r.v6 r.pl r.pn) := Lib.hid (by unfold addrsB; rw [if_neg (by omega), if_pos (by omega)])
  clear hk
  clear h1 hr
  generalize hkk : r.k = kk at *
  clear hkk
  go_enter Tryz.func192, Tryz.ntmps192
  go_wp2_with (first
    | (refine part_fetch rfl 51 _ rfl w.heap.size 26 (pfc r.v6 r.pl r.pn) _ rfl (H1.out.rPf HR.out) Tryz.underlying51 rfl (sz_pf HR.out) ?_))
  refine (HWH.out _).mono ?_
  rintro e w1 ⟨rfl, hB⟩
  have HB := Lib.hid (HB0.out.trans (hB.mono HB0.out.size))
  clear hB
  go_wp2
  go_ret
  exact ⟨by rw [HF.out]; rfl, HB.out⟩
set_option maxHeartbeats 1000000 in
theorem addrs_5 (w : World) (r : Rt) (hr : RtOk r) (hk : r.k = 5) : Calls Tryz.prog 192 #[.agg (rtc r).toArray] w fun e w' => e = .returned (.bool (addrsB r)) ∧ Below w.heap.size w w' := by
  have h1 := RtAt.new w r hr 53
  have H1 := Lib.hid h1
  have HR := Lib.hid hr
  have c0 : (rtc r)[0]? = some (.int .i64 r.k) := rfl
  have HB0 := Lib.hid ((Below.refl w.heap.size w).alloc (Nat.le_refl _) (.cells (rtc r).toArray 53))
  have HPF := Lib.hid (fun W => rpf_is W r.v6 r.pl r.pn hr.pl hr.opl hr.pn)
  have HWH := Lib.hid (fun W => whole_is W r.v6 r.pl r.pn hr.pl hr.opl hr.pn)
  have HRI := Lib.hid (fun W => right_is W r.gv r.gl hr.gl hr.ogl)
  have e2 : (r.k == 2) = false := by rw [beq_eq_false_iff_ne]; omega
  have e3 : (r.k == 3) = false := by rw [beq_eq_false_iff_ne]; omega
  have e4 : (r.k == 4) = false := by rw [beq_eq_false_iff_ne]; omega
  have e5 : (r.k == 5) = true := by rw [beq_iff_eq]; omega
  have HF : Hid (addrsB r = (rightPfB r.v6 r.pl r.pn && (rightB r.gv r.gl && decide (r.gv = r.v6)))) := Lib.hid (by unfold addrsB; rw [if_neg (by omega), if_neg (by omega), if_pos hk])
  clear hk
  clear h1 hr
  generalize hkk : r.k = kk at *
  clear hkk
  go_enter Tryz.func192, Tryz.ntmps192
  go_wp2_with (first
    | (refine part_fetch rfl 51 _ rfl w.heap.size 26 (pfc r.v6 r.pl r.pn) _ rfl (H1.out.rPf HR.out) Tryz.underlying51 rfl (sz_pf HR.out) ?_))
  refine (HPF.out _).mono ?_
  rintro e w1 ⟨rfl, hB⟩
  have HA1 := Lib.hid (H1.out.below hB (by simp))
  have HB := Lib.hid (HB0.out.trans (hB.mono HB0.out.size))
  have hs1 : w.heap.size < w1.heap.size := by have := hB.size; simp at this; omega
  clear hB
  cases hp : rightPfB r.v6 r.pl r.pn
  · rw [hp] at HF
    clear hp
    go_wp2
    go_ret
    exact ⟨by rw [HF.out]; rfl, HB.out⟩
  · rw [hp] at HF
    clear hp
    go_wp2_with (first
      | (refine part_fetch rfl 27 _ rfl w.heap.size 44 (ipc r.gv r.gl) _ rfl (HA1.out.rGw HR.out) Tryz.underlying27 rfl (sz_gw HR.out) ?_))
    refine (HRI.out _).mono ?_
    rintro e w2 ⟨rfl, hB2⟩
    have cg := (HA1.out.below hB2 hs1).cGv HR.out
    have cv := (HA1.out.below hB2 hs1).cV6 HR.out
    have HB2 := Lib.hid (HB.out.trans (hB2.mono HB.out.size))
    clear hB2
    cases hq : rightB r.gv r.gl
    · rw [hq] at HF
      clear hq
      go_wp2
      go_ret
      exact ⟨by rw [HF.out]; rfl, HB2.out⟩
    · rw [hq] at HF
      clear hq
      generalize r.gv = gv at *
      generalize r.v6 = v6 at *
      cases gv <;> cases v6
      all_goals
        go_wp2
        go_ret
        exact ⟨by rw [HF.out]; rfl, HB2.out⟩
set_option maxHeartbeats 1000000 in
theorem addrs_o (w : World) (r : Rt) (hr : RtOk r) (hk : r.k ≠ 2 ∧ r.k ≠ 3 ∧ r.k ≠ 4 ∧ r.k ≠ 5) : Calls Tryz.prog 192 #[.agg (rtc r).toArray] w fun e w' => e = .returned (.bool (addrsB r)) ∧ Below w.heap.size w w' := by
  have h1 := RtAt.new w r hr 53
  have H1 := Lib.hid h1
  have HR := Lib.hid hr
  have c0 : (rtc r)[0]? = some (.int .i64 r.k) := rfl
  have HB0 := Lib.hid ((Below.refl w.heap.size w).alloc (Nat.le_refl _) (.cells (rtc r).toArray 53))
  have HPF := Lib.hid (fun W => rpf_is W r.v6 r.pl r.pn hr.pl hr.opl hr.pn)
  have HWH := Lib.hid (fun W => whole_is W r.v6 r.pl r.pn hr.pl hr.opl hr.pn)
  have HRI := Lib.hid (fun W => right_is W r.gv r.gl hr.gl hr.ogl)
  have e2 : (r.k == 2) = false := by rw [beq_eq_false_iff_ne]; omega
  have e3 : (r.k == 3) = false := by rw [beq_eq_false_iff_ne]; omega
  have e4 : (r.k == 4) = false := by rw [beq_eq_false_iff_ne]; omega
  have e5 : (r.k == 5) = false := by rw [beq_eq_false_iff_ne]; omega
  have HF : Hid (addrsB r = true) := Lib.hid (by unfold addrsB; rw [if_neg (by omega), if_neg (by omega), if_neg (by omega)])
  clear hk
  clear h1 hr
  generalize hkk : r.k = kk at *
  clear hkk
  go_enter Tryz.func192, Tryz.ntmps192
  go_wp2
  go_ret
  exact ⟨by rw [HF.out]; rfl, HB0.out⟩
theorem addrs_is (w : World) (r : Rt) (hr : RtOk r) : Calls Tryz.prog 192 #[.agg (rtc r).toArray] w fun e w' => e = .returned (.bool (addrsB r)) ∧ Below w.heap.size w w' := by
  by_cases h2 : r.k = 2
  · cases hz : zeroPf r
    · exact addrs_2w w r hr h2 hz
    · exact addrs_2z w r hr h2 hz
  by_cases h3 : r.k = 3
  · exact addrs_3 w r hr h3
  by_cases h4 : r.k = 4
  · exact addrs_4 w r hr h4
  by_cases h5 : r.k = 5
  · exact addrs_5 w r hr h5
  exact addrs_o w r hr ⟨h2, h3, h4, h5⟩

def sameR (r s : Rt) : Bool := decide (r.k = s.k ∧ r.rd = s.rd ∧ r.es = s.es ∧ r.tg = s.tg ∧ r.mc = s.mc ∧ r.v6 = s.v6 ∧ r.pl = s.pl ∧ r.pn = s.pn ∧ r.gv = s.gv ∧ r.gl = s.gl ∧ r.lb = s.lb ∧ r.l2 = s.l2)
theorem sameR_iff (r s : Rt) : sameR r s = true ↔ r = s := by
  obtain ⟨k, rd, es, tg, mc, v6, pl, pn, gv, gl, lb, l2⟩ := r
  obtain ⟨k', rd', es', tg', mc', v6', pl', pn', gv', gl', lb', l2'⟩ := s
  simp [sameR]
/-- A route is right. -/
def rightR (r : Rt) : Bool := decide (1 ≤ r.k ∧ r.k ≤ 5) && (sameR r (ownR r) && (labelsB r && addrsB r))
def errR (r : Rt) : Int := if rightR r then 0 else 2
set_option maxHeartbeats 2000000 in
theorem rightRt_is (w : World) (r : Rt) (hr : RtOk r) : Calls Tryz.prog 139 #[.agg (rtc r).toArray] w fun e w' => e = .returned (.int .i64 (errR r)) ∧ Below w.heap.size w w' := by
  have HR := Lib.hid hr
  have HO := Lib.hid (fun W => own_is W r hr)
  have HLb := Lib.hid (fun W => labels_is W r hr)
  have HAd := Lib.hid (fun W => addrs_is W r hr)
  have HQ : Hid (∀ W, (binOp .eql 53 (.agg (rtc r).toArray) (.agg (rtc (ownR r)).toArray)).run Tryz.prog W = .ok (.bool (sameR r (ownR r))) W) := Lib.hid (rt_eql r (ownR r) hr (ownR_ok hr) _ (sameR_iff _ _))
  have HS0 := Lib.hid (show RtAt ((w.alloc (.cells (rtc r).toArray 53)).drewN 1) w.heap.size r from (RtAt.new w r hr 53).keep rfl)
  have HB0 := Lib.hid (below_drewN ((Below.refl w.heap.size w).alloc (Nat.le_refl _) (.cells (rtc r).toArray 53)) 1)
  have HF : Hid (rightR r = (decide (1 ≤ r.k ∧ r.k ≤ 5) && (sameR r (ownR r) && (labelsB r && addrsB r)))) := Lib.hid rfl
  clear hr
  go_enter Tryz.func139, Tryz.ntmps139
  go_wp2
  refine wp_region_held_drew (S := fun W => RtAt W w.heap.size r) (by kernel_rfl) (HS0.out) (fun hS => ?_)
  refine wpAnyH_take (i := 0) (oi := ⟨some 3, _, _, _, _, _⟩) (v := ?_) rfl (by kernel_rfl) (by kernel_rfl) (by kernel_rfl) (fun _ _ _ h => h) (Or.inl ⟨by rfl, ?_⟩) hS ?_
  rotate_left
  · intro wq hq
    first | (go_simp; done) | (go_simp; rfl)
  try simp only [Act.put, List.setIfInBounds_toArray, List.set_cons_zero, List.set_cons_succ]
  refine wpAnyH_take (i := 1) (oi := ⟨some 4, _, _, _, _, _⟩) (v := ?_) rfl (by kernel_rfl) (by kernel_rfl) (by kernel_rfl) (fun _ _ _ h => h) (Or.inl ⟨by rfl, ?_⟩) hS ?_
  rotate_left
  · intro wq hq
    have hc := hq.cK
    first | (go_simp; done) | (go_simp; rfl)
  try simp only [Act.put, List.setIfInBounds_toArray, List.set_cons_zero, List.set_cons_succ]
  refine wpAnyH_ready (rs := [2]) (by kernel_rfl) (by simp) ?_
  refine AllReadyH.cons (o := ⟨some 5, _, _, _, _, _⟩) rfl (fun K hK => ?_) AllReadyH.nil
  rw [if_pos (by rfl)]
  go_wp2_with fail
  refine (isKind_is _ r.k).mono ?_
  rintro e w1 ⟨rfl, rfl⟩
  generalize decide (1 ≤ r.k ∧ r.k ≤ 5) = kb at *
  refine hK.out _ _ (hS) (fun hS => ?_)
  clear hK K
  try simp only [Act.put, List.setIfInBounds_toArray, List.set_cons_zero, List.set_cons_succ]
  refine wpAnyH_take (i := 3) (oi := ⟨some 6, _, _, _, _, _⟩) (v := ?_) rfl (by kernel_rfl) (by kernel_rfl) (by kernel_rfl) (fun _ _ _ h => h) (Or.inl ⟨by rfl, ?_⟩) hS ?_
  rotate_left
  · intro wq hq
    first | (go_simp; done) | (go_simp; rfl)
  try simp only [Act.put, List.setIfInBounds_toArray, List.set_cons_zero, List.set_cons_succ]
  cases kb
  · skip
    refine wpAnyH_take (i := 4) (oi := ⟨some 7, _, _, _, _, _⟩) (v := undef) rfl (by kernel_rfl) (by kernel_rfl) (by kernel_rfl) (fun _ _ _ h => h) (Or.inr ⟨by rfl, rfl⟩) hS ?_
    try simp only [Act.put, List.setIfInBounds_toArray, List.set_cons_zero, List.set_cons_succ]
    refine wpAnyH_take (i := 5) (oi := ⟨some 8, _, _, _, _, _⟩) (v := undef) rfl (by kernel_rfl) (by kernel_rfl) (by kernel_rfl) (fun _ _ _ h => h) (Or.inr ⟨by rfl, rfl⟩) hS ?_
    try simp only [Act.put, List.setIfInBounds_toArray, List.set_cons_zero, List.set_cons_succ]
    refine wpAnyH_take (i := 6) (oi := ⟨some 9, _, _, _, _, _⟩) (v := undef) rfl (by kernel_rfl) (by kernel_rfl) (by kernel_rfl) (fun _ _ _ h => h) (Or.inr ⟨by rfl, rfl⟩) hS ?_
    try simp only [Act.put, List.setIfInBounds_toArray, List.set_cons_zero, List.set_cons_succ]
    refine wpAnyH_take (i := 7) (oi := ⟨some 10, _, _, _, _, _⟩) (v := undef) rfl (by kernel_rfl) (by kernel_rfl) (by kernel_rfl) (fun _ _ _ h => h) (Or.inr ⟨by rfl, rfl⟩) hS ?_
    try simp only [Act.put, List.setIfInBounds_toArray, List.set_cons_zero, List.set_cons_succ]
    refine wpAnyH_take (i := 8) (oi := ⟨some 11, _, _, _, _, _⟩) (v := ?_) rfl (by kernel_rfl) (by kernel_rfl) (by kernel_rfl) (fun _ _ _ h => h) (Or.inl ⟨by rfl, ?_⟩) hS ?_
    rotate_left
    · intro wq hq
      first | (go_simp; done) | (go_simp; rfl)
    try simp only [Act.put, List.setIfInBounds_toArray, List.set_cons_zero, List.set_cons_succ]
    refine wpAnyH_take (i := 9) (oi := ⟨some 12, _, _, _, _, _⟩) (v := ?_) rfl (by kernel_rfl) (by kernel_rfl) (by kernel_rfl) (fun _ _ _ h => h) (Or.inl ⟨by rfl, ?_⟩) hS ?_
    rotate_left
    · intro wq hq
      first | (go_simp; done) | (go_simp; rfl)
    try simp only [Act.put, List.setIfInBounds_toArray, List.set_cons_zero, List.set_cons_succ]
    refine wpAnyH_take (i := 10) (oi := ⟨some 13, _, _, _, _, _⟩) (v := undef) rfl (by kernel_rfl) (by kernel_rfl) (by kernel_rfl) (fun _ _ _ h => h) (Or.inr ⟨by rfl, rfl⟩) hS ?_
    try simp only [Act.put, List.setIfInBounds_toArray, List.set_cons_zero, List.set_cons_succ]
    refine wpAnyH_take (i := 11) (oi := ⟨some 14, _, _, _, _, _⟩) (v := undef) rfl (by kernel_rfl) (by kernel_rfl) (by kernel_rfl) (fun _ _ _ h => h) (Or.inr ⟨by rfl, rfl⟩) hS ?_
    try simp only [Act.put, List.setIfInBounds_toArray, List.set_cons_zero, List.set_cons_succ]
    refine wpAnyH_take (i := 12) (oi := ⟨some 15, _, _, _, _, _⟩) (v := ?_) rfl (by kernel_rfl) (by kernel_rfl) (by kernel_rfl) (fun _ _ _ h => h) (Or.inl ⟨by rfl, ?_⟩) hS ?_
    rotate_left
    · intro wq hq
      first | (go_simp; done) | (go_simp; rfl)
    try simp only [Act.put, List.setIfInBounds_toArray, List.set_cons_zero, List.set_cons_succ]
    refine wpAnyH_take (i := 13) (oi := ⟨some 16, _, _, _, _, _⟩) (v := ?_) rfl (by kernel_rfl) (by kernel_rfl) (by kernel_rfl) (fun _ _ _ h => h) (Or.inl ⟨by rfl, ?_⟩) hS ?_
    rotate_left
    · intro wq hq
      first | (go_simp; done) | (go_simp; rfl)
    try simp only [Act.put, List.setIfInBounds_toArray, List.set_cons_zero, List.set_cons_succ]
    refine wpAnyH_take (i := 14) (oi := ⟨some 17, _, _, _, _, _⟩) (v := undef) rfl (by kernel_rfl) (by kernel_rfl) (by kernel_rfl) (fun _ _ _ h => h) (Or.inr ⟨by rfl, rfl⟩) hS ?_
    try simp only [Act.put, List.setIfInBounds_toArray, List.set_cons_zero, List.set_cons_succ]
    refine wpAnyH_take (i := 15) (oi := ⟨some 18, _, _, _, _, _⟩) (v := undef) rfl (by kernel_rfl) (by kernel_rfl) (by kernel_rfl) (fun _ _ _ h => h) (Or.inr ⟨by rfl, rfl⟩) hS ?_
    try simp only [Act.put, List.setIfInBounds_toArray, List.set_cons_zero, List.set_cons_succ]
    refine wpAnyH_take (i := 16) (oi := ⟨some 19, _, _, _, _, _⟩) (v := ?_) rfl (by kernel_rfl) (by kernel_rfl) (by kernel_rfl) (fun _ _ _ h => h) (Or.inl ⟨by rfl, ?_⟩) hS ?_
    rotate_left
    · intro wq hq
      first | (go_simp; done) | (go_simp; rfl)
    try simp only [Act.put, List.setIfInBounds_toArray, List.set_cons_zero, List.set_cons_succ]
    refine wpAnyH_done (by kernel_rfl) ?_ _
    go_wp2
    go_ret
    exact ⟨by unfold errR; rw [HF.out]; rfl, HB0.out⟩
  refine wpAnyH_take (i := 4) (oi := ⟨some 7, _, _, _, _, _⟩) rfl (by kernel_rfl) (by kernel_rfl) (by kernel_rfl) (fun _ _ _ h => h) (yieldsIf_load_mid (by rfl) 53 _ rfl _ _ rfl (rtc r) _ (fun wq hq => hq.rng) Tryz.underlying53 rfl (by rw [rt_size, rtc_len HR.out])) hS ?_
  try simp only [Act.put, List.setIfInBounds_toArray, List.set_cons_zero, List.set_cons_succ]
  refine wpAnyH_take (i := 5) (oi := ⟨some 8, _, _, _, _, _⟩) rfl (by kernel_rfl) (by kernel_rfl) (by kernel_rfl) (fun _ _ _ h => h) (yieldsIf_load_mid (by rfl) 53 _ rfl _ _ rfl (rtc r) _ (fun wq hq => hq.rng) Tryz.underlying53 rfl (by rw [rt_size, rtc_len HR.out])) hS ?_
  try simp only [Act.put, List.setIfInBounds_toArray, List.set_cons_zero, List.set_cons_succ]
  refine wpAnyH_ready (rs := [6]) (by kernel_rfl) (by simp) ?_
  refine AllReadyH.cons (o := ⟨some 9, _, _, _, _, _⟩) rfl (fun K hK => ?_) AllReadyH.nil
  rw [if_pos (by rfl)]
  go_wp2_with fail
  refine (HO.out _).mono ?_
  rintro e w1 ⟨rfl, hB⟩
  have hS1 := hS.below hB hS.lt
  have HB1 := Lib.hid (HB0.out.trans (hB.mono HB0.out.size))
  clear hB
  refine hK.out _ _ (hS1) (fun hS => ?_)
  clear hK K
  try simp only [Act.put, List.setIfInBounds_toArray, List.set_cons_zero, List.set_cons_succ]
  have hQ := HQ.out
  generalize sameR r (ownR r) = sm at *
  refine wpAnyH_take (i := 7) (oi := ⟨some 10, _, _, _, _, _⟩) (v := ?_) rfl (by kernel_rfl) (by kernel_rfl) (by kernel_rfl) (fun _ _ _ h => h) (Or.inl ⟨by rfl, ?_⟩) hS ?_
  rotate_left
  · intro wq hq
    first | (go_simp; done) | (go_simp; rfl)
  try simp only [Act.put, List.setIfInBounds_toArray, List.set_cons_zero, List.set_cons_succ]
  refine wpAnyH_take (i := 8) (oi := ⟨some 11, _, _, _, _, _⟩) (v := ?_) rfl (by kernel_rfl) (by kernel_rfl) (by kernel_rfl) (fun _ _ _ h => h) (Or.inl ⟨by rfl, ?_⟩) hS ?_
  rotate_left
  · intro wq hq
    first | (go_simp; done) | (go_simp; rfl)
  try simp only [Act.put, List.setIfInBounds_toArray, List.set_cons_zero, List.set_cons_succ]
  refine wpAnyH_take (i := 9) (oi := ⟨some 12, _, _, _, _, _⟩) (v := ?_) rfl (by kernel_rfl) (by kernel_rfl) (by kernel_rfl) (fun _ _ _ h => h) (Or.inl ⟨by rfl, ?_⟩) hS ?_
  rotate_left
  · intro wq hq
    first | (go_simp; done) | (go_simp; rfl)
  try simp only [Act.put, List.setIfInBounds_toArray, List.set_cons_zero, List.set_cons_succ]
  clear hQ
  cases sm
  · skip
    refine wpAnyH_take (i := 10) (oi := ⟨some 13, _, _, _, _, _⟩) (v := undef) rfl (by kernel_rfl) (by kernel_rfl) (by kernel_rfl) (fun _ _ _ h => h) (Or.inr ⟨by rfl, rfl⟩) hS ?_
    try simp only [Act.put, List.setIfInBounds_toArray, List.set_cons_zero, List.set_cons_succ]
    refine wpAnyH_take (i := 11) (oi := ⟨some 14, _, _, _, _, _⟩) (v := undef) rfl (by kernel_rfl) (by kernel_rfl) (by kernel_rfl) (fun _ _ _ h => h) (Or.inr ⟨by rfl, rfl⟩) hS ?_
    try simp only [Act.put, List.setIfInBounds_toArray, List.set_cons_zero, List.set_cons_succ]
    refine wpAnyH_take (i := 12) (oi := ⟨some 15, _, _, _, _, _⟩) (v := ?_) rfl (by kernel_rfl) (by kernel_rfl) (by kernel_rfl) (fun _ _ _ h => h) (Or.inl ⟨by rfl, ?_⟩) hS ?_
    rotate_left
    · intro wq hq
      first | (go_simp; done) | (go_simp; rfl)
    try simp only [Act.put, List.setIfInBounds_toArray, List.set_cons_zero, List.set_cons_succ]
    refine wpAnyH_take (i := 13) (oi := ⟨some 16, _, _, _, _, _⟩) (v := ?_) rfl (by kernel_rfl) (by kernel_rfl) (by kernel_rfl) (fun _ _ _ h => h) (Or.inl ⟨by rfl, ?_⟩) hS ?_
    rotate_left
    · intro wq hq
      first | (go_simp; done) | (go_simp; rfl)
    try simp only [Act.put, List.setIfInBounds_toArray, List.set_cons_zero, List.set_cons_succ]
    refine wpAnyH_take (i := 14) (oi := ⟨some 17, _, _, _, _, _⟩) (v := undef) rfl (by kernel_rfl) (by kernel_rfl) (by kernel_rfl) (fun _ _ _ h => h) (Or.inr ⟨by rfl, rfl⟩) hS ?_
    try simp only [Act.put, List.setIfInBounds_toArray, List.set_cons_zero, List.set_cons_succ]
    refine wpAnyH_take (i := 15) (oi := ⟨some 18, _, _, _, _, _⟩) (v := undef) rfl (by kernel_rfl) (by kernel_rfl) (by kernel_rfl) (fun _ _ _ h => h) (Or.inr ⟨by rfl, rfl⟩) hS ?_
    try simp only [Act.put, List.setIfInBounds_toArray, List.set_cons_zero, List.set_cons_succ]
    refine wpAnyH_take (i := 16) (oi := ⟨some 19, _, _, _, _, _⟩) (v := ?_) rfl (by kernel_rfl) (by kernel_rfl) (by kernel_rfl) (fun _ _ _ h => h) (Or.inl ⟨by rfl, ?_⟩) hS ?_
    rotate_left
    · intro wq hq
      first | (go_simp; done) | (go_simp; rfl)
    try simp only [Act.put, List.setIfInBounds_toArray, List.set_cons_zero, List.set_cons_succ]
    refine wpAnyH_done (by kernel_rfl) ?_ _
    go_wp2
    go_ret
    exact ⟨by unfold errR; rw [HF.out]; rfl, HB1.out⟩
  refine wpAnyH_take (i := 10) (oi := ⟨some 13, _, _, _, _, _⟩) rfl (by kernel_rfl) (by kernel_rfl) (by kernel_rfl) (fun _ _ _ h => h) (yieldsIf_load_mid (by rfl) 53 _ rfl _ _ rfl (rtc r) _ (fun wq hq => hq.rng) Tryz.underlying53 rfl (by rw [rt_size, rtc_len HR.out])) hS ?_
  try simp only [Act.put, List.setIfInBounds_toArray, List.set_cons_zero, List.set_cons_succ]
  refine wpAnyH_ready (rs := [11]) (by kernel_rfl) (by simp) ?_
  refine AllReadyH.cons (o := ⟨some 14, _, _, _, _, _⟩) rfl (fun K hK => ?_) AllReadyH.nil
  rw [if_pos (by rfl)]
  go_wp2_with fail
  refine (HLb.out _).mono ?_
  rintro e w2 ⟨rfl, hB⟩
  have hS2 := hS.below hB hS.lt
  have HB2 := Lib.hid (HB1.out.trans (hB.mono HB1.out.size))
  clear hB
  refine hK.out _ _ (hS2) (fun hS => ?_)
  clear hK K
  try simp only [Act.put, List.setIfInBounds_toArray, List.set_cons_zero, List.set_cons_succ]
  generalize labelsB r = lm at *
  refine wpAnyH_take (i := 12) (oi := ⟨some 15, _, _, _, _, _⟩) (v := ?_) rfl (by kernel_rfl) (by kernel_rfl) (by kernel_rfl) (fun _ _ _ h => h) (Or.inl ⟨by rfl, ?_⟩) hS ?_
  rotate_left
  · intro wq hq
    first | (go_simp; done) | (go_simp; rfl)
  try simp only [Act.put, List.setIfInBounds_toArray, List.set_cons_zero, List.set_cons_succ]
  refine wpAnyH_take (i := 13) (oi := ⟨some 16, _, _, _, _, _⟩) (v := ?_) rfl (by kernel_rfl) (by kernel_rfl) (by kernel_rfl) (fun _ _ _ h => h) (Or.inl ⟨by rfl, ?_⟩) hS ?_
  rotate_left
  · intro wq hq
    first | (go_simp; done) | (go_simp; rfl)
  try simp only [Act.put, List.setIfInBounds_toArray, List.set_cons_zero, List.set_cons_succ]
  cases lm
  · skip
    refine wpAnyH_take (i := 14) (oi := ⟨some 17, _, _, _, _, _⟩) (v := undef) rfl (by kernel_rfl) (by kernel_rfl) (by kernel_rfl) (fun _ _ _ h => h) (Or.inr ⟨by rfl, rfl⟩) hS ?_
    try simp only [Act.put, List.setIfInBounds_toArray, List.set_cons_zero, List.set_cons_succ]
    refine wpAnyH_take (i := 15) (oi := ⟨some 18, _, _, _, _, _⟩) (v := undef) rfl (by kernel_rfl) (by kernel_rfl) (by kernel_rfl) (fun _ _ _ h => h) (Or.inr ⟨by rfl, rfl⟩) hS ?_
    try simp only [Act.put, List.setIfInBounds_toArray, List.set_cons_zero, List.set_cons_succ]
    refine wpAnyH_take (i := 16) (oi := ⟨some 19, _, _, _, _, _⟩) (v := ?_) rfl (by kernel_rfl) (by kernel_rfl) (by kernel_rfl) (fun _ _ _ h => h) (Or.inl ⟨by rfl, ?_⟩) hS ?_
    rotate_left
    · intro wq hq
      first | (go_simp; done) | (go_simp; rfl)
    try simp only [Act.put, List.setIfInBounds_toArray, List.set_cons_zero, List.set_cons_succ]
    refine wpAnyH_done (by kernel_rfl) ?_ _
    go_wp2
    go_ret
    exact ⟨by unfold errR; rw [HF.out]; rfl, HB2.out⟩
  refine wpAnyH_take (i := 14) (oi := ⟨some 17, _, _, _, _, _⟩) rfl (by kernel_rfl) (by kernel_rfl) (by kernel_rfl) (fun _ _ _ h => h) (yieldsIf_load_mid (by rfl) 53 _ rfl _ _ rfl (rtc r) _ (fun wq hq => hq.rng) Tryz.underlying53 rfl (by rw [rt_size, rtc_len HR.out])) hS ?_
  try simp only [Act.put, List.setIfInBounds_toArray, List.set_cons_zero, List.set_cons_succ]
  refine wpAnyH_ready (rs := [15]) (by kernel_rfl) (by simp) ?_
  refine AllReadyH.cons (o := ⟨some 18, _, _, _, _, _⟩) rfl (fun K hK => ?_) AllReadyH.nil
  rw [if_pos (by rfl)]
  go_wp2_with fail
  refine (HAd.out _).mono ?_
  rintro e w3 ⟨rfl, hB⟩
  have hS3 := hS.below hB hS.lt
  have HB3 := Lib.hid (HB2.out.trans (hB.mono HB2.out.size))
  clear hB
  refine hK.out _ _ (hS3) (fun hS => ?_)
  clear hK K
  try simp only [Act.put, List.setIfInBounds_toArray, List.set_cons_zero, List.set_cons_succ]
  generalize addrsB r = am at *
  refine wpAnyH_take (i := 16) (oi := ⟨some 19, _, _, _, _, _⟩) (v := ?_) rfl (by kernel_rfl) (by kernel_rfl) (by kernel_rfl) (fun _ _ _ h => h) (Or.inl ⟨by rfl, ?_⟩) hS ?_
  rotate_left
  · intro wq hq
    first | (go_simp; done) | (go_simp; rfl)
  try simp only [Act.put, List.setIfInBounds_toArray, List.set_cons_zero, List.set_cons_succ]
  refine wpAnyH_done (by kernel_rfl) ?_ _
  cases am
  all_goals
    go_wp2
    go_ret
    exact ⟨by unfold errR; rw [HF.out]; rfl, HB3.out⟩
end Go.Proofs.YtdgoeibfggjbmaaGreatDoor
namespace Go.Proofs.YtdgoeibfggjbmaaGreatDoor
open Go.RowKit
set_option maxRecDepth 100000
set_option linter.unusedSimpArgs false
set_option linter.unusedVariables false

/-- append of bytes that are read, onto bytes of the call's own. -/
theorem app_bsN {ops : Array Oper} {rest : List Oper} {o : Oper} {a : Act} {Q : Exit → Act → World → Prop} (hgd : o.guard = none) (s x : Operand)
    (ho : o.op = .call { callee := .builtin .append, args := #[s, x], argTypes := #[38, 38] }) {lo : Nat} {w : World} {v : Value} {P : List Int} (h : OwnB lo w v P) (hlo : lo ≤ w.heap.size)
    {A : Option Addr} {m c : Nat} {news : List Int} (hr : Rd w w.heap.size A m news) (hlen : P.length + m ≤ 140737488355328) (hs : a.eval s = v) (hx : a.eval x = .slice A m c)
    (hk : ∀ v' w', OwnB lo w' v' (P ++ news) → Below lo w w' → w.grownBy w' v.ownBlock → (∀ i, v.ownBlock = some i → lo ≤ i ∧ ∃ c, w.heap[i]? = some (.cells c 5 (0, 0))) → wpList Tryz.prog ops Q rest (a.put o.dst v') w') :
    wpList Tryz.prog ops Q (o :: rest) a w := by
  obtain ⟨i, hi, hz0, hz1, hz2⟩ := info_parts info_byte
  have hlm := hr.len
  have hold : ∀ i, v.ownBlock = some i → lo ≤ i ∧ ∃ c, w.heap[i]? = some (.cells c 5 (0, 0)) := fun i hi => ⟨(h.own.lt i hi).1, own_heap h.own hi⟩
  cases A with
  | none =>
    have hm0 : m = 0 := by
      rcases Nat.eq_zero_or_pos m with h0 | h0
      · exact h0
      · obtain ⟨_, _, e, _⟩ := hr.at_ h0
        cases e
    subst hm0
    have hn : news = [] := List.eq_nil_of_length_eq_zero hlm
    subst hn
    have hrun : (Builtin.append_ #[38, 38] o.type #[v, .slice none 0 c]).run Tryz.prog w = .ok v w := by
      rcases h.own.2 with ⟨rfl, hn⟩ | ⟨g, cap, cur, rfl, _, _, hnc, _⟩
      · simp [Builtin.append_, run_underlying Tryz.underlying38, sizeOf, typeInfo, hi, Builtin.lenOf, Builtin.firstCells]
      · simp [Builtin.append_, run_underlying Tryz.underlying38, sizeOf, typeInfo, hi, Builtin.lenOf, Builtin.firstCells, hnc, storeCells]
    refine wpList_plain hgd fun _ hK => ?_
    unfold Oper.wp execOp
    simp only [ho, resolve, invoke, builtin, Sem.run_bind, Sem.run_pure, Result.andThen_ok, List.map_toArray, List.map_cons, List.map_nil, hs, hx, hrun]
    exact hK _ _ (hk v w (by rw [List.append_nil]; exact h) (Below.refl _ _) (only_refl _ _) hold)
  | some ad =>
    have hsrc : ∀ j y, (u8s news)[j]? = some y → w.cell? (ad.add j) = some y := by
      rcases Nat.eq_zero_or_pos m with h0 | h0
      · intro j y hy
        have := (List.getElem?_eq_some_iff.1 hy).1
        simp at this
        omega
      · obtain ⟨b, off, e, _, hc⟩ := hr.at_ h0
        injection e with e
        subst e
        exact src_u8 hlm hc
    refine wpList_append_own_at _ hgd s x 38 ho lo 5 i _ 1 1 Tryz.underlying38 hi hz0 hz1 hz2 rfl (by decide) v P.length (u8s P) hs h.own ad m c (u8s news) hx (by simp [hlm]) hsrc (one_u8 news) (by unfold maxLen; omega) (by omega) hlo ?_
    intro v' w' hown hgr _ _
    refine hk v' w' ⟨?_, fun y hy => (List.mem_append.1 hy).elim (h.oct y) (hr.oct y)⟩ ((Below.refl lo w).grown hgr hlo (fun i e => (h.own.lt i e).1)) hgr hold
    rw [List.length_append, hlm, show u8s (P ++ news) = u8s P ++ u8s news from List.map_append]
    exact hown

theorem wpList_app_run {P : Program} {ops : Array Oper} {rest : List Oper} {o : Oper} {a : Act} {w : World} {Q : Exit → Act → World → Prop} (hgd : o.guard = none) (s x : Operand) (t1 t2 : TypeId)
    (ho : o.op = .call { callee := .builtin .append, args := #[s, x], argTypes := #[t1, t2] }) (v y : Value) (hs : a.eval s = v) (hx : a.eval x = y) (v' : Value) (w' : World) (hrun : ∀ ty, (Builtin.append_ #[t1, t2] ty #[v, y]).run P w = .ok v' w')
    (h : wpList P ops Q rest (a.put o.dst v') w') : wpList P ops Q (o :: rest) a w := by
  refine wpList_plain hgd fun _ hK => ?_
  unfold Oper.wp execOp
  simp only [ho, resolve, invoke, builtin, Sem.run_bind, Sem.run_pure, Result.andThen_ok, List.map_toArray, List.map_cons, List.map_nil, hs, hx, hrun]
  exact hK _ _ h
set_option maxHeartbeats 2000000 in
theorem grow_is (w : World) (n : Nat) (hn : n ≤ 140737488355328) : Calls Tryz.prog 99 #[.slice none 0 0, .int .i64 n] w fun e w' => ∃ v, e = .returned v ∧ OwnB w.heap.size w' v [] ∧ Below w.heap.size w w' := by
  rcases Nat.eq_zero_or_pos n with rfl | h0
  · go_enter Tryz.func99, Tryz.ntmps99
    go_wp2
    go_ret
    exact ⟨_, rfl, OwnB.nil_ _ _, Below.refl _ _⟩
  · obtain ⟨i, hi, hz0, hz1, hz2⟩ := info_parts info_byte
    have hrun := fun ty => Lib.run_append_grow_zeros (P := Tryz.prog) w 38 3 ty 5 i _ .i64 .i64 Tryz.underlying38 Tryz.underlying3 hi hz0 none 0 0 [] (run_firstCells_none w.drew i.size 0 0 0) n h0 (by rw [hz1]; decide) (by omega) (by omega) (by rw [hz2]; omega) (growslice_fits (by omega) (by rw [hz2]; omega))
    have hG := grownCap_ge w (0 + n) 0 5
    have hM := grownCap_le_maxLen w (0 + n) 0 5 (by unfold maxLen; omega)
    generalize grownCap w (0 + n) 0 5 = G at *
    simp only [Nat.zero_add] at hrun hG
    have HO : Hid (∃ W, (∀ ty, (Builtin.append_ #[38, 3] ty #[.slice none 0 0, .int .i64 n]).run Tryz.prog w = .ok (.slice (some ⟨w.heap.size, 0, none⟩) n G) W) ∧ OwnB w.heap.size W (.slice (some ⟨w.heap.size, 0, none⟩) 0 G) [] ∧ Below w.heap.size w W) := Lib.hid ⟨_, hrun, ⟨⟨rfl, Or.inr ⟨w.heap.size, G, _, rfl, Nat.le_refl _, Blk.new w.drew 5 _, Nat.zero_le _, hM, by simp [Builtin.zeroCells, Value.cells]; omega, by simp⟩⟩, fun x h => by cases h⟩, below_drewN ((Below.refl _ _).alloc (Nat.le_refl _) _) 1⟩
    clear hrun hi hz0 hz1 hz2
    obtain ⟨W, hrun, hO, hB⟩ := HO.out
    have HOO := Lib.hid hO
    have HBB := Lib.hid hB
    have h1 : ¬ ((n : Int) < 0) := by omega
    have hM2 : G ≤ 9223372036854775807 := by unfold maxLen at hM; omega
    have HRun := Lib.hid hrun
    clear HO hO hB hM hrun
    go_enter Tryz.func99, Tryz.ntmps99
    go_wp2_with (at_builtin; refine wpList_app_run rfl _ _ 38 3 rfl (.slice none 0 0) (.int .i64 n) rfl rfl _ _ HRun.out ?_)
    go_ret
    exact ⟨_, rfl, HOO.out, HBB.out⟩

set_option maxHeartbeats 2000000 in
theorem concat_is (w : World) (A : Option Addr) (n c : Nat) (ls : List (List Int)) (hr : RdL w w.heap.size A n ls) (hn : n ≤ 1000000) (hb : ls.flatten.length ≤ 140737488355328) :
    Calls Tryz.prog 51 #[.slice A n c] w fun e w' => ∃ v, e = .returned v ∧ OwnB w.heap.size w' v ls.flatten ∧ Below w.heap.size w w' := by
  have HR := Lib.hid hr
  have hlen := hr.len
  clear hr
  go_enter Tryz.func51, Tryz.ntmps51
  go_wp2
  go_loop [3, 5, 11] (fun s _ i => ∃ m : Nat, m ≤ n ∧ i = .int .i64 m ∧ s = .int .i64 ((ls.take m).flatten.length : Nat)) (fun _ _ i => n - (intOf i).toNat)
  case atStart => exact ⟨0, Nat.zero_le _, rfl, rfl⟩
  case round =>
    obtain ⟨m, hm, rfl, rfl⟩ := hrel
    by_cases hlt : m < n
    · have hml : m < ls.length := by omega
      obtain ⟨b, off, A1, n1, c1, rfl, x0, hr1⟩ := HR.out.get hml
      have HT := Lib.hid (flat_take ls m hml)
      have h1 := flat_take_le ls (m + 1)
      rw [flat_take ls m hml, List.length_append, hr1.len] at h1
      have HL := Lib.hid hr1.len
      generalize ls[m] = y at *
      generalize (ls.take m).flatten = z at *
      clear hr1
      go_wp2
      refine ⟨⟨m + 1, by omega, by go_num, ?_⟩, by simp [intOf]; omega⟩
      rw [HT.out, List.length_append, HL.out]
      go_num
    · obtain rfl : n = m := by omega
      rw [List.take_of_length_le (by omega)]
      have HFl := Lib.hid (flat_take_le ls)
      have HFt := Lib.hid (flat_take ls)
      have HG := Lib.hid (grow_is w ls.flatten.length hb)
      generalize hT : ls.flatten.length = T at *
      have HTT := Lib.hid hT
      clear hT
      go_wp2_with fail
      refine HG.out.mono ?_
      rintro e w1 ⟨v1, rfl, hO1, hB1⟩
      have HO1 := Lib.hid hO1
      have HB1 := Lib.hid hB1
      clear hO1 hB1
      go_wp2
      go_loopw [6, 8, 27] (fun v _ i wr => ∃ m : Nat, m ≤ n ∧ i = .int .i64 m ∧ OwnB w.heap.size wr v (ls.take m).flatten ∧ Below w.heap.size w wr) (fun _ _ i _ => n - (intOf i).toNat)
      case atStart => exact ⟨0, Nat.zero_le _, rfl, HO1.out, HB1.out⟩
      case round =>
        obtain ⟨m, hm, rfl, ho, hw⟩ := hrel
        by_cases hlt : m < n
        · have hml : m < ls.length := by omega
          obtain ⟨b, off, A1, n1, c1, rfl, x0, hr1⟩ := (HR.out.below hw).get hml
          have HT := Lib.hid (HFt.out m hml)
          have hle : (ls.take m).flatten.length + n1 ≤ 140737488355328 := by
            have h1 := HFl.out (m + 1)
            rw [HFt.out m hml, List.length_append, hr1.len] at h1
            omega
          have HO := Lib.hid ho
          have HW := Lib.hid hw
          have hsz := hw.size
          have HR2 := Lib.hid (hr1.more hw.size)
          generalize ls[m] = y at *
          generalize (ls.take m).flatten = z at *
          clear hr1 ho hw
          go_wp2_with (at_builtin; refine app_bsN rfl _ _ rfl HO.out hsz HR2.out hle rfl rfl ?_)
          intro v' w2 ho2 hb2 _ _
          have HO2 := Lib.hid ho2
          have HB2 := Lib.hid (HW.out.trans hb2)
          clear ho2 hb2
          go_wp2
          exact ⟨⟨m + 1, by omega, by go_num, by rw [HT.out]; exact HO2.out, HB2.out⟩, by simp [intOf]; omega⟩
        · obtain rfl : n = m := by omega
          rw [List.take_of_length_le (by omega)] at ho
          have HO := Lib.hid ho
          have HW := Lib.hid hw
          clear ho hw
          go_wp2
          go_ret
          exact ⟨_, rfl, HO.out, HW.out⟩
end Go.Proofs.YtdgoeibfggjbmaaGreatDoor
namespace Go.Proofs.YtdgoeibfggjbmaaGreatDoor
open Go.RowKit
set_option maxRecDepth 100000
set_option linter.unusedSimpArgs false
set_option linter.unusedVariables false

/-- Bytes that are read, and nothing else has turned. -/
def Bts (w : World) (l : List Int) (e : Ending) (w' : World) : Prop := ∃ A c, e = .returned (.slice A l.length c) ∧ l.length ≤ c ∧ Rd w' w'.heap.size A l.length l ∧ Below w.heap.size w w'
theorem numb_is (w : World) (n : Int) (s : Nat) (hn : U32 n) (h1 : 1 ≤ s) (h8 : s ≤ 8) (hf : n < 256 ^ s) : Calls Tryz.prog 220 #[.int .u32 n, .int .i64 s] w (Bts w (be s n)) := by
  have HP := Lib.hid (put_fits w none 0 0 [] n s (Rd.nil_ none) (by omega) hn.1 (by omega) (by omega) (by omega) (by simpa using hf))
  have hw : n % 18446744073709551616 = n := Int.emod_eq_of_lt hn.1 (by omega)
  clear hf
  go_enter Tryz.func220, Tryz.ntmps220
  go_wp2_with fail
  refine HP.out.mono ?_
  rintro e w1 ⟨rfl, hb, hB⟩
  have hb2 := hb.rd_all (B := w1.heap.size) (fun x hx => be_oct _ _ x (by simpa using hx)) hb.lt
  have HEnd : Hid (Bts w (be s n) (.returned (.slice (some ⟨w.heap.size, 0, none⟩) s s)) w1) := Lib.hid ⟨_, s, by rw [be_len], by rw [be_len]; omega, by simpa [be_len] using hb2, hB⟩
  clear hb hB hb2
  simp only [List.length_nil, Nat.zero_add, Int.toNat_natCast]
  go_wp2
  go_ret
  exact HEnd.out

def nb (v : Bool) : Nat := if v then 16 else 4
set_option maxHeartbeats 1000000 in
theorem address_at (w : World) (v : Bool) (l : List Int) (hl : l.length = 16) (ho : Oct l) : Calls Tryz.prog 221 #[.agg (ipc v l).toArray] w fun e W' => ∃ A, e = .returned (.slice A (nb v) 16) ∧ Rd W' W'.heap.size A (nb v) (l.take (nb v)) ∧ Below w.heap.size w W' := by
  have h0 := range_new w 27 (ipc v l)
  have H0 := Lib.hid h0
  have HL := Lib.hid hl
  have hsl := slice_arr_h (P := Tryz.prog) (t := 25) (e := 5) (n := 16) Tryz.underlying25 (by kernel_rfl) w.heap.size 1 (nb v) (by unfold nb; split <;> omega) (by omega)
  have HEnd : Hid (∀ W, Below w.heap.size w W → W.rangeAt w.heap.size 0 (ipc v l) → w.heap.size < W.heap.size → ∃ A, Value.slice (some ⟨w.heap.size, 1, none⟩) (nb v) 16 = .slice A (nb v) 16 ∧ Rd W W.heap.size A (nb v) (l.take (nb v)) ∧ Below w.heap.size w W) := Lib.hid (fun W hB hW hs => by
    have h := rd_range (pre := [Value.bool v]) (post := []) (l := l) (b := w.heap.size) (B := W.heap.size) (w := W) (by simpa using hW) ho 0 (nb v) (by unfold nb; split <;> omega) hs
    have hlen : (l.take (nb v)).length = nb v := by rw [List.length_take]; unfold nb; split <;> omega
    exact ⟨_, rfl, by simpa using h, hB⟩)
  have HB0 := Lib.hid ((Below.refl w.heap.size w).alloc (Nat.le_refl _) (.cells (ipc v l).toArray 27))
  have hbv : (v = true ∧ nb v = 16 ∧ bitsOf v = 128) ∨ (v = false ∧ nb v = 4 ∧ bitsOf v = 32) := by cases v <;> simp [nb, bitsOf]
  have HBt := Lib.hid (fun W => bits_is W v l)
  clear h0 hl ho
  go_enter Tryz.func221, Tryz.ntmps221
  go_wp2_with (refine ip_fetch rfl _ rfl w.heap.size 0 v l HL.out rfl H0.out ?_)
  refine (HBt.out _).mono ?_
  rintro e w1 ⟨rfl, hB⟩
  have HR1 := Lib.hid (range_below H0.out hB (by simp))
  have hs1 : w.heap.size < w1.heap.size := by have := hB.size; simp at this; omega
  have HB := Lib.hid (HB0.out.trans (hB.mono HB0.out.size))
  clear hB
  have HE2 := Lib.hid (HEnd.out _ HB.out HR1.out hs1)
  clear HEnd
  rcases hbv with ⟨rfl, e1, e2⟩ | ⟨rfl, e1, e2⟩
  · rw [e1] at hsl HE2
    rw [e2]
    have hs2 := hsl 16 rfl
    clear hsl
    go_wp2
    go_ret
    obtain ⟨A, e, h⟩ := HE2.out
    exact ⟨A, congrArg Ending.returned e, h⟩
  · rw [e1] at hsl HE2
    rw [e2]
    have hs2 := hsl 4 rfl
    clear hsl
    go_wp2
    go_ret
    obtain ⟨A, e, h⟩ := HE2.out
    exact ⟨A, congrArg Ending.returned e, h⟩

def sec (n : Int) : List Int := if n = 0 then [] else be 3 n
theorem second_is (w : World) (n : Int) (hn : 0 ≤ n ∧ n ≤ 16777215) : Calls Tryz.prog 222 #[.int .u32 n] w (Bts w (sec n)) := by
  by_cases h0 : n = 0
  · subst h0
    have HEnd : Hid (Bts w (sec 0) (.returned (.slice none 0 0)) w) := Lib.hid ⟨none, 0, rfl, Nat.le_refl _, Rd.nil_ none, Below.refl _ _⟩
    go_enter Tryz.func222, Tryz.ntmps222
    go_wp2
    go_ret
    exact HEnd.out
  · have e0 : (n == 0) = false := by rw [beq_eq_false_iff_ne]; exact h0
    have HN := Lib.hid (numb_is w n 3 ⟨hn.1, by omega⟩ (by omega) (by omega) (by omega))
    have HS : Hid (sec n = be 3 n) := Lib.hid (by unfold sec; rw [if_neg h0])
    clear h0 hn
    go_enter Tryz.func222, Tryz.ntmps222
    go_wp2_with fail
    refine HN.out.mono ?_
    rintro e w1 ⟨A, c, rfl, hc, hr, hB⟩
    have HEnd : Hid (Bts w (sec n) (.returned (.slice A (be 3 n).length c)) w1) := Lib.hid (by rw [HS.out]; exact ⟨A, c, rfl, hc, hr, hB⟩)
    clear hc hr hB
    go_wp2
    go_ret
    exact HEnd.out

/-- Slices of bytes that read as ls. -/
def RdAll (W : World) (B : Nat) : List (Option Addr × Nat × Nat) → List (List Int) → Prop
  | [], [] => True
  | v :: vs, l :: ls => Rd W B v.1 v.2.1 l ∧ RdAll W B vs ls
  | _, _ => False
theorem RdAll.len {W : World} {B : Nat} : ∀ {vs : List (Option Addr × Nat × Nat)} {ls : List (List Int)}, RdAll W B vs ls → vs.length = ls.length
  | [], [], _ => rfl
  | _ :: _, _ :: _, h => by simp [RdAll.len h.2]
  | [], _ :: _, h => h.elim
  | _ :: _, [], h => h.elim
theorem RdAll.get {W : World} {B : Nat} : ∀ {vs : List (Option Addr × Nat × Nat)} {ls : List (List Int)}, RdAll W B vs ls → ∀ i (h : i < ls.length), ∃ A n c, vs[i]? = some (A, n, c) ∧ Rd W B A n ls[i]
  | [], [], _, i, h => by simp at h
  | v :: vs, l :: ls, h, 0, _ => ⟨v.1, v.2.1, v.2.2, rfl, h.1⟩
  | v :: vs, l :: ls, h, i + 1, hi => by
    obtain ⟨A, n, c, h1, h2⟩ := RdAll.get h.2 i (by simpa using hi)
    exact ⟨A, n, c, by simpa using h1, by simpa using h2⟩
  | [], _ :: _, h, _, _ => h.elim
  | _ :: _, [], h, _, _ => h.elim
theorem RdAll.below {W W' : World} {B : Nat} (hb : Below B W W') : ∀ {vs : List (Option Addr × Nat × Nat)} {ls : List (List Int)}, RdAll W B vs ls → RdAll W' B vs ls
  | [], [], _ => trivial
  | _ :: _, _ :: _, h => ⟨h.1.below hb, RdAll.below hb h.2⟩
  | [], _ :: _, h => h.elim
  | _ :: _, [], h => h.elim
theorem RdAll.more {W : World} {B B' : Nat} (hb : B ≤ B') : ∀ {vs : List (Option Addr × Nat × Nat)} {ls : List (List Int)}, RdAll W B vs ls → RdAll W B' vs ls
  | [], [], _ => trivial
  | _ :: _, _ :: _, h => ⟨h.1.more hb, RdAll.more hb h.2⟩
  | [], _ :: _, h => h.elim
  | _ :: _, [], h => h.elim
/-- A new row of them. -/
theorem rdl_new {W : World} {vs : List (Option Addr × Nat × Nat)} {ls : List (List Int)} (h : RdAll W W.heap.size vs ls) (t : TypeId) (cs : Array Value) (hcs : cs = (vs.map fun v => Value.slice v.1 v.2.1 v.2.2).toArray) :
    RdL (W.alloc (.cells cs t)) (W.alloc (.cells cs t)).heap.size (some ⟨W.heap.size, 0, none⟩) ls.length ls := by
  have hb : Below W.heap.size W (W.alloc (.cells cs t)) := (Below.refl _ _).alloc (Nat.le_refl _) _
  have hB := Blk.new W t cs
  refine ⟨rfl, fun _ => ⟨W.heap.size, 0, rfl, by simp, fun i hi => ?_⟩⟩
  obtain ⟨A, n, c, h1, h2⟩ := h.get i hi
  refine ⟨A, n, c, ?_, (h2.below hb).more (by simp)⟩
  rw [Nat.zero_add, hB.cell, hcs]
  simp [h1]
end Go.Proofs.YtdgoeibfggjbmaaGreatDoor
namespace Go.Proofs.YtdgoeibfggjbmaaGreatDoor
open Go.RowKit
set_option maxRecDepth 100000
set_option linter.unusedSimpArgs false
set_option linter.unusedVariables false

/-- A cursor's stand: its place, its first error. -/
abbrev CS := Nat × Int
def nV (l : List Int) (s : CS) (k : Int) : Int := numVal l s.1 s.2 k
def nS (l : List Int) (s : CS) (k : Int) : CS := (numAt l s.1 s.2 k, numErr l s.1 s.2 k)
def tV (l : List Int) (s : CS) (k : Int) : List Int := stepTook l s.1 s.2 k
def tS (l : List Int) (s : CS) (k : Int) : CS := (stepAt l s.1 s.2 k, stepErr l s.1 s.2 k)
abbrev CurS (A0 : Option Addr) (c0 : Nat) (w : World) (g : Nat) (l : List Int) (s : CS) : Prop := IsCurX A0 c0 w g l s.1 s.2
section
variable {A0 : Option Addr} {c0 : Nat}
theorem numS (w : World) (g : Nat) (l : List Int) (s : CS) (k : Int) (h : CurS A0 c0 w g l s) :
    Calls Tryz.prog 113 #[.pointer (some ⟨g, 0, none⟩), .int .i64 k] w fun e w' => e = .returned (.int .u64 (nV l s k)) ∧ CurS A0 c0 w' g l (nS l s k) ∧ w.grownBy w' (some g) := num_isX w g l s.1 s.2 k h
theorem takeS (w : World) (g : Nat) (l : List Int) (s : CS) (k : Int) (h : CurS A0 c0 w g l s) :
    Calls Tryz.prog 114 #[.pointer (some ⟨g, 0, none⟩), .int .i64 k] w fun e w' => ∃ A, e = .returned (.slice A (tV l s k).length (tV l s k).length) ∧ New 5 w w' A (tV l s k).length (tV l s k) ∧ CurS A0 c0 w' g l (tS l s k) ∧ w.grownBy w' (some g) := take_isX w g l s.1 s.2 k h
end
theorem took_oct {l : List Int} (h : Oct l) (at_ : Nat) (err k : Int) : Oct (stepTook l at_ err k) := by
  unfold stepTook
  split
  · exact fun x hx => h x (List.mem_of_mem_drop (List.mem_of_mem_take hx))
  · exact fun x hx => by cases hx
theorem took_le (l : List Int) (at_ : Nat) (err : Int) (k : Nat) : (stepTook l at_ err k).length ≤ k := by
  unfold stepTook
  split
  · simp; omega
  · simp
theorem pow256_le (a b : Nat) (h : a ≤ b) : (256 : Int) ^ a ≤ 256 ^ b := by
  have : (256 : Nat) ^ a ≤ 256 ^ b := Nat.pow_le_pow_right (by omega) h
  exact_mod_cast this
theorem nV_bd {l : List Int} (h : Oct l) (s : CS) (k : Nat) : 0 ≤ nV l s k ∧ nV l s k < 256 ^ k := by
  unfold nV numVal
  split
  · have h1 := numOf_bd _ (took_oct h s.1 s.2 k)
    have h2 := pow256_le _ _ (took_le l s.1 s.2 k)
    omega
  · have : (0 : Int) < 256 ^ k := Int.pow_pos (by omega)
    omega
theorem IsCurX.oct {A0 : Option Addr} {c0 : Nat} {w : World} {g : Nat} {l : List Int} {a : Nat} {e : Int} (h : IsCurX A0 c0 w g l a e) : Oct l := by
  obtain ⟨_, _, _, h1, _⟩ := h.ex
  exact h1.oct

section
variable {A0 : Option Addr} {c0 : Nat}
theorem label_is (w : World) (g : Nat) (l : List Int) (s : CS) (h : CurS A0 c0 w g l s) :
    Calls Tryz.prog 236 #[.pointer (some ⟨g, 0, none⟩)] w fun e w' => e = .returned (.int .u32 (nV l s 3)) ∧ CurS A0 c0 w' g l (nS l s 3) ∧ w.grownBy w' (some g) := by
  have hb := nV_bd h.oct s 3
  have HN := Lib.hid (numS w g l s 3 h)
  have hb : 0 ≤ nV l s 3 ∧ nV l s 3 < 16777216 := hb
  clear h
  generalize nV l s 3 = x at *
  obtain ⟨hb0, hb1⟩ := hb
  go_enter Tryz.func236, Tryz.ntmps236
  go_wp2_with fail
  refine HN.out.mono ?_
  rintro e w1 ⟨rfl, hc, hg⟩
  have HC := Lib.hid hc
  have HG := Lib.hid hg
  clear hc hg
  go_wp2
  go_ret
  exact ⟨rfl, HC.out, HG.out⟩
end

/-- Bytes, and zeros behind them. -/
def pad (xs : List Int) : List Int := xs ++ List.replicate (16 - xs.length) 0
theorem pad_len {xs : List Int} (h : xs.length ≤ 16) : (pad xs).length = 16 := by simp [pad]; omega
theorem pad_oct {xs : List Int} (h : Oct xs) : Oct (pad xs) := fun x hx => by
  rcases List.mem_append.1 hx with hx | hx
  · exact h x hx
  · rw [List.eq_of_mem_replicate hx]; omega
theorem nb_le (v : Bool) : nb v ≤ 16 := by cases v <;> simp [nb]
theorem copy_row {P : Program} (w : World) (dT sT ty elem : TypeId) (hu : P.underlying dT = some (.slice elem)) (hsz : (P.info? elem).map (·.size) = some 1) (dp sp : Option Addr) (dLen dCap sLen sCap : Nat)
    (g off : Nat) (cur : List Value) (t : TypeId) (hg : w.heap[g]? = some (.cells cur.toArray t (0, 0))) (cs : List Value) (hn : cs.length = Nat.min sLen dLen)
    (hpos : 0 < cs.length → dp = some ⟨g, off, none⟩ ∧ ∃ ad, sp = some ad ∧ ∀ j v, cs[j]? = some v → w.cell? (ad.add j) = some v)
    (hfit : off + cs.length ≤ cur.length) (h1 : ∀ v ∈ cs, v.oneCell' = true) :
    ∃ w', (Builtin.copy_ #[dT, sT] ty #[.slice dp dLen dCap, .slice sp sLen sCap]).run P w = .ok (.int .i64 cs.length) w' ∧ w'.heap[g]? = some (.cells (cur.take off ++ cs ++ cur.drop (off + cs.length)).toArray t (0, 0)) ∧ Below g w w' ∧ w.grownBy w' (some g) := by
  by_cases h0 : cs.length = 0
  · obtain rfl : cs = [] := List.eq_nil_of_length_eq_zero h0
    refine ⟨w, run_copy_none (P := P) w dT sT ty elem dp sp dLen dCap sLen sCap hu hsz (by simpa using hn.symm), ?_, Below.refl _ _, only_refl _ _⟩
    simpa using hg
  · obtain ⟨rfl, ad, rfl, hsrc⟩ := hpos (by omega)
    refine ⟨_, run_copy_row (P := P) w dT sT ty elem g off dLen dCap ad sLen sCap cur.toArray t cs hu hsz hg hn hsrc (by simpa using hfit) h1, ?_, below_setRow _ _ _ (Nat.le_refl _), ?_⟩
    · rw [setRow_heap w g _ _ t _ hg]
    · have := below_setRow w g (cur.toArray.toList.take off ++ cs ++ cur.toArray.toList.drop (off + cs.length)).toArray (Nat.le_refl g)
      exact ⟨this.os, this.tape, this.output, this.size, fun i hi hne => setRow_other _ _ _ _ (fun e => hne (by rw [e]))⟩
theorem bl_one (W : World) (o : Obj) : Below W.heap.size W (W.alloc o) := (Below.refl _ _).alloc (Nat.le_refl _) _
theorem bl_drew (W : World) : Below W.heap.size W W.drew := below_drewN (Below.refl _ _) 1
theorem only_setRow {a w : World} {row : Option Nat} {g : Nat} (h : a.grownBy w row) (hp : a.heap.size ≤ g) (cs : Array Value) : a.grownBy (w.setRow g cs) row := by
  have hb := below_setRow w g cs (Nat.le_refl g)
  exact ⟨hb.os.trans h.os, hb.tape.trans h.tape, hb.output.trans h.output, Nat.le_trans h.size hb.size, fun i hi hne => (hb.block i (by omega)).trans (h.block i hi hne)⟩
theorem only_setCellsN {a w : World} {row : Option Nat} {g : Nat} (h : a.grownBy w row) (hp : a.heap.size ≤ g) (cs : List Value) (o : Nat) : a.grownBy (w.setCells g o cs) row := by
  have hb := below_cells (a := w) (B := g) (Nat.le_refl g) cs o w (Below.refl _ _)
  exact ⟨hb.os.trans h.os, hb.tape.trans h.tape, hb.output.trans h.output, Nat.le_trans h.size hb.size, fun i hi hne => (hb.block i (by omega)).trans (h.block i hi hne)⟩
theorem only_then {a b w : World} {B : Nat} {row : Option Nat} (h : a.grownBy b row) (hB : Below B b w) (hB2 : a.heap.size ≤ B) : a.grownBy w row :=
  ⟨hB.os.trans h.os, hB.tape.trans h.tape, hB.output.trans h.output, Nat.le_trans h.size hB.size, fun i hi hne => (hB.block i (by omega)).trans (h.block i hi hne)⟩
theorem IsCurX.above {A0 : Option Addr} {c0 : Nat} {w w' : World} {g B : Nat} {l : List Int} {a : Nat} {e : Int} (h : IsCurX A0 c0 w g l a e) (hk : Below B w w') (hg : g < B) : IsCurX A0 c0 w' g l a e := h.keep (hk.mono hg)
theorem blk_range {w : World} {g : Nat} {t : TypeId} {cs : List Value} (h : Blk w g t cs.toArray) : w.rangeAt g 0 cs := fun j v hv => by
  rw [Nat.zero_add, h.cell]
  simpa using hv

theorem built_ip1 (v : Bool) : Tryz.prog.built 27 [(0, .bool v)] = some (ipc v z16).toArray := by cases v <;> kernel_rfl
theorem ip_build1 {ops : Array Oper} {rest : List Oper} {o : Oper} {a : Act} {w : World} {Q : Exit → Act → World → Prop} (hg : o.guard = none) (x : Operand) (ho : o.op = .build 27 #[(0, x)]) (v : Bool) (hx : a.eval x = .bool v)
    (h : wpList Tryz.prog ops Q rest (a.put o.dst (.agg (ipc v z16).toArray)) w) : wpList Tryz.prog ops Q (o :: rest) a w := by
  have hb := built_ip1 v
  have he : (#[(0, x)].map fun (i, x) => (i, a.eval x)).toList = [(0, .bool v)] := by simp [hx]
  refine wpList_build hg 27 _ ho (by rw [he, hb]; rfl) ?_
  rw [he, hb]
  exact h
theorem ip_store_to {ops : Array Oper} {rest : List Oper} {o : Oper} {a : Act} {w : World} {Q : Exit → Act → World → Prop} (hgd : o.guard = none) (x y : Operand) (ho : o.op = .store 27 x y) (g : Nat) (v : Bool) (l : List Int) (hl : l.length = 16)
    (hx : a.eval x = .pointer (some ⟨g, 0, none⟩)) (hy : a.eval y = .agg (ipc v l).toArray) (t : TypeId) (old : Array Value) (hg : Blk w g t old) (hold : old.size = 17) (I : World → Prop) (hI : I (w.setRow g (ipc v l).toArray))
    (h : ∀ W, I W → wpList Tryz.prog ops Q rest (a.put o.dst undef) W) : wpList Tryz.prog ops Q (o :: rest) a w :=
  wpList_store_row hgd 27 x y ho g _ hx hy t old hg (by simpa using ip_size v l hl) (by rw [hold]; simp [hl]) (all_oneCell_toArray (one_ipcN v l)) (h _ hI)

theorem splice_ip (v : Bool) (xs : List Int) : (ipc v z16).take 1 ++ u8s xs ++ (ipc v z16).drop (1 + (u8s xs).length) = ipc v (pad xs) := by
  have h1 : (ipc v z16).take 1 = [Value.bool v] := rfl
  have h2 : (ipc v z16).drop (1 + (u8s xs).length) = (u8s z16).drop xs.length := by rw [Nat.add_comm, u8s_len]; rfl
  have h3 : (u8s z16).drop xs.length = u8s (List.replicate (16 - xs.length) 0) := by rw [z16, ← List.map_drop, List.drop_replicate]
  rw [h1, h2, h3, pad]
  simp
/-- The memory of readIp. -/
structure IpW (A0 : Option Addr) (c0 : Nat) (w W : World) (g : Nat) (l : List Int) (s : CS) (v : Bool) (xs : List Int) : Prop where
  res : ∃ Z, Blk W w.heap.size 27 Z ∧ Z.size = 17
  a : Blk W (w.heap.size + 1) 27 (ipc v xs).toArray
  cu : CurS A0 c0 W g l s
  gr : w.grownBy W (some g)
  lt : g < w.heap.size
section
variable {A0 : Option Addr} {c0 : Nat}
theorem IpW.below {w W W' : World} {g : Nat} {l : List Int} {s : CS} {v : Bool} {xs : List Int} (h : IpW A0 c0 w W g l s v xs) (hB : Below W.heap.size W W') : IpW A0 c0 w W' g l s v xs := by
  obtain ⟨Z, hZ, hs⟩ := h.res
  exact ⟨⟨Z, hZ.below hB hZ.lt, hs⟩, h.a.below hB h.a.lt, h.cu.above hB h.cu.toIsCurT.lt, only_trans h.gr (only_of_below hB _), h.lt⟩
theorem IpW.step {w W W' : World} {g : Nat} {l : List Int} {s s' : CS} {v : Bool} {xs : List Int} (h : IpW A0 c0 w W g l s v xs) (hc : CurS A0 c0 W' g l s') (hg : W.grownBy W' (some g)) : IpW A0 c0 w W' g l s' v xs := by
  obtain ⟨Z, hZ, hs⟩ := h.res
  have := h.lt
  exact ⟨⟨Z, hZ.grown hg (fun e => by injection e with e; omega), hs⟩, h.a.grown hg (fun e => by injection e with e; omega), hc, only_trans h.gr hg, h.lt⟩
set_option maxHeartbeats 1000000 in
theorem rip_is (w : World) (g : Nat) (l : List Int) (s : CS) (v : Bool) (h : CurS A0 c0 w g l s) :
    Calls Tryz.prog 241 #[.pointer (some ⟨g, 0, none⟩), .bool v] w fun e w' => e = .returned (.agg (ipc v (pad (tV l s (nb v)))).toArray) ∧ CurS A0 c0 w' g l (tS l s (nb v)) ∧ w.grownBy w' (some g) := by
  have hlt := h.toIsCurT.lt
  have HOct := Lib.hid h.oct
  have HB1 : Hid (∀ Z Z', Z.size = 17 → IpW A0 c0 w (((w.alloc (.cells Z 27)).alloc (.cells Z' 27)).setRow (w.heap.size + 1) (ipc v z16).toArray) g l s v z16) := Lib.hid (fun Z Z' hZ => by
    have b1 : Blk ((w.alloc (.cells Z 27)).alloc (.cells Z' 27)) (w.heap.size + 1) 27 Z' := by simpa using Blk.new (w.alloc (.cells Z 27)) 27 Z'
    have hb : Below w.heap.size w (((w.alloc (.cells Z 27)).alloc (.cells Z' 27)).setRow (w.heap.size + 1) (ipc v z16).toArray) := ((((Below.refl w.heap.size w).alloc (Nat.le_refl _) _).alloc (by simp) _)).trans (below_setRow _ _ _ (by omega))
    exact ⟨⟨Z, (setRow_other _ _ _ _ (by omega)).trans ((Blk.new w 27 Z).alloc _), hZ⟩, b1.setRow _, h.above hb hlt, only_of_below hb _, hlt⟩)
  have HB0 : Hid (∀ Z Z', Blk ((w.alloc (.cells Z 27)).alloc (.cells Z' 27)) (w.heap.size + 1) 27 Z') := Lib.hid (fun Z Z' => by simpa using Blk.new (w.alloc (.cells Z 27)) 27 Z')
  have hz16 : z16.length = 16 := rfl
  have hs16 : ∀ W, (Instr.sliceAt 25 (.pointer (some ⟨w.heap.size + 1, 1, none⟩)) none none none).run Tryz.prog W = .ok (.slice (some ⟨w.heap.size + 1, 1, none⟩) 16 16) W := fun W => by go_simp
  have HZ16 : Hid (z16.length = 16) := Lib.hid rfl
  clear h hz16
  go_enter Tryz.func241, Tryz.ntmps241
  go_wp2_with (first
    | (refine ip_build1 rfl _ rfl v rfl ?_)
    | (refine ip_store_to rfl _ _ rfl (w.heap.size + 1) v z16 HZ16.out rfl rfl 27 _ (HB0.out _ _) rfl (fun W => IpW A0 c0 w W g l s v z16) (HB1.out _ _ rfl) ?_; intro W hW; have HW := Lib.hid hW; clear hW))
  have HD := Lib.hid (HW.out.below (bl_drew W))
  clear HW
  refine wp_region_held_drew (S := fun _ => True) (by kernel_rfl) (trivial) (fun hS => ?_)
  refine wpAnyH_take (i := 0) (oi := ⟨some 8, _, _, _, _, _⟩) (v := ?_) rfl (by kernel_rfl) (by kernel_rfl) (by kernel_rfl) (fun _ _ _ h => h) (Or.inl ⟨by rfl, ?_⟩) hS ?_
  rotate_left
  · intro wq hq
    first | (go_simp; done) | (go_simp; rfl)
  try simp only [Act.put, List.setIfInBounds_toArray, List.set_cons_zero, List.set_cons_succ]
  refine wpAnyH_take (i := 1) (oi := ⟨some 9, _, _, _, _, _⟩) (v := ?_) rfl (by kernel_rfl) (by kernel_rfl) (by kernel_rfl) (fun _ _ _ h => h) (Or.inl ⟨by rfl, ?_⟩) hS ?_
  rotate_left
  · intro wq hq
    first | (go_simp; done) | (go_simp; rfl)
  try simp only [Act.put, List.setIfInBounds_toArray, List.set_cons_zero, List.set_cons_succ]
  refine wpAnyH_take (i := 2) (oi := ⟨some 10, _, _, _, _, _⟩) (v := ?_) rfl (by kernel_rfl) (by kernel_rfl) (by kernel_rfl) (fun _ _ _ h => h) (Or.inl ⟨by rfl, ?_⟩) hS ?_
  rotate_left
  · intro wq hq
    first | (go_simp; done) | (go_simp; rfl)
  try simp only [Act.put, List.setIfInBounds_toArray, List.set_cons_zero, List.set_cons_succ]
  refine wpAnyH_ready (rs := [3]) (by kernel_rfl) (by simp) ?_
  refine AllReadyH.cons (o := ⟨some 11, _, _, _, _, _⟩) rfl (fun K hK => ?_) AllReadyH.nil
  rw [if_pos (by rfl)]
  refine wp_load_mid 27 _ rfl (w.heap.size + 1) 0 rfl (ipc v z16) _ (blk_range HD.out.a) Tryz.underlying27 rfl (ip_size v z16 HZ16.out) ?_
  refine hK.out _ _ (trivial) (fun hS => ?_)
  clear hK K
  try simp only [Act.put, List.setIfInBounds_toArray, List.set_cons_zero, List.set_cons_succ]
  refine wpAnyH_ready (rs := [4]) (by kernel_rfl) (by simp) ?_
  refine AllReadyH.cons (o := ⟨some 12, _, _, _, _, _⟩) rfl (fun K hK => ?_) AllReadyH.nil
  rw [if_pos (by rfl)]
  go_wp2_with fail
  refine (address_at _ v z16 HZ16.out (oct_zeros 16)).mono ?_
  rintro e w2 ⟨A2, rfl, _, hB2⟩
  have HD2 := Lib.hid (HD.out.below hB2)
  clear hB2 HD
  refine hK.out _ _ (trivial) (fun hS => ?_)
  clear hK K
  try simp only [Act.put, List.setIfInBounds_toArray, List.set_cons_zero, List.set_cons_succ]
  refine wpAnyH_take (i := 5) (oi := ⟨some 13, _, _, _, _, _⟩) (v := ?_) rfl (by kernel_rfl) (by kernel_rfl) (by kernel_rfl) (fun _ _ _ h => h) (Or.inl ⟨by rfl, ?_⟩) hS ?_
  rotate_left
  · intro wq hq
    first | (go_simp; done) | (go_simp; rfl)
  try simp only [Act.put, List.setIfInBounds_toArray, List.set_cons_zero, List.set_cons_succ]
  refine wpAnyH_ready (rs := [6]) (by kernel_rfl) (by simp) ?_
  refine AllReadyH.cons (o := ⟨some 14, _, _, _, _, _⟩) rfl (fun K hK => ?_) AllReadyH.nil
  rw [if_pos (by rfl)]
  go_wp2_with fail
  refine (takeS _ g l s (nb v) HD2.out.cu).mono ?_
  rintro e w3 ⟨A3, rfl, hN3, hC3, hG3⟩
  have HD3 := Lib.hid (HD2.out.step hC3 hG3)
  clear hC3 hG3 HD2
  refine hK.out _ _ (trivial) (fun hS => ?_)
  clear hK K
  try simp only [Act.put, List.setIfInBounds_toArray, List.set_cons_zero, List.set_cons_succ]
  have hle : (tV l s (nb v)).length ≤ 16 := Nat.le_trans (took_le l s.1 s.2 (nb v)) (nb_le v)
  have hoc : Oct (tV l s (nb v)) := took_oct HOct.out _ _ _
  generalize hxs : tV l s (nb v) = xs at *
  have HXs := Lib.hid hxs
  clear hxs
  have hrd := hN3.rd
  have hsrc : 0 < (u8s xs).length → (some ⟨w.heap.size + 1, 1, none⟩ : Option Addr) = some ⟨w.heap.size + 1, 1, none⟩ ∧ ∃ ad, A3 = some ad ∧ ∀ j v, (u8s xs)[j]? = some v → w3.cell? (ad.add j) = some v := fun hp => by
    obtain ⟨b, off, rfl, _, hc⟩ := hrd.at_ (by simpa using hp)
    exact ⟨rfl, _, rfl, src_u8 rfl hc⟩
  obtain ⟨w4, hcp, hg4, hB4, hG4⟩ := copy_row (P := Tryz.prog) w3 38 38 3 5 Tryz.underlying38 size_byte (some ⟨w.heap.size + 1, 1, none⟩) A3 16 16 xs.length xs.length (w.heap.size + 1) 1 (ipc v z16) 27 HD3.out.a (u8s xs) (by rw [u8s_len]; exact (Nat.min_eq_left hle).symm) hsrc (by rw [u8s_len, ipc_len, HZ16.out]; omega) (one_u8s xs)
  rw [splice_ip] at hg4
  have HD4 : Hid (IpW A0 c0 w w4 g l (tS l s (nb v)) v (pad xs)) := Lib.hid (by
    obtain ⟨Z, hZ, hs⟩ := HD3.out.res
    have hl := HD3.out.lt
    exact ⟨⟨Z, hZ.below hB4 (by omega), hs⟩, hg4, HD3.out.cu.above hB4 (by omega), only_then HD3.out.gr hB4 (by omega), hl⟩)
  have HLen := Lib.hid (pad_len hle)
  clear HD3 hsrc hrd hN3 hg4 hB4 hG4 hle hoc
  refine wpAnyH_ready (rs := [7]) (by kernel_rfl) (by simp) ?_
  refine AllReadyH.cons (o := ⟨some 15, _, _, _, _, _⟩) rfl (fun K hK => ?_) AllReadyH.nil
  rw [if_pos (by rfl)]
  go_wp2_with fail
  refine hK.out _ _ (trivial) (fun hS => ?_)
  clear hK K
  try simp only [Act.put, List.setIfInBounds_toArray, List.set_cons_zero, List.set_cons_succ]
  refine wpAnyH_done (by kernel_rfl) ?_ _
  clear hcp
  obtain ⟨Z, hZ, hZs⟩ := HD4.out.res
  have HZ := Lib.hid hZ
  have HZs := Lib.hid hZs
  clear hZ hZs
  go_wp2_with (first
    | (refine ip_fetch rfl _ rfl (w.heap.size + 1) 0 v (pad xs) HLen.out rfl (blk_range HD4.out.a) ?_)
    | (refine ip_store_to rfl _ _ rfl w.heap.size v (pad xs) HLen.out rfl rfl 27 Z HZ.out HZs.out (fun W => Blk W w.heap.size 27 (ipc v (pad xs)).toArray ∧ CurS A0 c0 W g l (tS l s (nb v)) ∧ w.grownBy W (some g)) ⟨HZ.out.setRow _, HD4.out.cu.above (below_setRow _ _ _ (Nat.le_refl _)) HD4.out.lt, only_setRow HD4.out.gr (Nat.le_refl _) _⟩ ?_; intro W2 hW2; have HW2 := Lib.hid hW2; clear hW2))
  refine bodyPost_ret (v := .agg (ipc v (pad xs)).toArray) ?_ rfl ⟨by rw [HXs.out], HW2.out.2⟩
  exact results_cell_row rfl _ _ w.heap.size 27 _ (0, 0) _ rfl HW2.out.1 Tryz.underlying27 rfl (by rw [ip_size v _ HLen.out]; simp)
end
end Go.Proofs.YtdgoeibfggjbmaaGreatDoor
namespace Go.Proofs.YtdgoeibfggjbmaaGreatDoor
open Go.RowKit
set_option maxRecDepth 100000
set_option linter.unusedSimpArgs false
set_option linter.unusedVariables false

theorem blk_there {w : World} {g : Nat} {t : TypeId} {cs : List Value} (h : Blk w g t cs.toArray) (o n : Nat) (hn : o + n ≤ cs.length) : w.there g o n := fun j hj => by
  rw [h.cell, h.frozen]
  refine ⟨?_, rfl⟩
  simp
  omega
theorem blk_setCells {g : Nat} {t : TypeId} : ∀ (new old pre post : List Value) (w : World), Blk w g t (pre ++ (old ++ post)).toArray → old.length = new.length → Blk (w.setCells g pre.length new) g t (pre ++ (new ++ post)).toArray
  | [], old, pre, post, w, h, hl => by
    obtain rfl : old = [] := List.eq_nil_of_length_eq_zero hl
    exact h
  | v :: new, [], pre, post, w, h, hl => by simp at hl
  | v :: new, o :: old, pre, post, w, h, hl => by
    have h1 := h.set_ pre.length v
    have e : ((pre ++ (o :: old ++ post)).toArray.setIfInBounds pre.length v) = ((pre ++ [v]) ++ (old ++ post)).toArray := by simp
    rw [e] at h1
    have h2 := blk_setCells new old (pre ++ [v]) post _ h1 (by simpa using hl)
    rw [List.length_append, List.append_assoc] at h2
    exact h2

/-- What readWhole tells: the family, the bytes, the length; and where the cursor then stands. -/
def wholeV (l : List Int) (s : CS) : Bool × List Int × Int :=
  if nV l s 1 = 32 then (false, pad (tV l (nS l s 1) (nb false)), nV l s 1)
  else if nV l s 1 = 128 then (true, pad (tV l (nS l s 1) (nb true)), nV l s 1)
  else (false, z16, nV l s 1)
def wholeS (l : List Int) (s : CS) : CS :=
  if nV l s 1 = 32 then tS l (nS l s 1) (nb false)
  else if nV l s 1 = 128 then tS l (nS l s 1) (nb true)
  else nS l s 1
theorem built_pf1 (n : Int) : Tryz.prog.built 51 [(1, .int .i64 n)] = some (pfc false z16 n).toArray := by kernel_rfl
theorem pf_build1 {ops : Array Oper} {rest : List Oper} {o : Oper} {a : Act} {w : World} {Q : Exit → Act → World → Prop} (hg : o.guard = none) (x : Operand) (ho : o.op = .build 51 #[(1, x)]) (n : Int) (hx : a.eval x = .int .i64 n)
    (h : wpList Tryz.prog ops Q rest (a.put o.dst (.agg (pfc false z16 n).toArray)) w) : wpList Tryz.prog ops Q (o :: rest) a w := by
  have hb := built_pf1 n
  have he : (#[(1, x)].map fun (i, x) => (i, a.eval x)).toList = [(1, .int .i64 n)] := by simp [hx]
  refine wpList_build hg 51 _ ho (by rw [he, hb]; rfl) ?_
  rw [he, hb]
  exact h
theorem pf_store_to {ops : Array Oper} {rest : List Oper} {o : Oper} {a : Act} {w : World} {Q : Exit → Act → World → Prop} (hgd : o.guard = none) (x y : Operand) (ho : o.op = .store 51 x y) (g : Nat) (v : Bool) (l : List Int) (n : Int) (hl : l.length = 16)
    (hx : a.eval x = .pointer (some ⟨g, 0, none⟩)) (hy : a.eval y = .agg (pfc v l n).toArray) (t : TypeId) (old : Array Value) (hg : Blk w g t old) (hold : old.size = 18) (I : World → Prop) (hI : I (w.setRow g (pfc v l n).toArray))
    (h : ∀ W, I W → wpList Tryz.prog ops Q rest (a.put o.dst undef) W) : wpList Tryz.prog ops Q (o :: rest) a w := pf_store hgd x y ho g v l n hl hx hy t old hg hold (h _ hI)
theorem ip_part_to {ops : Array Oper} {rest : List Oper} {o : Oper} {a : Act} {w : World} {Q : Exit → Act → World → Prop} (hgd : o.guard = none) (x y : Operand) (ho : o.op = .store 27 x y) (g off : Nat) (v : Bool) (l : List Int) (hl : l.length = 16)
    (hx : a.eval x = .pointer (some ⟨g, off, none⟩)) (hy : a.eval y = .agg (ipc v l).toArray) (ht : w.there g off 17) (I : World → Prop) (hI : I (w.setCells g off (ipc v l)))
    (h : ∀ W, I W → wpList Tryz.prog ops Q rest (a.put o.dst undef) W) : wpList Tryz.prog ops Q (o :: rest) a w :=
  part_store hgd 27 x y ho g off (ipc v l) hx hy (by rw [ipc_len, hl]; exact ht) (by rw [ipc_len, hl]; kernel_rfl) (one_ipcN v l) (h _ hI)

/-- The memory of readWhole. -/
structure PfW (A0 : Option Addr) (c0 : Nat) (w W : World) (g : Nat) (l : List Int) (s : CS) (p : Nat) (v : Bool) (xs : List Int) (n : Int) : Prop where
  res : ∃ Z, Blk W w.heap.size 51 Z ∧ Z.size = 18
  pb : Blk W p 51 (pfc v xs n).toArray
  hp : w.heap.size < p
  cu : CurS A0 c0 W g l s
  gr : w.grownBy W (some g)
  lt : g < w.heap.size
section
variable {A0 : Option Addr} {c0 : Nat}
theorem PfW.step {w W W' : World} {g p : Nat} {l : List Int} {s s' : CS} {v : Bool} {xs : List Int} {n : Int} (h : PfW A0 c0 w W g l s p v xs n) (hc : CurS A0 c0 W' g l s') (hg : W.grownBy W' (some g)) : PfW A0 c0 w W' g l s' p v xs n := by
  obtain ⟨Z, hZ, hs⟩ := h.res
  have := h.lt
  have := h.hp
  exact ⟨⟨Z, hZ.grown hg (fun e => by injection e with e; omega), hs⟩, h.pb.grown hg (fun e => by injection e with e; omega), h.hp, hc, only_trans h.gr hg, h.lt⟩
theorem PfW.ip {w W : World} {g p : Nat} {l : List Int} {s : CS} {v v' : Bool} {xs xs' : List Int} {n : Int} (h : PfW A0 c0 w W g l s p v xs n) (hx : xs.length = 16) (hx' : xs'.length = 16) : PfW A0 c0 w (W.setCells p 0 (ipc v' xs')) g l s p v' xs' n := by
  obtain ⟨Z, hZ, hs⟩ := h.res
  have hl := h.lt
  have hp := h.hp
  have hb := below_cells (a := W) (Nat.le_refl p) (ipc v' xs') 0 W (Below.refl _ _)
  have e : ∀ v (xs : List Int), pfc v xs n = [] ++ (ipc v xs ++ [.int .i64 n]) := fun v xs => rfl
  have h1 := h.pb
  rw [e] at h1
  have h2 := blk_setCells (ipc v' xs') (ipc v xs) [] _ W h1 (by rw [ipc_len, ipc_len, hx, hx'])
  exact ⟨⟨Z, hZ.below hb hp, hs⟩, h2, hp, h.cu.above hb (by omega), only_setCellsN h.gr (by omega) _ _, hl⟩
theorem PfW.ret {w W : World} {g p : Nat} {l : List Int} {s : CS} {v : Bool} {xs : List Int} {n : Int} (h : PfW A0 c0 w W g l s p v xs n) : Blk (W.setRow w.heap.size (pfc v xs n).toArray) w.heap.size 51 (pfc v xs n).toArray ∧ CurS A0 c0 (W.setRow w.heap.size (pfc v xs n).toArray) g l s ∧ w.grownBy (W.setRow w.heap.size (pfc v xs n).toArray) (some g) := by
  obtain ⟨Z, hZ, _⟩ := h.res
  exact ⟨hZ.setRow _, h.cu.above (below_setRow _ _ _ (Nat.le_refl _)) h.lt, only_setRow h.gr (Nat.le_refl _) _⟩

def WholePost (A0 : Option Addr) (c0 : Nat) (w : World) (g : Nat) (l : List Int) (s : CS) (e : Ending) (w' : World) : Prop :=
  e = .returned (.agg (pfc (wholeV l s).1 (wholeV l s).2.1 (wholeV l s).2.2).toArray) ∧ CurS A0 c0 w' g l (wholeS l s) ∧ w.grownBy w' (some g)
set_option maxHeartbeats 1000000 in
theorem whole_six (w : World) (g : Nat) (l : List Int) (s : CS) (h : CurS A0 c0 w g l s) (v6 : Bool) (hn : nV l s 1 = bitsOf v6) : Calls Tryz.prog 238 #[.pointer (some ⟨g, 0, none⟩)] w (WholePost A0 c0 w g l s) := by
  have hlt := h.toIsCurT.lt
  have HL : Hid ((pad (tV l (nS l s 1) (nb v6))).length = 16) := Lib.hid (pad_len (Nat.le_trans (took_le _ _ _ _) (nb_le v6)))
  have HF : Hid (wholeV l s = (v6, pad (tV l (nS l s 1) (nb v6)), bitsOf v6) ∧ wholeS l s = tS l (nS l s 1) (nb v6)) := Lib.hid (by
    unfold wholeV wholeS
    rw [hn]
    cases v6 <;> simp [bitsOf])
  have HN := Lib.hid (fun Z => numS (w.alloc (.cells Z 51)) g l s 1 (h.above (bl_one w _) hlt))
  have HZ16 : Hid (z16.length = 16) := Lib.hid rfl
  have hb6 : (v6 = true ∧ bitsOf v6 = 128) ∨ (v6 = false ∧ bitsOf v6 = 32) := by cases v6 <;> simp [bitsOf]
  rw [hn] at HN
  clear h hn
  go_enter Tryz.func238, Tryz.ntmps238
  go_wp2_with fail
  refine (HN.out _).mono ?_
  rintro e w1 ⟨rfl, hC, hG⟩
  have hs1 : w.heap.size < w1.heap.size := by have := hG.size; simp at this; omega
  have HR1 : Hid (∀ Z', PfW A0 c0 w ((w1.alloc (.cells Z' 51)).setRow w1.heap.size (pfc false z16 (bitsOf v6)).toArray) g l (nS l s 1) w1.heap.size false z16 (bitsOf v6)) := Lib.hid (fun Z' => by
    have hb := (bl_one w1 (.cells Z' 51)).trans (below_setRow (w1.alloc (.cells Z' 51)) w1.heap.size (pfc false z16 (bitsOf v6)).toArray (Nat.le_refl _))
    exact ⟨⟨_, ((Blk.new w 51 _).grown hG (fun e => by injection e with e; omega)).below hb hs1, rfl⟩, (Blk.new w1 51 Z').setRow _, hs1, hC.above hb (by omega), only_then (only_trans (only_alloc (only_refl w _) _) hG) hb (by omega), hlt⟩)
  have HB1 := Lib.hid (fun Z' => Blk.new w1 51 Z')
  clear hC hG
  have h255 : 0 ≤ bitsOf v6 ∧ bitsOf v6 < 256 := by rcases hb6 with ⟨_, e⟩ | ⟨_, e⟩ <;> omega
  obtain ⟨h255a, h255b⟩ := h255
  generalize hbn : bitsOf v6 = bn at *
  rcases hb6 with ⟨rfl, rfl⟩ | ⟨rfl, rfl⟩
  all_goals
    go_wp2_with (first
      | (refine pf_build1 rfl _ rfl _ rfl ?_)
      | (refine pf_store_to rfl _ _ rfl w1.heap.size false z16 _ HZ16.out rfl rfl 51 _ (HB1.out _) rfl (fun W => PfW A0 c0 w W g l (nS l s 1) w1.heap.size false z16 _) (HR1.out _) ?_; intro W hW; have hcn : W.cell? ⟨w1.heap.size, 17, none⟩ = some (.int .i64 _) := hW.pb.cell 17; have HW := Lib.hid hW; clear hW)
      | fail)
    refine (rip_is _ g l _ _ HW.out.cu).mono ?_
    rintro e w2 ⟨rfl, hC2, hG2⟩
    have HD2 := Lib.hid (HW.out.step hC2 hG2)
    clear hC2 hG2 HW
    have hth := blk_there HD2.out.pb 0 17 (by simp [HZ16.out])
    have HD3 := Lib.hid (fun v' => HD2.out.ip (v' := v') HZ16.out HL.out)
    go_wp2_with (first
      | (refine ip_part_to rfl _ _ rfl w1.heap.size 0 _ _ HL.out rfl rfl hth (fun W => PfW A0 c0 w W g l _ w1.heap.size _ _ _) (HD3.out _) ?_; intro W3 hW3; have HW3 := Lib.hid hW3; obtain ⟨Z3, hZ3, hs3⟩ := hW3.res; have HZ3 := Lib.hid hZ3; clear hW3 hZ3)
      | (refine pf_fetch rfl _ rfl w1.heap.size _ _ _ HL.out rfl (blk_range HW3.out.pb) ?_)
      | (refine pf_store_to rfl _ _ rfl w.heap.size _ _ _ HL.out rfl rfl 51 Z3 HZ3.out hs3 (fun W => Blk W w.heap.size 51 _ ∧ CurS A0 c0 W g l _ ∧ w.grownBy W (some g)) HW3.out.ret ?_; intro W4 hW4; have HW4 := Lib.hid hW4; clear hW4)
      | fail)
    refine bodyPost_ret ?_ rfl ⟨by rw [HF.out.1], by rw [HF.out.2]; exact HW4.out.2.1, HW4.out.2.2⟩
    exact results_cell_row rfl _ _ w.heap.size 51 _ (0, 0) _ rfl HW4.out.1 Tryz.underlying51 rfl (by rw [pfc_size _ _ _ HL.out])
set_option maxHeartbeats 1000000 in
theorem whole_other (w : World) (g : Nat) (l : List Int) (s : CS) (h : CurS A0 c0 w g l s) (hn1 : nV l s 1 ≠ 32) (hn2 : nV l s 1 ≠ 128) : Calls Tryz.prog 238 #[.pointer (some ⟨g, 0, none⟩)] w (WholePost A0 c0 w g l s) := by
  have hlt := h.toIsCurT.lt
  have hbd : 0 ≤ nV l s 1 ∧ nV l s 1 < 256 := nV_bd h.oct s 1
  have HF : Hid (wholeV l s = (false, z16, nV l s 1) ∧ wholeS l s = nS l s 1) := Lib.hid (by
    unfold wholeV wholeS
    simp [hn1, hn2])
  have HN := Lib.hid (fun Z => numS (w.alloc (.cells Z 51)) g l s 1 (h.above (bl_one w _) hlt))
  have HZ16 : Hid (z16.length = 16) := Lib.hid rfl
  have e1 : (nV l s 1 == 32) = false := by rw [beq_eq_false_iff_ne]; exact hn1
  have e2 : (nV l s 1 == 128) = false := by rw [beq_eq_false_iff_ne]; exact hn2
  clear h hn1 hn2
  generalize nV l s 1 = bn at *
  obtain ⟨h255a, h255b⟩ := hbd
  go_enter Tryz.func238, Tryz.ntmps238
  go_wp2_with fail
  refine (HN.out _).mono ?_
  rintro e w1 ⟨rfl, hC, hG⟩
  have hs1 : w.heap.size < w1.heap.size := by have := hG.size; simp at this; omega
  have HR1 : Hid (∀ Z', PfW A0 c0 w ((w1.alloc (.cells Z' 51)).setRow w1.heap.size (pfc false z16 bn).toArray) g l (nS l s 1) w1.heap.size false z16 bn) := Lib.hid (fun Z' => by
    have hb := (bl_one w1 (.cells Z' 51)).trans (below_setRow (w1.alloc (.cells Z' 51)) w1.heap.size (pfc false z16 bn).toArray (Nat.le_refl _))
    exact ⟨⟨_, ((Blk.new w 51 _).grown hG (fun e => by injection e with e; omega)).below hb hs1, rfl⟩, (Blk.new w1 51 Z').setRow _, hs1, hC.above hb (by omega), only_then (only_trans (only_alloc (only_refl w _) _) hG) hb (by omega), hlt⟩)
  have HB1 := Lib.hid (fun Z' => Blk.new w1 51 Z')
  clear hC hG
  go_wp2_with (first
    | (refine pf_build1 rfl _ rfl _ rfl ?_)
    | (refine pf_store_to rfl _ _ rfl w1.heap.size false z16 _ HZ16.out rfl rfl 51 _ (HB1.out _) rfl (fun W => PfW A0 c0 w W g l (nS l s 1) w1.heap.size false z16 _) (HR1.out _) ?_; intro W hW; have hcn : W.cell? ⟨w1.heap.size, 17, none⟩ = some (.int .i64 _) := hW.pb.cell 17; have HW3 := Lib.hid hW; obtain ⟨Z3, hZ3, hs3⟩ := hW.res; have HZ3 := Lib.hid hZ3; clear hW hZ3)
    | (refine pf_fetch rfl _ rfl w1.heap.size _ _ _ HZ16.out rfl (blk_range HW3.out.pb) ?_)
    | (refine pf_store_to rfl _ _ rfl w.heap.size _ _ _ HZ16.out rfl rfl 51 Z3 HZ3.out hs3 (fun W => Blk W w.heap.size 51 _ ∧ CurS A0 c0 W g l _ ∧ w.grownBy W (some g)) HW3.out.ret ?_; intro W4 hW4; have HW4 := Lib.hid hW4; clear hW4)
    | fail)
  refine bodyPost_ret ?_ rfl ⟨by rw [HF.out.1], by rw [HF.out.2]; exact HW4.out.2.1, HW4.out.2.2⟩
  exact results_cell_row rfl _ _ w.heap.size 51 _ (0, 0) _ rfl HW4.out.1 Tryz.underlying51 rfl (by rw [pfc_size _ _ _ HZ16.out])
theorem whole_at (w : World) (g : Nat) (l : List Int) (s : CS) (h : CurS A0 c0 w g l s) : Calls Tryz.prog 238 #[.pointer (some ⟨g, 0, none⟩)] w (WholePost A0 c0 w g l s) := by
  by_cases h1 : nV l s 1 = 32
  · exact whole_six w g l s h false h1
  by_cases h2 : nV l s 1 = 128
  · exact whole_six w g l s h true h2
  exact whole_other w g l s h h1 h2
end

/-- A route and a cursor beside it. -/
structure RS (A0 : Option Addr) (c0 : Nat) (w : World) (b g : Nat) (r : Rt) (l : List Int) (s : CS) : Prop where
  rt : RtAt w b r
  ok : RtOk r
  cu : CurS A0 c0 w g l s
  lt : b < g
  far : 0 < l.length → ∀ a, A0 = some a → a.block ≠ b
theorem below_grown {w w' : World} {b g : Nat} (h : w.grownBy w' (some g)) (hb : b ≤ g) (hs : b ≤ w.heap.size) : Below b w w' := ⟨h.os, h.tape, h.output, h.size, fun k hk => h.block k (by omega) (fun e => by injection e with e; omega)⟩
section
variable {A0 : Option Addr} {c0 : Nat} {w w' : World} {b g : Nat} {r r' : Rt} {l : List Int} {s s' : CS}
theorem RS.step (h : RS A0 c0 w b g r l s) (hc : CurS A0 c0 w' g l s') (hg : w.grownBy w' (some g)) : RS A0 c0 w' b g r l s' :=
  ⟨h.rt.grown hg (fun e => by injection e with e; have := h.lt; omega), h.ok, hc, h.lt, h.far⟩
theorem RS.low (h : RS A0 c0 w b g r l s) (hg : w.grownBy w' (some g)) : Below b w w' := below_grown hg (Nat.le_of_lt h.lt) (Nat.le_of_lt h.rt.lt)
theorem RS.above (h : RS A0 c0 w b g r l s) (hB : Below w.heap.size w w') : RS A0 c0 w' b g r l s := ⟨h.rt.below hB h.rt.lt, h.ok, h.cu.above hB h.cu.toIsCurT.lt, h.lt, h.far⟩
theorem RS.set {pre old new post : List Value} {o : Nat} (h : RS A0 c0 w b g r l s) (e : rtc r = pre ++ (old ++ post)) (e' : rtc r' = pre ++ (new ++ post)) (ho : pre.length = o) (hl : new.length = old.length) (hok : RtOk r') : RS A0 c0 (w.setCells b o new) b g r' l s :=
  ⟨h.rt.cells h.ok e e' ho hl, hok, h.cu.far (fun i hi => heap_cells hi new o w) (fun e => by have := h.lt; omega) h.far, h.lt, h.far⟩
end
theorem low_cells (w : World) (b o : Nat) (cs : List Value) : Below b w (w.setCells b o cs) := below_cells (Nat.le_refl _) cs o w (Below.refl _ _)

/-- Bytes read one by one. -/
def fillS (l : List Int) (s : CS) : Nat → CS
  | 0 => s
  | n + 1 => nS l (fillS l s n) 1
def fillV (l : List Int) (s : CS) : Nat → List Int
  | 0 => []
  | n + 1 => fillV l s n ++ [nV l (fillS l s n) 1]
theorem fillV_len (l : List Int) (s : CS) : ∀ n, (fillV l s n).length = n
  | 0 => rfl
  | n + 1 => by simp [fillV, fillV_len l s n]
theorem fillV_oct {l : List Int} (h : Oct l) (s : CS) : ∀ n, Oct (fillV l s n)
  | 0 => fun x hx => by cases hx
  | n + 1 => fun x hx => by
    rcases List.mem_append.1 hx with hx | hx
    · exact fillV_oct h s n x hx
    · rw [List.mem_singleton] at hx
      subst hx
      exact nV_bd h _ 1

section
variable {A0 : Option Addr} {c0 : Nat}
set_option maxHeartbeats 1000000 in
theorem fill_is (w : World) (b g off n c : Nat) (F : List Int → Rt) (pre post : List Value) (hF : ∀ xs, rtc (F xs) = pre ++ (u8s xs ++ post)) (hpre : pre.length = off) (hok : ∀ xs, xs.length = n → Oct xs → RtOk (F xs))
    (x0 : List Int) (hx : x0.length = n) (hox : Oct x0) (hn : n ≤ 63) (l : List Int) (s : CS) (h : RS A0 c0 w b g (F x0) l s) :
    Calls Tryz.prog 235 #[.pointer (some ⟨g, 0, none⟩), .slice (some ⟨b, off, none⟩) n c] w fun e w' => e = .returned (.tuple #[]) ∧ RS A0 c0 w' b g (F (fillV l s n)) l (fillS l s n) ∧ Below b w w' := by
  have HH := Lib.hid h
  have HFF := Lib.hid hF
  have HP := Lib.hid hpre
  have HK := Lib.hid hok
  have HX := Lib.hid hx
  have HOx := Lib.hid hox
  have HO := Lib.hid h.cu.oct
  clear h hF hpre hok hx hox
  go_enter Tryz.func235, Tryz.ntmps235
  go_wp2
  go_loopw [4, 7] (fun _ i wr => ∃ m : Nat, m ≤ n ∧ i = .int .i64 m ∧ RS A0 c0 wr b g (F (fillV l s m ++ x0.drop m)) l (fillS l s m) ∧ Below b w wr) (fun _ i _ => n - (intOf i).toNat)
  case atStart => exact ⟨0, Nat.zero_le _, rfl, HH.out, Below.refl _ _⟩
  case round =>
    obtain ⟨m, hm, rfl, hS, hB⟩ := hrel
    by_cases hlt : m < n
    · have HB := Lib.hid hB
      obtain ⟨y, hy⟩ : ∃ y, x0.drop m = y :: x0.drop (m + 1) := ⟨x0[m]'(by rw [HX.out]; exact hlt), List.drop_eq_getElem_cons (by rw [HX.out]; exact hlt)⟩
      have HN := Lib.hid (numS wr g l (fillS l s m) 1 hS.cu)
      have HS := Lib.hid hS
      have HY := Lib.hid hy
      have hbd : 0 ≤ nV l (fillS l s m) 1 ∧ nV l (fillS l s m) 1 < 256 := nV_bd HO.out _ 1
      have HV : Hid (fillV l s (m + 1) = fillV l s m ++ [nV l (fillS l s m) 1] ∧ fillS l s (m + 1) = nS l (fillS l s m) 1) := Lib.hid ⟨rfl, rfl⟩
      clear hS hB hy
      generalize nV l (fillS l s m) 1 = x at *
      obtain ⟨hx0, hx1⟩ := hbd
      go_wp2_with fail
      refine HN.out.mono ?_
      rintro e w1 ⟨rfl, hC, hG⟩
      have hs1 := HS.out.step hC hG
      rw [HY.out] at hs1
      have hB1 := HB.out.trans (HS.out.low hG)
      have e1 : rtc (F (fillV l s m ++ y :: x0.drop (m + 1))) = (pre ++ u8s (fillV l s m)) ++ ([.int .u8 y] ++ (u8s (x0.drop (m + 1)) ++ post)) := by rw [HFF.out]; simp
      have e2 : rtc (F (fillV l s (m + 1) ++ x0.drop (m + 1))) = (pre ++ u8s (fillV l s m)) ++ ([.int .u8 x] ++ (u8s (x0.drop (m + 1)) ++ post)) := by rw [HFF.out, HV.out.1]; simp
      have e3 : (pre ++ u8s (fillV l s m)).length = off + m := by rw [List.length_append, u8s_len, fillV_len, HP.out]
      have hcell : w1.cell? ⟨b, off + m, none⟩ = some (.int .u8 y) := (hs1.rt.part e1 e3) 0 _ rfl
      have hfr : w1.frozen? ⟨b, off + m, none⟩ = false := by
        have h63 := congrArg List.length e1
        rw [rtc_len hs1.ok, List.length_append, e3] at h63
        simp only [List.length_append, List.length_cons, List.length_nil] at h63
        exact (hs1.rt.thereAt (off + m) 1 (by omega) 0 (by omega)).2
      have hok2 : RtOk (F (fillV l s (m + 1) ++ x0.drop (m + 1))) := HK.out _ (by rw [List.length_append, fillV_len, List.length_drop, HX.out]; omega) (fun z hz => by
        rcases List.mem_append.1 hz with hz | hz
        · exact fillV_oct HO.out s _ z hz
        · exact HOx.out z (List.mem_of_mem_drop hz))
      have HS2 := Lib.hid (hs1.set e1 e2 e3 rfl hok2)
      have HB2 := Lib.hid (hB1.trans (low_cells w1 b (off + m) [.int .u8 x]))
      have h0 : (0 : Int) ≤ (m : Int) := by omega
      have h1 : (m : Int) < (n : Int) := by omega
      clear hC hG hs1 hB1 e1 e2 e3 hok2
      go_wp2
      refine ⟨⟨m + 1, by omega, by go_num, ?_, HB2.out⟩, by simp [intOf]; omega⟩
      exact HS2.out
    · obtain rfl : m = n := by omega
      rw [List.drop_of_length_le (by rw [HX.out]; exact Nat.le_refl _), List.append_nil] at hS
      have HS := Lib.hid hS
      have HB := Lib.hid hB
      clear hS hB
      go_wp2
      go_end0
      exact ⟨rfl, HS.out, HB.out⟩
end
end Go.Proofs.YtdgoeibfggjbmaaGreatDoor
namespace Go.Proofs.YtdgoeibfggjbmaaGreatDoor
open Go.RowKit
set_option maxRecDepth 100000
set_option linter.unusedSimpArgs false
set_option linter.unusedVariables false

section
variable {A0 : Option Addr} {c0 : Nat} {w w' : World} {b g : Nat} {r : Rt} {l : List Int} {s s' : CS}
theorem RtAt.fr (h : RtAt w b r) (o : Nat) (ho : o < 63) : w.frozen? ⟨b, o, none⟩ = false := (h.thereAt o 1 (by omega) 0 (by omega)).2
theorem RS.drewN (h : RS A0 c0 w b g r l s) (k : Nat) : RS A0 c0 (w.drewN k) b g r l s := h.above (below_drewN (Below.refl _ _) k)
theorem RS.setTg (h : RS A0 c0 w b g r l s) (n : Int) (hn : U32 n) : RS A0 c0 (w.setCell ⟨b, 19, none⟩ (.int .u32 n)) b g { r with tg := n } l s := h.set (new := [.int .u32 n]) (rtc_tg r) (rtc_tg _) (preTg_len h.ok) rfl { h.ok with tg := hn }
theorem RS.setPn (h : RS A0 c0 w b g r l s) (n : Int) (hn : I64 n) : RS A0 c0 (w.setCell ⟨b, 43, none⟩ (.int .i64 n)) b g { r with pn := n } l s := h.set (new := [.int .i64 n]) (rtc_pn r) (rtc_pn _) (prePn_len h.ok) rfl { h.ok with pn := hn }
theorem RS.setLb (h : RS A0 c0 w b g r l s) (n : Int) (hn : U32 n) : RS A0 c0 (w.setCell ⟨b, 61, none⟩ (.int .u32 n)) b g { r with lb := n } l s := h.set (new := [.int .u32 n]) (rtc_lb r) (rtc_lb _) (preLb_len h.ok) rfl { h.ok with lb := hn }
theorem RS.setL2 (h : RS A0 c0 w b g r l s) (n : Int) (hn : U32 n) : RS A0 c0 (w.setCell ⟨b, 62, none⟩ (.int .u32 n)) b g { r with l2 := n } l s := h.set (new := [.int .u32 n]) (rtc_l2 r) (rtc_l2 _) (preL2_len h.ok) rfl { h.ok with l2 := hn }
theorem RS.setPf (h : RS A0 c0 w b g r l s) (v : Bool) (xs : List Int) (n : Int) (hl : xs.length = 16) (ho : Oct xs) (hn : I64 n) : RS A0 c0 (w.setCells b 26 (pfc v xs n)) b g { r with v6 := v, pl := xs, pn := n } l s := h.set (rtc_pf r) (rtc_pf _) (prePf_len h.ok) (by rw [pfc_len, pfc_len, hl, h.ok.pl]) { h.ok with pl := hl, opl := ho, pn := hn }
theorem RS.setIp (h : RS A0 c0 w b g r l s) (v : Bool) (xs : List Int) (hl : xs.length = 16) (ho : Oct xs) : RS A0 c0 (w.setCells b 26 (ipc v xs)) b g { r with v6 := v, pl := xs } l s := h.set (rtc_ip r) (rtc_ip _) (prePf_len h.ok) (by rw [ipc_len, ipc_len, hl, h.ok.pl]) { h.ok with pl := hl, opl := ho }
theorem RS.setGw (h : RS A0 c0 w b g r l s) (v : Bool) (xs : List Int) (hl : xs.length = 16) (ho : Oct xs) : RS A0 c0 (w.setCells b 44 (ipc v xs)) b g { r with gv := v, gl := xs } l s := h.set (rtc_gw r) (rtc_gw _) (preGw_len h.ok) (by rw [ipc_len, ipc_len, hl, h.ok.gl]) { h.ok with gl := hl, ogl := ho }
end
theorem u32_nV3 {l : List Int} (h : Oct l) (s : CS) : U32 (nV l s 3) := by
  have : 0 ≤ nV l s 3 ∧ nV l s 3 < 16777216 := nV_bd h s 3
  exact ⟨this.1, by omega⟩
theorem u32_nV4 {l : List Int} (h : Oct l) (s : CS) : U32 (nV l s 4) := nV_bd h s 4
theorem byte_nV1 {l : List Int} (h : Oct l) (s : CS) : 0 ≤ nV l s 1 ∧ nV l s 1 < 256 := nV_bd h s 1
theorem ipP_len (l : List Int) (s : CS) (v : Bool) : (pad (tV l s (nb v))).length = 16 := pad_len (Nat.le_trans (took_le _ _ _ _) (nb_le v))
theorem ipP_oct {l : List Int} (h : Oct l) (s : CS) (v : Bool) : Oct (pad (tV l s (nb v))) := pad_oct (took_oct h _ _ _)
theorem wholeV_ok {l : List Int} (h : Oct l) (s : CS) : (wholeV l s).2.1.length = 16 ∧ Oct (wholeV l s).2.1 ∧ I64 (wholeV l s).2.2 := by
  have hb := byte_nV1 h s
  have hi : I64 (nV l s 1) := ⟨by omega, by omega⟩
  unfold wholeV
  split
  · exact ⟨ipP_len _ _ _, ipP_oct h _ _, hi⟩
  · split
    · exact ⟨ipP_len _ _ _, ipP_oct h _ _, hi⟩
    · exact ⟨rfl, oct_zeros 16, hi⟩
theorem pf_part_to {ops : Array Oper} {rest : List Oper} {o : Oper} {a : Act} {w : World} {Q : Exit → Act → World → Prop} (hgd : o.guard = none) (x y : Operand) (ho : o.op = .store 51 x y) (g off : Nat) (v : Bool) (l : List Int) (n : Int) (hl : l.length = 16)
    (hx : a.eval x = .pointer (some ⟨g, off, none⟩)) (hy : a.eval y = .agg (pfc v l n).toArray) (ht : w.there g off 18) (I : World → Prop) (hI : I (w.setCells g off (pfc v l n)))
    (h : ∀ W, I W → wpList Tryz.prog ops Q rest (a.put o.dst undef) W) : wpList Tryz.prog ops Q (o :: rest) a w :=
  part_store hgd 51 x y ho g off (pfc v l n) hx hy (by rw [pfc_len, hl]; exact ht) (by rw [pfc_len, hl]; kernel_rfl) (one_pfc v l n) (h _ hI)

/-! readPrefix -/
def preR (six : Bool) (r : Rt) (l : List Int) (s : CS) : Rt :=
  { r with pn := nV l s 1, v6 := six, pl := pad (tV l (nS l s 1) (nb six)), gv := six, gl := pad (tV l (tS l (nS l s 1) (nb six)) (nb six)), lb := nV l (tS l (tS l (nS l s 1) (nb six)) (nb six)) 3 }
def preS (six : Bool) (l : List Int) (s : CS) : CS := nS l (tS l (tS l (nS l s 1) (nb six)) (nb six)) 3
section
variable {A0 : Option Addr} {c0 : Nat}
set_option maxHeartbeats 1000000 in
theorem rpre_is (w : World) (b g : Nat) (r : Rt) (l : List Int) (s : CS) (six : Bool) (h : RS A0 c0 w b g r l s) :
    Calls Tryz.prog 239 #[.pointer (some ⟨g, 0, none⟩), .pointer (some ⟨b, 0, none⟩), .bool six] w fun e w' => e = .returned (.tuple #[]) ∧ RS A0 c0 w' b g (preR six r l s) l (preS six l s) ∧ Below b w w' := by
  have HO := Lib.hid h.cu.oct
  have HS0 := Lib.hid h
  obtain ⟨hx0, hx1⟩ := byte_nV1 h.cu.oct s
  have HN := Lib.hid (numS w g l s 1 h.cu)
  have HR : Hid (preR six r l s = { r with pn := nV l s 1, v6 := six, pl := pad (tV l (nS l s 1) (nb six)), gv := six, gl := pad (tV l (tS l (nS l s 1) (nb six)) (nb six)), lb := nV l (tS l (tS l (nS l s 1) (nb six)) (nb six)) 3 } ∧ preS six l s = nS l (tS l (tS l (nS l s 1) (nb six)) (nb six)) 3) := Lib.hid ⟨rfl, rfl⟩
  clear h
  generalize nV l s 1 = n at *
  generalize nS l s 1 = s1 at *
  generalize preR six r l s = rr at *
  generalize preS six l s = ss at *
  go_enter Tryz.func239, Tryz.ntmps239
  go_wp2_with fail
  refine HN.out.mono ?_
  rintro e w1 ⟨rfl, hC, hG⟩
  have hs1 := HS0.out.step hC hG
  have hcell := hs1.rt.cPn hs1.ok
  have hfr := hs1.rt.fr 43 (by omega)
  have HS1 := Lib.hid (hs1.setPn n ⟨by omega, by omega⟩)
  have HB1 := Lib.hid ((HS0.out.low hG).trans (low_cells w1 b 43 [.int .i64 n]))
  change Hid (Below b w (w1.setCell ⟨b, 43, none⟩ (.int .i64 n))) at HB1
  clear hC hG hs1 HN
  go_wp2_with fail
  generalize w1.setCell ⟨b, 43, none⟩ (.int .i64 n) = W1 at *
  refine (rip_is _ g l _ six HS1.out.cu).mono ?_
  rintro e w2 ⟨rfl, hC2, hG2⟩
  have hs2 := HS1.out.step hC2 hG2
  have hth := hs2.rt.thereAt 26 17 (by omega)
  have HL1 := Lib.hid (ipP_len l s1 six)
  have HP1 := Lib.hid (ipP_oct HO.out s1 six)
  generalize pad (tV l s1 (nb six)) = x1 at *
  have HS2 := Lib.hid (hs2.setIp six x1 HL1.out HP1.out)
  have HB2 := Lib.hid ((HB1.out.trans (HS1.out.low hG2)).trans (low_cells w2 b 26 (ipc six x1)))
  clear hC2 hG2 hs2 HS1 HB1
  go_wp2_with (first
    | (refine ip_part_to rfl _ _ rfl b 26 six x1 HL1.out rfl rfl hth (fun W => RS A0 c0 W b g _ l _ ∧ Below b w W) ⟨HS2.out, HB2.out⟩ ?_; intro W2 hW2; have HW2 := Lib.hid hW2; clear hW2)
    | fail)
  clear HS2 HB2
  refine (rip_is _ g l _ six HW2.out.1.cu).mono ?_
  rintro e w3 ⟨rfl, hC3, hG3⟩
  have hs3 := HW2.out.1.step hC3 hG3
  have hth2 := hs3.rt.thereAt 44 17 (by omega)
  have HL2 := Lib.hid (ipP_len l (tS l s1 (nb six)) six)
  have HP2 := Lib.hid (ipP_oct HO.out (tS l s1 (nb six)) six)
  generalize pad (tV l (tS l s1 (nb six)) (nb six)) = x2 at *
  generalize tS l (tS l s1 (nb six)) (nb six) = s3 at *
  have HS3 := Lib.hid (hs3.setGw six x2 HL2.out HP2.out)
  have HB3 := Lib.hid ((HW2.out.2.trans (HW2.out.1.low hG3)).trans (low_cells w3 b 44 (ipc six x2)))
  clear hC3 hG3 hs3 HW2 hth
  go_wp2_with (first
    | (refine ip_part_to rfl _ _ rfl b 44 six x2 HL2.out rfl rfl hth2 (fun W => RS A0 c0 W b g _ l s3 ∧ Below b w W) ⟨HS3.out, HB3.out⟩ ?_; intro W3 hW3; have HW3 := Lib.hid hW3; clear hW3)
    | fail)
  clear HS3 HB3 hth2
  refine (label_is _ g l _ HW3.out.1.cu).mono ?_
  rintro e w4 ⟨rfl, hC4, hG4⟩
  have hs4 := HW3.out.1.step hC4 hG4
  have hu := u32_nV3 HO.out s3
  have hcell4 := hs4.rt.cLb hs4.ok
  have hfr4 := hs4.rt.fr 61 (by omega)
  have HS4 := Lib.hid (hs4.setLb _ hu)
  have HB4 := Lib.hid ((HW3.out.2.trans (HW3.out.1.low hG4)).trans (low_cells w4 b 61 [.int .u32 (nV l s3 3)]))
  change Hid (Below b w (w4.setCell ⟨b, 61, none⟩ (.int .u32 (nV l s3 3)))) at HB4
  clear hC4 hG4 hs4 HW3 hu
  go_wp2
  go_end0
  exact ⟨rfl, by rw [HR.out.1, HR.out.2]; exact HS4.out, HB4.out⟩
end

/-! readMac -/
def macR (r : Rt) (l : List Int) (s : CS) : Rt :=
  { r with mc := fillV l (nS l s 1) 6, v6 := (wholeV l (fillS l (nS l s 1) 6)).1, pl := (wholeV l (fillS l (nS l s 1) 6)).2.1, pn := (wholeV l (fillS l (nS l s 1) 6)).2.2, lb := nV l (wholeS l (fillS l (nS l s 1) 6)) 3, l2 := if (nS l (wholeS l (fillS l (nS l s 1) 6)) 3).1 < l.length then nV l (nS l (wholeS l (fillS l (nS l s 1) 6)) 3) 3 else r.l2 }
def macS (l : List Int) (s : CS) : CS :=
  if (nS l (wholeS l (fillS l (nS l s 1) 6)) 3).1 < l.length then nS l (nS l (wholeS l (fillS l (nS l s 1) 6)) 3) 3 else nS l (wholeS l (fillS l (nS l s 1) 6)) 3
section
variable {A0 : Option Addr} {c0 : Nat}
set_option maxHeartbeats 2000000 in
theorem rmac_is (w : World) (b g : Nat) (r : Rt) (l : List Int) (s : CS) (h : RS A0 c0 w b g r l s) :
    Calls Tryz.prog 237 #[.pointer (some ⟨g, 0, none⟩), .pointer (some ⟨b, 0, none⟩)] w fun e w' => e = .returned (.bool (decide (nV l s 1 = 48))) ∧ RS A0 c0 w' b g (macR r l s) l (macS l s) ∧ Below b w w' := by
  have HO := Lib.hid h.cu.oct
  have HS0 := Lib.hid h
  obtain ⟨hx0, hx1⟩ := byte_nV1 h.cu.oct s
  have HN := Lib.hid (numS w g l s 1 h.cu)
  have HR : Hid (macR r l s = { r with mc := fillV l (nS l s 1) 6, v6 := (wholeV l (fillS l (nS l s 1) 6)).1, pl := (wholeV l (fillS l (nS l s 1) 6)).2.1, pn := (wholeV l (fillS l (nS l s 1) 6)).2.2, lb := nV l (wholeS l (fillS l (nS l s 1) 6)) 3, l2 := if (nS l (wholeS l (fillS l (nS l s 1) 6)) 3).1 < l.length then nV l (nS l (wholeS l (fillS l (nS l s 1) 6)) 3) 3 else r.l2 } ∧
    macS l s = if (nS l (wholeS l (fillS l (nS l s 1) 6)) 3).1 < l.length then nS l (nS l (wholeS l (fillS l (nS l s 1) 6)) 3) 3 else nS l (wholeS l (fillS l (nS l s 1) 6)) 3) := Lib.hid ⟨rfl, rfl⟩
  have hs6 : ∀ W, (Instr.sliceAt 49 (.pointer (some ⟨b, 20, none⟩)) none none none).run Tryz.prog W = .ok (.slice (some ⟨b, 20, none⟩) 6 6) W := fun W => by go_simp
  clear h
  generalize nS l s 1 = s1 at *
  generalize macR r l s = rr at *
  generalize macS l s = ss at *
  generalize nV l s 1 = bt at *
  go_enter Tryz.func237, Tryz.ntmps237
  go_wp2_with fail
  refine HN.out.mono ?_
  rintro e w1 ⟨rfl, hC, hG⟩
  have HS1 := Lib.hid (HS0.out.step hC hG)
  have HB1 := Lib.hid (HS0.out.low hG)
  clear hC hG HN HS0
  go_wp2_with fail
  refine (fill_is _ b g 20 6 6 (fun xs => { r with mc := xs }) (preMc r) (postMc r) (fun xs => rtc_mc _) (preMc_len HS1.out.ok) (fun xs hl ho => { HS1.out.ok with mc := hl, omc := ho }) r.mc HS1.out.ok.mc HS1.out.ok.omc (by omega) l s1 HS1.out).mono ?_
  rintro e w2 ⟨rfl, hS2, hB2⟩
  have HS2 := Lib.hid hS2
  have HB2 := Lib.hid (HB1.out.trans hB2)
  clear hS2 hB2 HS1 HB1 hs6
  generalize fillV l s1 6 = mc at *
  generalize fillS l s1 6 = s2 at *
  go_wp2_with fail
  refine (whole_at _ g l s2 HS2.out.cu).mono ?_
  rintro e w3 ⟨rfl, hC3, hG3⟩
  have hs3 := HS2.out.step hC3 hG3
  have hth := hs3.rt.thereAt 26 18 (by omega)
  obtain ⟨hl3, ho3, hn3⟩ := wholeV_ok HO.out s2
  have HL3 := Lib.hid hl3
  generalize wholeV l s2 = pv at *
  obtain ⟨v6, xs, n⟩ := pv
  simp only at hl3 ho3 hn3 HL3
  generalize wholeS l s2 = s3 at *
  have HS3 := Lib.hid (hs3.setPf v6 xs n hl3 ho3 hn3)
  have HB3 := Lib.hid ((HB2.out.trans (HS2.out.low hG3)).trans (low_cells w3 b 26 (pfc v6 xs n)))
  clear hC3 hG3 hs3 HS2 HB2 hl3 ho3 hn3
  go_wp2_with (first
    | (refine pf_part_to rfl _ _ rfl b 26 v6 xs n HL3.out rfl rfl hth (fun W => RS A0 c0 W b g _ l s3 ∧ Below b w W) ⟨HS3.out, HB3.out⟩ ?_; intro W3 hW3; have HW3 := Lib.hid hW3; clear hW3)
    | fail)
  clear HS3 HB3 hth
  refine (label_is _ g l _ HW3.out.1.cu).mono ?_
  rintro e w4 ⟨rfl, hC4, hG4⟩
  have hs4 := HW3.out.1.step hC4 hG4
  have hu := u32_nV3 HO.out s3
  have hcell4 := hs4.rt.cLb hs4.ok
  have hfr4 := hs4.rt.fr 61 (by omega)
  have HS4 := Lib.hid (hs4.setLb _ hu)
  have HB4 := Lib.hid ((HW3.out.2.trans (HW3.out.1.low hG4)).trans (low_cells w4 b 61 [.int .u32 (nV l s3 3)]))
  change Hid (Below b w (w4.setCell ⟨b, 61, none⟩ (.int .u32 (nV l s3 3)))) at HB4
  clear hC4 hG4 hs4 HW3 hu
  generalize nV l s3 3 = lb at *
  generalize nS l s3 3 = s4 at *
  go_wp2_with fail
  generalize w4.setCell ⟨b, 61, none⟩ (.int .u32 lb) = W4 at *
  clear hcell4 hfr4
  refine (leftC_is _ g l _ _ HS4.out.cu.toIsCurT).mono ?_
  rintro e w5 ⟨rfl, k5, rfl⟩
  have HS5 := Lib.hid (HS4.out.drewN k5)
  have HB5 := Lib.hid (below_drewN HB4.out k5)
  have hle4 := HS4.out.cu.le
  clear HS4 HB4
  by_cases hlt : s4.1 < l.length
  · simp only [if_pos hlt] at HR
    go_wp2_with fail
    generalize W4.drewN k5 = W5 at *
    refine (label_is _ g l _ HS5.out.cu).mono ?_
    rintro e w6 ⟨rfl, hC6, hG6⟩
    have hs6 := HS5.out.step hC6 hG6
    have hu := u32_nV3 HO.out s4
    have hcell6 := hs6.rt.cL2 hs6.ok
    have hfr6 := hs6.rt.fr 62 (by omega)
    have HS6 := Lib.hid (hs6.setL2 _ hu)
    have HB6 := Lib.hid ((HB5.out.trans (HS5.out.low hG6)).trans (low_cells w6 b 62 [.int .u32 (nV l s4 3)]))
    change Hid (Below b w (w6.setCell ⟨b, 62, none⟩ (.int .u32 (nV l s4 3)))) at HB6
    clear hC6 hG6 hs6 HS5 HB5 hu
    go_wp2
    go_ret
    refine ⟨by congr 2, by rw [HR.out.1, HR.out.2]; exact HS6.out, HB6.out⟩
  · simp only [if_neg hlt] at HR
    go_wp2
    go_ret
    refine ⟨by congr 2, by rw [HR.out.1, HR.out.2]; exact HS5.out, HB5.out⟩
end
end Go.Proofs.YtdgoeibfggjbmaaGreatDoor
namespace Go.Proofs.YtdgoeibfggjbmaaGreatDoor
open Go.RowKit
set_option maxRecDepth 100000
set_option linter.unusedSimpArgs false
set_option linter.unusedVariables false

def fs1 (l : List Int) : CS := fillS l (0, 0) 8
def fs2 (l : List Int) (k : Int) : CS := if k = 3 then fs1 l else fillS l (fs1 l) 10
def fs3 (l : List Int) (k : Int) : CS := if k = 4 then fs2 l k else nS l (fs2 l k) 4
/-- The fields that are read ahead. -/
def hdR (r : Rt) (l : List Int) : Rt :=
  { r with rd := fillV l (0, 0) 8, es := if r.k = 3 then r.es else fillV l (fs1 l) 10, tg := if r.k = 4 then r.tg else nV l (fs2 l r.k) 4 }
/-- All fields; where the cursor then stands; whether what stands beside them is as it must be. -/
def fdR (r : Rt) (l : List Int) : Rt :=
  if r.k = 1 then { hdR r l with lb := nV l (fs3 l r.k) 3 }
  else if r.k = 2 then macR (hdR r l) l (fs3 l r.k)
  else if r.k = 5 then preR (decide (l.length = 58)) (hdR r l) l (fs3 l r.k)
  else { hdR r l with v6 := (wholeV l (fs3 l r.k)).1, pl := (wholeV l (fs3 l r.k)).2.1, pn := (wholeV l (fs3 l r.k)).2.2 }
def fdS (k : Int) (l : List Int) : CS :=
  if k = 1 then nS l (fs3 l k) 3
  else if k = 2 then macS l (fs3 l k)
  else if k = 5 then preS (decide (l.length = 58)) l (fs3 l k)
  else wholeS l (fs3 l k)
def fdB (k : Int) (l : List Int) : Bool := if k = 2 then decide (nV l (fs3 l k) 1 = 48) else true
section
variable {A0 : Option Addr} {c0 : Nat}
set_option maxHeartbeats 2000000 in
theorem fields_1 (w : World) (b g : Nat) (r : Rt) (l : List Int) (h : RS A0 c0 w b g r l (0, 0)) (hk : r.k = 1) :
    Calls Tryz.prog 231 #[.pointer (some ⟨g, 0, none⟩), .pointer (some ⟨b, 0, none⟩)] w fun e w' => e = .returned (.bool (fdB r.k l)) ∧ RS A0 c0 w' b g (fdR r l) l (fdS r.k l) ∧ Below b w w' := by
  have HO := Lib.hid h.cu.oct
  have HS0 := Lib.hid h
  have HK := Lib.hid hk
  have hs8 : ∀ W, (Instr.sliceAt 45 (.pointer (some ⟨b, 1, none⟩)) none none none).run Tryz.prog W = .ok (.slice (some ⟨b, 1, none⟩) 8 8) W := fun W => by go_simp
  have hs10 : ∀ W, (Instr.sliceAt 47 (.pointer (some ⟨b, 9, none⟩)) none none none).run Tryz.prog W = .ok (.slice (some ⟨b, 9, none⟩) 10 10) W := fun W => by go_simp
  have HF : Hid (fdR r l = { r with rd := fillV l (0, 0) 8, es := fillV l (fs1 l) 10, tg := nV l (fillS l (fs1 l) 10) 4, lb := nV l (nS l (fillS l (fs1 l) 10) 4) 3 } ∧ fdS r.k l = nS l (nS l (fillS l (fs1 l) 10) 4) 3 ∧ fdB r.k l = true) := Lib.hid (by
    unfold fdR fdS fdB hdR fs3 fs2
    simp [hk])
  clear h hk
  go_enter Tryz.func231, Tryz.ntmps231
  go_wp2_with fail
  refine (leftC_is _ g l _ _ HS0.out.cu.toIsCurT).mono ?_
  rintro e w1 ⟨rfl, k1, rfl⟩
  have HS1 := Lib.hid (HS0.out.drewN k1)
  have HB1 := Lib.hid (below_drewN (Below.refl b w) k1)
  clear HS0
  generalize w.drewN k1 = W1 at *
  go_wp2_with fail
  refine (fill_is _ b g 1 8 8 (fun xs => { r with rd := xs }) [.int .i64 r.k] (postRd r) (fun xs => rtc_rd _) rfl (fun xs hl ho => { HS1.out.ok with rd := hl, ord := ho }) r.rd HS1.out.ok.rd HS1.out.ok.ord (by omega) l (0, 0) HS1.out).mono ?_
  rintro e w2 ⟨rfl, hS2, hB2⟩
  have HS2 := Lib.hid hS2
  have HB2 := Lib.hid (HB1.out.trans hB2)
  have hck2 := hS2.rt.cK
  simp only [HK.out] at hck2
  clear hS2 hB2 HS1 HB1
  change Hid (RS A0 c0 w2 b g _ l (fs1 l)) at HS2
  generalize fillV l (0, 0) 8 = v1 at *
  generalize fs1 l = s1 at *
  go_wp2_with fail
  refine (fill_is _ b g 9 10 10 (fun xs => { r with rd := v1, es := xs }) (preEs { r with rd := v1 }) (postEs r) (fun xs => rtc_es _) (preEs_len HS2.out.ok) (fun xs hl ho => { HS2.out.ok with es := hl, oes := ho }) r.es HS2.out.ok.es HS2.out.ok.oes (by omega) l s1 HS2.out).mono ?_
  rintro e w3 ⟨rfl, hS3, hB3⟩
  have HS3 := Lib.hid hS3
  have HB3 := Lib.hid (HB2.out.trans hB3)
  have hck3 := hS3.rt.cK
  simp only [HK.out] at hck3
  clear hS3 hB3 HS2 HB2 hck2
  generalize fillV l s1 10 = v2 at *
  generalize fillS l s1 10 = s2 at *
  go_wp2_with fail
  refine (numS _ g l s2 4 HS3.out.cu).mono ?_
  rintro e w4 ⟨rfl, hC4, hG4⟩
  have hs4 := HS3.out.step hC4 hG4
  have hu4 := u32_nV4 HO.out s2
  have hcell4 := hs4.rt.cTg hs4.ok
  have hfr4 := hs4.rt.fr 19 (by omega)
  generalize nV l s2 4 = tg at *
  generalize nS l s2 4 = s3 at *
  obtain ⟨hu4a, hu4b⟩ := hu4
  have HS4 := Lib.hid (hs4.setTg tg ⟨hu4a, hu4b⟩)
  have HB4 := Lib.hid ((HB3.out.trans (HS3.out.low hG4)).trans (low_cells w4 b 19 [.int .u32 tg]))
  change Hid (Below b w (w4.setCell ⟨b, 19, none⟩ (.int .u32 tg))) at HB4
  have hck4 := HS4.out.rt.cK
  simp only [HK.out] at hck4
  clear hC4 hG4 hs4 HS3 HB3 hck3
  go_wp2_with fail
  generalize w4.setCell ⟨b, 19, none⟩ (.int .u32 tg) = W4 at *
  clear hcell4 hfr4
  refine (label_is _ g l _ HS4.out.cu).mono ?_
  rintro e w5 ⟨rfl, hC5, hG5⟩
  have hs5 := HS4.out.step hC5 hG5
  have hu := u32_nV3 HO.out s3
  have hcell5 := hs5.rt.cLb hs5.ok
  have hfr5 := hs5.rt.fr 61 (by omega)
  have HS5 := Lib.hid (hs5.setLb _ hu)
  have HB5 := Lib.hid ((HB4.out.trans (HS4.out.low hG5)).trans (low_cells w5 b 61 [.int .u32 (nV l s3 3)]))
  change Hid (Below b w (w5.setCell ⟨b, 61, none⟩ (.int .u32 (nV l s3 3)))) at HB5
  clear hC5 hG5 hs5 HS4 HB4 hck4 hu
  go_wp2
  go_ret
  exact ⟨by rw [HF.out.2.2]; rfl, by rw [HF.out.1, HF.out.2.1]; exact HS5.out, HB5.out⟩
set_option maxHeartbeats 2000000 in
theorem fields_2 (w : World) (b g : Nat) (r : Rt) (l : List Int) (h : RS A0 c0 w b g r l (0, 0)) (hk : r.k = 2) :
    Calls Tryz.prog 231 #[.pointer (some ⟨g, 0, none⟩), .pointer (some ⟨b, 0, none⟩)] w fun e w' => e = .returned (.bool (fdB r.k l)) ∧ RS A0 c0 w' b g (fdR r l) l (fdS r.k l) ∧ Below b w w' := by
  have HO := Lib.hid h.cu.oct
  have HS0 := Lib.hid h
  have HK := Lib.hid hk
  have hs8 : ∀ W, (Instr.sliceAt 45 (.pointer (some ⟨b, 1, none⟩)) none none none).run Tryz.prog W = .ok (.slice (some ⟨b, 1, none⟩) 8 8) W := fun W => by go_simp
  have hs10 : ∀ W, (Instr.sliceAt 47 (.pointer (some ⟨b, 9, none⟩)) none none none).run Tryz.prog W = .ok (.slice (some ⟨b, 9, none⟩) 10 10) W := fun W => by go_simp
  have HF : Hid (fdR r l = macR { r with rd := fillV l (0, 0) 8, es := fillV l (fs1 l) 10, tg := nV l (fillS l (fs1 l) 10) 4 } l (nS l (fillS l (fs1 l) 10) 4) ∧ fdS r.k l = macS l (nS l (fillS l (fs1 l) 10) 4) ∧ fdB r.k l = decide (nV l (nS l (fillS l (fs1 l) 10) 4) 1 = 48)) := Lib.hid (by
    unfold fdR fdS fdB hdR fs3 fs2
    simp [hk])
  clear h hk
  go_enter Tryz.func231, Tryz.ntmps231
  go_wp2_with fail
  refine (leftC_is _ g l _ _ HS0.out.cu.toIsCurT).mono ?_
  rintro e w1 ⟨rfl, k1, rfl⟩
  have HS1 := Lib.hid (HS0.out.drewN k1)
  have HB1 := Lib.hid (below_drewN (Below.refl b w) k1)
  clear HS0
  generalize w.drewN k1 = W1 at *
  go_wp2_with fail
  refine (fill_is _ b g 1 8 8 (fun xs => { r with rd := xs }) [.int .i64 r.k] (postRd r) (fun xs => rtc_rd _) rfl (fun xs hl ho => { HS1.out.ok with rd := hl, ord := ho }) r.rd HS1.out.ok.rd HS1.out.ok.ord (by omega) l (0, 0) HS1.out).mono ?_
  rintro e w2 ⟨rfl, hS2, hB2⟩
  have HS2 := Lib.hid hS2
  have HB2 := Lib.hid (HB1.out.trans hB2)
  have hck2 := hS2.rt.cK
  simp only [HK.out] at hck2
  clear hS2 hB2 HS1 HB1
  change Hid (RS A0 c0 w2 b g _ l (fs1 l)) at HS2
  generalize fillV l (0, 0) 8 = v1 at *
  generalize fs1 l = s1 at *
  go_wp2_with fail
  refine (fill_is _ b g 9 10 10 (fun xs => { r with rd := v1, es := xs }) (preEs { r with rd := v1 }) (postEs r) (fun xs => rtc_es _) (preEs_len HS2.out.ok) (fun xs hl ho => { HS2.out.ok with es := hl, oes := ho }) r.es HS2.out.ok.es HS2.out.ok.oes (by omega) l s1 HS2.out).mono ?_
  rintro e w3 ⟨rfl, hS3, hB3⟩
  have HS3 := Lib.hid hS3
  have HB3 := Lib.hid (HB2.out.trans hB3)
  have hck3 := hS3.rt.cK
  simp only [HK.out] at hck3
  clear hS3 hB3 HS2 HB2 hck2
  generalize fillV l s1 10 = v2 at *
  generalize fillS l s1 10 = s2 at *
  go_wp2_with fail
  refine (numS _ g l s2 4 HS3.out.cu).mono ?_
  rintro e w4 ⟨rfl, hC4, hG4⟩
  have hs4 := HS3.out.step hC4 hG4
  have hu4 := u32_nV4 HO.out s2
  have hcell4 := hs4.rt.cTg hs4.ok
  have hfr4 := hs4.rt.fr 19 (by omega)
  generalize nV l s2 4 = tg at *
  generalize nS l s2 4 = s3 at *
  obtain ⟨hu4a, hu4b⟩ := hu4
  have HS4 := Lib.hid (hs4.setTg tg ⟨hu4a, hu4b⟩)
  have HB4 := Lib.hid ((HB3.out.trans (HS3.out.low hG4)).trans (low_cells w4 b 19 [.int .u32 tg]))
  change Hid (Below b w (w4.setCell ⟨b, 19, none⟩ (.int .u32 tg))) at HB4
  have hck4 := HS4.out.rt.cK
  simp only [HK.out] at hck4
  clear hC4 hG4 hs4 HS3 HB3 hck3
  go_wp2_with fail
  generalize w4.setCell ⟨b, 19, none⟩ (.int .u32 tg) = W4 at *
  clear hcell4 hfr4
  refine (rmac_is _ b g _ l _ HS4.out).mono ?_
  rintro e w5 ⟨rfl, hS5, hB5⟩
  have HS5 := Lib.hid hS5
  have HB5 := Lib.hid (HB4.out.trans hB5)
  clear hS5 hB5 HS4 HB4 hck4
  go_wp2
  go_ret
  exact ⟨by rw [HF.out.2.2]; rfl, by rw [HF.out.1, HF.out.2.1]; exact HS5.out, HB5.out⟩
set_option maxHeartbeats 2000000 in
theorem fields_3 (w : World) (b g : Nat) (r : Rt) (l : List Int) (h : RS A0 c0 w b g r l (0, 0)) (hk : r.k = 3) :
    Calls Tryz.prog 231 #[.pointer (some ⟨g, 0, none⟩), .pointer (some ⟨b, 0, none⟩)] w fun e w' => e = .returned (.bool (fdB r.k l)) ∧ RS A0 c0 w' b g (fdR r l) l (fdS r.k l) ∧ Below b w w' := by
  have HO := Lib.hid h.cu.oct
  have HS0 := Lib.hid h
  have HK := Lib.hid hk
  have hs8 : ∀ W, (Instr.sliceAt 45 (.pointer (some ⟨b, 1, none⟩)) none none none).run Tryz.prog W = .ok (.slice (some ⟨b, 1, none⟩) 8 8) W := fun W => by go_simp
  have hs10 : ∀ W, (Instr.sliceAt 47 (.pointer (some ⟨b, 9, none⟩)) none none none).run Tryz.prog W = .ok (.slice (some ⟨b, 9, none⟩) 10 10) W := fun W => by go_simp
  have HF : Hid (fdR r l = { r with rd := fillV l (0, 0) 8, tg := nV l (fs1 l) 4, v6 := (wholeV l (nS l (fs1 l) 4)).1, pl := (wholeV l (nS l (fs1 l) 4)).2.1, pn := (wholeV l (nS l (fs1 l) 4)).2.2 } ∧ fdS r.k l = wholeS l (nS l (fs1 l) 4) ∧ fdB r.k l = true) := Lib.hid (by
    unfold fdR fdS fdB hdR fs3 fs2
    simp [hk])
  clear h hk
  go_enter Tryz.func231, Tryz.ntmps231
  go_wp2_with fail
  refine (leftC_is _ g l _ _ HS0.out.cu.toIsCurT).mono ?_
  rintro e w1 ⟨rfl, k1, rfl⟩
  have HS1 := Lib.hid (HS0.out.drewN k1)
  have HB1 := Lib.hid (below_drewN (Below.refl b w) k1)
  clear HS0
  generalize w.drewN k1 = W1 at *
  go_wp2_with fail
  refine (fill_is _ b g 1 8 8 (fun xs => { r with rd := xs }) [.int .i64 r.k] (postRd r) (fun xs => rtc_rd _) rfl (fun xs hl ho => { HS1.out.ok with rd := hl, ord := ho }) r.rd HS1.out.ok.rd HS1.out.ok.ord (by omega) l (0, 0) HS1.out).mono ?_
  rintro e w2 ⟨rfl, hS2, hB2⟩
  have HS2 := Lib.hid hS2
  have HB2 := Lib.hid (HB1.out.trans hB2)
  have hck2 := hS2.rt.cK
  simp only [HK.out] at hck2
  clear hS2 hB2 HS1 HB1
  change Hid (RS A0 c0 w2 b g _ l (fs1 l)) at HS2
  generalize fillV l (0, 0) 8 = v1 at *
  generalize fs1 l = s1 at *
  go_wp2_with fail
  refine (numS _ g l s1 4 HS2.out.cu).mono ?_
  rintro e w4 ⟨rfl, hC4, hG4⟩
  have hs4 := HS2.out.step hC4 hG4
  have hu4 := u32_nV4 HO.out s1
  have hcell4 := hs4.rt.cTg hs4.ok
  have hfr4 := hs4.rt.fr 19 (by omega)
  generalize nV l s1 4 = tg at *
  generalize nS l s1 4 = s3 at *
  obtain ⟨hu4a, hu4b⟩ := hu4
  have HS4 := Lib.hid (hs4.setTg tg ⟨hu4a, hu4b⟩)
  have HB4 := Lib.hid ((HB2.out.trans (HS2.out.low hG4)).trans (low_cells w4 b 19 [.int .u32 tg]))
  change Hid (Below b w (w4.setCell ⟨b, 19, none⟩ (.int .u32 tg))) at HB4
  have hck4 := HS4.out.rt.cK
  simp only [HK.out] at hck4
  clear hC4 hG4 hs4 HS2 HB2 hck2
  go_wp2_with fail
  generalize w4.setCell ⟨b, 19, none⟩ (.int .u32 tg) = W4 at *
  clear hcell4 hfr4
  refine (whole_at _ g l _ HS4.out.cu).mono ?_
  rintro e w5 ⟨rfl, hC5, hG5⟩
  have hs5 := HS4.out.step hC5 hG5
  have hth := hs5.rt.thereAt 26 18 (by omega)
  obtain ⟨hl5, ho5, hn5⟩ := wholeV_ok HO.out s3
  have HL5 := Lib.hid hl5
  generalize wholeV l s3 = pv at *
  obtain ⟨v6, xs, n⟩ := pv
  simp only at hl5 ho5 hn5 HL5
  generalize wholeS l s3 = s5 at *
  have HS5 := Lib.hid (hs5.setPf v6 xs n hl5 ho5 hn5)
  have HB5 := Lib.hid ((HB4.out.trans (HS4.out.low hG5)).trans (low_cells w5 b 26 (pfc v6 xs n)))
  clear hC5 hG5 hs5 HS4 HB4 hck4 hl5 ho5 hn5
  go_wp2_with (first
    | (refine pf_part_to rfl _ _ rfl b 26 v6 xs n HL5.out rfl rfl hth (fun W => RS A0 c0 W b g _ l s5 ∧ Below b w W) ⟨HS5.out, HB5.out⟩ ?_; intro W5 hW5; have HW5 := Lib.hid hW5; clear hW5)
    | fail)
  go_ret
  exact ⟨by rw [HF.out.2.2]; rfl, by rw [HF.out.1, HF.out.2.1]; exact HW5.out.1, HW5.out.2⟩
set_option maxHeartbeats 2000000 in
theorem fields_4 (w : World) (b g : Nat) (r : Rt) (l : List Int) (h : RS A0 c0 w b g r l (0, 0)) (hk : r.k = 4) :
    Calls Tryz.prog 231 #[.pointer (some ⟨g, 0, none⟩), .pointer (some ⟨b, 0, none⟩)] w fun e w' => e = .returned (.bool (fdB r.k l)) ∧ RS A0 c0 w' b g (fdR r l) l (fdS r.k l) ∧ Below b w w' := by
  have HO := Lib.hid h.cu.oct
  have HS0 := Lib.hid h
  have HK := Lib.hid hk
  have hs8 : ∀ W, (Instr.sliceAt 45 (.pointer (some ⟨b, 1, none⟩)) none none none).run Tryz.prog W = .ok (.slice (some ⟨b, 1, none⟩) 8 8) W := fun W => by go_simp
  have hs10 : ∀ W, (Instr.sliceAt 47 (.pointer (some ⟨b, 9, none⟩)) none none none).run Tryz.prog W = .ok (.slice (some ⟨b, 9, none⟩) 10 10) W := fun W => by go_simp
  have HF : Hid (fdR r l = { r with rd := fillV l (0, 0) 8, es := fillV l (fs1 l) 10, v6 := (wholeV l (fillS l (fs1 l) 10)).1, pl := (wholeV l (fillS l (fs1 l) 10)).2.1, pn := (wholeV l (fillS l (fs1 l) 10)).2.2 } ∧ fdS r.k l = wholeS l (fillS l (fs1 l) 10) ∧ fdB r.k l = true) := Lib.hid (by
    unfold fdR fdS fdB hdR fs3 fs2
    simp [hk])
  clear h hk
  go_enter Tryz.func231, Tryz.ntmps231
  go_wp2_with fail
  refine (leftC_is _ g l _ _ HS0.out.cu.toIsCurT).mono ?_
  rintro e w1 ⟨rfl, k1, rfl⟩
  have HS1 := Lib.hid (HS0.out.drewN k1)
  have HB1 := Lib.hid (below_drewN (Below.refl b w) k1)
  clear HS0
  generalize w.drewN k1 = W1 at *
  go_wp2_with fail
  refine (fill_is _ b g 1 8 8 (fun xs => { r with rd := xs }) [.int .i64 r.k] (postRd r) (fun xs => rtc_rd _) rfl (fun xs hl ho => { HS1.out.ok with rd := hl, ord := ho }) r.rd HS1.out.ok.rd HS1.out.ok.ord (by omega) l (0, 0) HS1.out).mono ?_
  rintro e w2 ⟨rfl, hS2, hB2⟩
  have HS2 := Lib.hid hS2
  have HB2 := Lib.hid (HB1.out.trans hB2)
  have hck2 := hS2.rt.cK
  simp only [HK.out] at hck2
  clear hS2 hB2 HS1 HB1
  change Hid (RS A0 c0 w2 b g _ l (fs1 l)) at HS2
  generalize fillV l (0, 0) 8 = v1 at *
  generalize fs1 l = s1 at *
  go_wp2_with fail
  refine (fill_is _ b g 9 10 10 (fun xs => { r with rd := v1, es := xs }) (preEs { r with rd := v1 }) (postEs r) (fun xs => rtc_es _) (preEs_len HS2.out.ok) (fun xs hl ho => { HS2.out.ok with es := hl, oes := ho }) r.es HS2.out.ok.es HS2.out.ok.oes (by omega) l s1 HS2.out).mono ?_
  rintro e w3 ⟨rfl, hS3, hB3⟩
  have HS3 := Lib.hid hS3
  have HB3 := Lib.hid (HB2.out.trans hB3)
  have hck3 := hS3.rt.cK
  simp only [HK.out] at hck3
  clear hS3 hB3 HS2 HB2 hck2
  generalize fillV l s1 10 = v2 at *
  generalize fillS l s1 10 = s2 at *
  go_wp2_with fail
  refine (whole_at _ g l _ HS3.out.cu).mono ?_
  rintro e w5 ⟨rfl, hC5, hG5⟩
  have hs5 := HS3.out.step hC5 hG5
  have hth := hs5.rt.thereAt 26 18 (by omega)
  obtain ⟨hl5, ho5, hn5⟩ := wholeV_ok HO.out s2
  have HL5 := Lib.hid hl5
  generalize wholeV l s2 = pv at *
  obtain ⟨v6, xs, n⟩ := pv
  simp only at hl5 ho5 hn5 HL5
  generalize wholeS l s2 = s5 at *
  have HS5 := Lib.hid (hs5.setPf v6 xs n hl5 ho5 hn5)
  have HB5 := Lib.hid ((HB3.out.trans (HS3.out.low hG5)).trans (low_cells w5 b 26 (pfc v6 xs n)))
  clear hC5 hG5 hs5 HS3 HB3 hck3 hl5 ho5 hn5
  go_wp2_with (first
    | (refine pf_part_to rfl _ _ rfl b 26 v6 xs n HL5.out rfl rfl hth (fun W => RS A0 c0 W b g _ l s5 ∧ Below b w W) ⟨HS5.out, HB5.out⟩ ?_; intro W5 hW5; have HW5 := Lib.hid hW5; clear hW5)
    | fail)
  go_ret
  exact ⟨by rw [HF.out.2.2]; rfl, by rw [HF.out.1, HF.out.2.1]; exact HW5.out.1, HW5.out.2⟩
set_option maxHeartbeats 2000000 in
theorem fields_5 (w : World) (b g : Nat) (r : Rt) (l : List Int) (h : RS A0 c0 w b g r l (0, 0)) (hk : r.k = 5) :
    Calls Tryz.prog 231 #[.pointer (some ⟨g, 0, none⟩), .pointer (some ⟨b, 0, none⟩)] w fun e w' => e = .returned (.bool (fdB r.k l)) ∧ RS A0 c0 w' b g (fdR r l) l (fdS r.k l) ∧ Below b w w' := by
  have HO := Lib.hid h.cu.oct
  have HS0 := Lib.hid h
  have HK := Lib.hid hk
  have hs8 : ∀ W, (Instr.sliceAt 45 (.pointer (some ⟨b, 1, none⟩)) none none none).run Tryz.prog W = .ok (.slice (some ⟨b, 1, none⟩) 8 8) W := fun W => by go_simp
  have hs10 : ∀ W, (Instr.sliceAt 47 (.pointer (some ⟨b, 9, none⟩)) none none none).run Tryz.prog W = .ok (.slice (some ⟨b, 9, none⟩) 10 10) W := fun W => by go_simp
  have HF : Hid (fdR r l = preR (decide (l.length = 58)) { r with rd := fillV l (0, 0) 8, es := fillV l (fs1 l) 10, tg := nV l (fillS l (fs1 l) 10) 4 } l (nS l (fillS l (fs1 l) 10) 4) ∧ fdS r.k l = preS (decide (l.length = 58)) l (nS l (fillS l (fs1 l) 10) 4) ∧ fdB r.k l = true) := Lib.hid (by
    unfold fdR fdS fdB hdR fs3 fs2
    simp [hk])
  generalize h58 : decide (l.length = 58) = six at *
  have e58 : ((l.length : Int) == 58) = six := by rw [← h58, Bool.eq_iff_iff, beq_iff_eq, decide_eq_true_iff]; omega
  clear h58
  clear h hk
  go_enter Tryz.func231, Tryz.ntmps231
  go_wp2_with fail
  refine (leftC_is _ g l _ _ HS0.out.cu.toIsCurT).mono ?_
  rintro e w1 ⟨rfl, k1, rfl⟩
  have HS1 := Lib.hid (HS0.out.drewN k1)
  have HB1 := Lib.hid (below_drewN (Below.refl b w) k1)
  clear HS0
  generalize w.drewN k1 = W1 at *
  go_wp2_with fail
  refine (fill_is _ b g 1 8 8 (fun xs => { r with rd := xs }) [.int .i64 r.k] (postRd r) (fun xs => rtc_rd _) rfl (fun xs hl ho => { HS1.out.ok with rd := hl, ord := ho }) r.rd HS1.out.ok.rd HS1.out.ok.ord (by omega) l (0, 0) HS1.out).mono ?_
  rintro e w2 ⟨rfl, hS2, hB2⟩
  have HS2 := Lib.hid hS2
  have HB2 := Lib.hid (HB1.out.trans hB2)
  have hck2 := hS2.rt.cK
  simp only [HK.out] at hck2
  clear hS2 hB2 HS1 HB1
  change Hid (RS A0 c0 w2 b g _ l (fs1 l)) at HS2
  generalize fillV l (0, 0) 8 = v1 at *
  generalize fs1 l = s1 at *
  go_wp2_with fail
  refine (fill_is _ b g 9 10 10 (fun xs => { r with rd := v1, es := xs }) (preEs { r with rd := v1 }) (postEs r) (fun xs => rtc_es _) (preEs_len HS2.out.ok) (fun xs hl ho => { HS2.out.ok with es := hl, oes := ho }) r.es HS2.out.ok.es HS2.out.ok.oes (by omega) l s1 HS2.out).mono ?_
  rintro e w3 ⟨rfl, hS3, hB3⟩
  have HS3 := Lib.hid hS3
  have HB3 := Lib.hid (HB2.out.trans hB3)
  have hck3 := hS3.rt.cK
  simp only [HK.out] at hck3
  clear hS3 hB3 HS2 HB2 hck2
  generalize fillV l s1 10 = v2 at *
  generalize fillS l s1 10 = s2 at *
  go_wp2_with fail
  refine (numS _ g l s2 4 HS3.out.cu).mono ?_
  rintro e w4 ⟨rfl, hC4, hG4⟩
  have hs4 := HS3.out.step hC4 hG4
  have hu4 := u32_nV4 HO.out s2
  have hcell4 := hs4.rt.cTg hs4.ok
  have hfr4 := hs4.rt.fr 19 (by omega)
  generalize nV l s2 4 = tg at *
  generalize nS l s2 4 = s3 at *
  obtain ⟨hu4a, hu4b⟩ := hu4
  have HS4 := Lib.hid (hs4.setTg tg ⟨hu4a, hu4b⟩)
  have HB4 := Lib.hid ((HB3.out.trans (HS3.out.low hG4)).trans (low_cells w4 b 19 [.int .u32 tg]))
  change Hid (Below b w (w4.setCell ⟨b, 19, none⟩ (.int .u32 tg))) at HB4
  have hck4 := HS4.out.rt.cK
  simp only [HK.out] at hck4
  clear hC4 hG4 hs4 HS3 HB3 hck3
  go_wp2_with fail
  generalize w4.setCell ⟨b, 19, none⟩ (.int .u32 tg) = W4 at *
  clear hcell4 hfr4
  refine (rpre_is _ b g _ l _ _ HS4.out).mono ?_
  rintro e w5 ⟨rfl, hS5, hB5⟩
  have HS5 := Lib.hid hS5
  have HB5 := Lib.hid (HB4.out.trans hB5)
  clear hS5 hB5 HS4 HB4 hck4
  go_wp2
  go_ret
  exact ⟨by rw [HF.out.2.2]; rfl, by rw [HF.out.1, HF.out.2.1]; exact HS5.out, HB5.out⟩
theorem fields_is (w : World) (b g : Nat) (r : Rt) (l : List Int) (h : RS A0 c0 w b g r l (0, 0)) (hk : 1 ≤ r.k ∧ r.k ≤ 5) :
    Calls Tryz.prog 231 #[.pointer (some ⟨g, 0, none⟩), .pointer (some ⟨b, 0, none⟩)] w fun e w' => e = .returned (.bool (fdB r.k l)) ∧ RS A0 c0 w' b g (fdR r l) l (fdS r.k l) ∧ Below b w w' := by
  have : r.k = 1 ∨ r.k = 2 ∨ r.k = 3 ∨ r.k = 4 ∨ r.k = 5 := by omega
  rcases this with e | e | e | e | e
  · exact fields_1 w b g r l h e
  · exact fields_2 w b g r l h e
  · exact fields_3 w b g r l h e
  · exact fields_4 w b g r l h e
  · exact fields_5 w b g r l h e
end
end Go.Proofs.YtdgoeibfggjbmaaGreatDoor
namespace Go.Proofs.YtdgoeibfggjbmaaGreatDoor
open Go.RowKit
set_option maxRecDepth 100000
set_option linter.unusedSimpArgs false
set_option linter.unusedVariables false

def z8 : List Int := List.replicate 8 0
/-- The route of a kind whose bytes l are, if it is right. -/
def oneR (k : Int) (l : List Int) : Option Rt :=
  if fdB k l = true ∧ (fdS k l).2 = 0 ∧ ¬ (fdS k l).1 < l.length ∧ rightR (fdR (rtZ k z8) l) = true then some (fdR (rtZ k z8) l) else none
def oneT (o : Option Rt) : Value := match o with
  | some r => .tuple #[.agg (rtc r).toArray, .bool true]
  | none => .tuple #[.agg (rtc (rtZ 0 z8)).toArray, .bool false]
theorem z8_ok (k : Int) (hk : I64 k) : RtOk (rtZ k z8) := rtZ_ok k z8 hk rfl (oct_zeros 8)
theorem built_kz (k : Int) : Tryz.prog.built 53 [(0, .int .i64 k)] = some (rtc (rtZ k z8)).toArray := built_k k
theorem built_0z : Tryz.prog.built 53 [] = some (rtc (rtZ 0 z8)).toArray := built_0

theorem fieldsK {A0 : Option Addr} {c0 : Nat} (w : World) (b g : Nat) (k : Int) (l : List Int) (h : RS A0 c0 w b g (rtZ k z8) l (0, 0)) (hk : 1 ≤ k ∧ k ≤ 5) :
    Calls Tryz.prog 231 #[.pointer (some ⟨g, 0, none⟩), .pointer (some ⟨b, 0, none⟩)] w fun e w' => e = .returned (.bool (fdB k l)) ∧ RS A0 c0 w' b g (fdR (rtZ k z8) l) l (fdS k l) ∧ Below b w w' := fields_is w b g (rtZ k z8) l h hk
/-- The memory of readRoute, ahead of the cursor. -/
structure RoW (w W : World) (k : Int) : Prop where
  res : ∃ Z, Blk W w.heap.size 53 Z ∧ Z.size = 63
  rt : RtAt W (w.heap.size + 1) (rtZ k z8)
  low : Below w.heap.size w W
structure EndW (w W : World) (r : Rt) : Prop where
  res : Blk W w.heap.size 53 (rtc r).toArray
  low : Below w.heap.size w W
set_option maxHeartbeats 400000 in
set_option maxRecDepth 100000 in
theorem rroute_is (w : World) (k : Int) (A : Option Addr) (n c : Nat) (l : List Int) (hk : 1 ≤ k ∧ k ≤ 5) (hr : Rd w w.heap.size A n l) (hm : n ≤ 281474976710656) :
    Calls Tryz.prog 214 #[.int .i64 k, .slice A n c] w fun e w' => e = .returned (oneT (oneR k l)) ∧ Below w.heap.size w w' := by
  have hz := z8_ok k ⟨by omega, by omega⟩
  have HZ := Lib.hid hz
  have HZ0 := Lib.hid (z8_ok 0 i64_0)
  have HR := Lib.hid hr
  have HK := Lib.hid hk
  have HB3 : Hid (∀ Z Z', Blk ((w.alloc (.cells Z 53)).alloc (.cells Z' 53)) (w.heap.size + 1) 53 Z') := Lib.hid (fun Z Z' => by
    have := Blk.new (w.alloc (.cells Z 53)) 53 Z'
    simpa using this)
  have HI : Hid (∀ Z Z', Z.size = 63 → RoW w (((w.alloc (.cells Z 53)).alloc (.cells Z' 53)).setRow (w.heap.size + 1) (rtc (rtZ k z8)).toArray) k) := Lib.hid (fun Z Z' hs => by
    refine ⟨⟨Z, (setRow_other _ _ _ _ (by omega)).trans ((Blk.new w 53 Z).alloc _), hs⟩, RtAt.row (HB3.out Z Z') hz, ?_⟩
    exact (((Below.refl w.heap.size w).alloc (Nat.le_refl _) _).alloc (by simp) _).trans (below_setRow _ _ _ (by omega)))
  clear hz hr hk
  go_enter Tryz.func214, Tryz.ntmps214
  go_wp2_with (first
    | (refine rt_build rfl _ rfl [(0, .int .i64 k)] (by simp only [List.map_toArray, List.map_cons, List.map_nil]; rfl) (rtZ k z8) (built_kz k) ?_)
    | (refine rt_store_to rfl _ _ rfl (w.heap.size + 1) (rtZ k z8) HZ.out rfl rfl 53 _ (HB3.out _ _) rfl (fun W => RoW w W k) (HI.out _ _ rfl) ?_; intro W hW; have HW := Lib.hid hW; clear hW)
    | fail)
  have hs1 := HW.out.rt.lt
  refine (new_isX _ A n c l ((HR.out.below HW.out.low).more HW.out.low.size) hm).mono ?_
  rintro e w2 ⟨g, A0, c0, rfl, hg, hcx, hfar, hB2⟩
  have HS2 : Hid (RS A0 c0 w2 (w.heap.size + 1) g (rtZ k z8) l (0, 0)) := Lib.hid ⟨HW.out.rt.below hB2 hs1, HZ.out, hcx, by omega, fun hp a ha => by have := hfar hp a ha; omega⟩
  have HR0 : Hid (∃ Z, Blk w2 w.heap.size 53 Z ∧ Z.size = 63) := Lib.hid (by
    obtain ⟨Z, hZ, hs⟩ := HW.out.res
    exact ⟨Z, hZ.below hB2 (by omega), hs⟩)
  have HB2 := Lib.hid (HW.out.low.trans (hB2.mono (by omega)))
  clear hcx hfar hB2 HW HI HB3
  go_wp2_with fail
  refine (fieldsK _ (w.heap.size + 1) g k l HS2.out HK.out).mono ?_
  rintro e w3 ⟨rfl, hS3, hB3⟩
  have HS3 := Lib.hid hS3
  have HR3 : Hid (∃ Z, Blk w3 w.heap.size 53 Z ∧ Z.size = 63) := Lib.hid (by
    obtain ⟨Z, hZ, hs⟩ := HR0.out
    exact ⟨Z, hZ.below hB3 (by omega), hs⟩)
  have HB3 := Lib.hid (HB2.out.trans (hB3.mono (by omega)))
  clear hS3 hB3 HS2 HR0 HB2
  have HOne : Hid (oneR k l = if fdB k l = true ∧ (fdS k l).2 = 0 ∧ ¬ (fdS k l).1 < l.length ∧ rightR (fdR (rtZ k z8) l) = true then some (fdR (rtZ k z8) l) else none) := Lib.hid rfl
  generalize hoo : oneR k l = oo at *
  have HOO := Lib.hid hoo
  clear hoo
  generalize fdB k l = bb at *
  generalize fdS k l = s3 at *
  generalize fdR (rtZ k z8) l = r3 at *
  cases bb
  · have HOn : Hid (oo = none) := Lib.hid (by rw [HOne.out]; simp)
    obtain ⟨Z, hZ, hZs⟩ := HR3.out
    have HZZ := Lib.hid hZ
    have HZs := Lib.hid hZs
    clear hZ hZs
    have HE := Lib.hid (fun W (hB : Below w.heap.size w W) (hZ : Blk W w.heap.size 53 Z) => (⟨hZ.setRow _, hB.trans (below_setRow _ _ _ (Nat.le_refl _))⟩ : EndW w (W.setRow w.heap.size (rtc (rtZ 0 z8)).toArray) (rtZ 0 z8)))
    go_wp2_with (first
      | (refine rt_build rfl _ rfl [] (by rfl) (rtZ 0 z8) built_0z ?_)
      | (refine rt_store_to rfl _ _ rfl w.heap.size (rtZ 0 z8) HZ0.out rfl rfl 53 Z HZZ.out HZs.out (fun W => EndW w W (rtZ 0 z8)) (HE.out _ HB3.out HZZ.out) ?_; intro W9 hW9; have HW9 := Lib.hid hW9; clear hW9)
      | fail)
    refine bodyPost_ret (v := oneT oo) ?_ rfl ⟨by rw [HOO.out], HW9.out.low⟩
    rw [HOn.out]
    exact results_cell_slot rfl _ _ w.heap.size 53 _ _ _ rfl rfl HW9.out.res Tryz.underlying53 rfl (by rw [rt_size]; simp [rtc_len HZ0.out])
  by_cases he : s3.2 = 0
  · have e0 : (s3.2 != 0) = false := by rw [bne_eq_false_iff_eq]; exact he
    go_wp2_with fail
    refine (err_is _ g l _ _ HS3.out.cu.toIsCurT).mono ?_
    rintro e w4 ⟨rfl, rfl⟩
    go_wp2_with fail
    refine (leftC_is _ g l _ _ HS3.out.cu.toIsCurT).mono ?_
    rintro e w4 ⟨rfl, k4, rfl⟩
    have hle := HS3.out.cu.le
    by_cases hl : s3.1 < l.length
    · have HOn : Hid (oo = none) := Lib.hid (by rw [HOne.out]; simp [hl])
      obtain ⟨Z, hZ, hZs⟩ := HR3.out
      have HZZ := Lib.hid hZ
      have HZs := Lib.hid hZs
      clear hZ hZs
      have HE := Lib.hid (fun W (hB : Below w.heap.size w W) (hZ : Blk W w.heap.size 53 Z) => (⟨hZ.setRow _, hB.trans (below_setRow _ _ _ (Nat.le_refl _))⟩ : EndW w (W.setRow w.heap.size (rtc (rtZ 0 z8)).toArray) (rtZ 0 z8)))
      go_wp2_with (first
        | (refine rt_build rfl _ rfl [] (by rfl) (rtZ 0 z8) built_0z ?_)
        | (refine rt_store_to rfl _ _ rfl w.heap.size (rtZ 0 z8) HZ0.out rfl rfl 53 Z (HZZ.out.below (below_drewN (Below.refl w3.heap.size _) k4) HZZ.out.lt) HZs.out (fun W => EndW w W (rtZ 0 z8)) (HE.out _ (below_drewN HB3.out k4) (HZZ.out.below (below_drewN (Below.refl w3.heap.size _) k4) HZZ.out.lt)) ?_; intro W9 hW9; have HW9 := Lib.hid hW9; clear hW9)
        | fail)
      refine bodyPost_ret (v := oneT oo) ?_ rfl ⟨by rw [HOO.out], HW9.out.low⟩
      rw [HOn.out]
      exact results_cell_slot rfl _ _ w.heap.size 53 _ _ _ rfl rfl HW9.out.res Tryz.underlying53 rfl (by rw [rt_size]; simp [rtc_len HZ0.out])
    · have HS4 := Lib.hid (HS3.out.drewN k4)
      have HB4 := Lib.hid (below_drewN HB3.out k4)
      have HR4 : Hid (∃ Z, Blk (w3.drewN k4) w.heap.size 53 Z ∧ Z.size = 63) := HR3
      clear HS3 HB3 HR3
      generalize w3.drewN k4 = w4 at *
      go_wp2_with (first | (refine rt_fetch rfl _ rfl (w.heap.size + 1) r3 HS4.out.ok rfl HS4.out.rt ?_) | fail)
      refine (rightRt_is _ r3 HS4.out.ok).mono ?_
      rintro e w5 ⟨rfl, hB5⟩
      have HS5 := Lib.hid (HS4.out.above hB5)
      have HR3 : Hid (∃ Z, Blk w5 w.heap.size 53 Z ∧ Z.size = 63) := Lib.hid (by
        obtain ⟨Z, hZ, hs⟩ := HR4.out
        exact ⟨Z, hZ.below hB5 hZ.lt, hs⟩)
      have HB5 := Lib.hid (HB4.out.trans (hB5.mono HB4.out.size))
      clear hB5 HS4 HR4 HB4
      unfold errR
      cases hrr : rightR r3
      · have HOn : Hid (oo = none) := Lib.hid (by rw [HOne.out]; simp [hrr])
        simp only [Bool.false_eq_true, if_false]
        obtain ⟨Z, hZ, hZs⟩ := HR3.out
        have HZZ := Lib.hid hZ
        have HZs := Lib.hid hZs
        clear hZ hZs
        have HE := Lib.hid (fun W (hB : Below w.heap.size w W) (hZ : Blk W w.heap.size 53 Z) => (⟨hZ.setRow _, hB.trans (below_setRow _ _ _ (Nat.le_refl _))⟩ : EndW w (W.setRow w.heap.size (rtc (rtZ 0 z8)).toArray) (rtZ 0 z8)))
        go_wp2_with (first
          | (refine rt_build rfl _ rfl [] (by rfl) (rtZ 0 z8) built_0z ?_)
          | (refine rt_store_to rfl _ _ rfl w.heap.size (rtZ 0 z8) HZ0.out rfl rfl 53 Z HZZ.out HZs.out (fun W => EndW w W (rtZ 0 z8)) (HE.out _ HB5.out HZZ.out) ?_; intro W9 hW9; have HW9 := Lib.hid hW9; clear hW9)
          | fail)
        refine bodyPost_ret (v := oneT oo) ?_ rfl ⟨by rw [HOO.out], HW9.out.low⟩
        rw [HOn.out]
        exact results_cell_slot rfl _ _ w.heap.size 53 _ _ _ rfl rfl HW9.out.res Tryz.underlying53 rfl (by rw [rt_size]; simp [rtc_len HZ0.out])
      · have HOn : Hid (oo = some r3) := Lib.hid (by rw [HOne.out]; simp [hrr, he, hl])
        simp only [if_true]
        obtain ⟨Z, hZ, hZs⟩ := HR3.out
        have HZZ := Lib.hid hZ
        have HZs := Lib.hid hZs
        clear hZ hZs
        have HE := Lib.hid (fun W (hB : Below w.heap.size w W) (hZ : Blk W w.heap.size 53 Z) => (⟨hZ.setRow _, hB.trans (below_setRow _ _ _ (Nat.le_refl _))⟩ : EndW w (W.setRow w.heap.size (rtc r3).toArray) r3))
        go_wp2_with (first
          | (refine rt_fetch rfl _ rfl (w.heap.size + 1) r3 HS5.out.ok rfl HS5.out.rt ?_)
          | (refine rt_store_to rfl _ _ rfl w.heap.size r3 HS5.out.ok rfl rfl 53 Z HZZ.out HZs.out (fun W => EndW w W r3) (HE.out _ HB5.out HZZ.out) ?_; intro W9 hW9; have HW9 := Lib.hid hW9; clear hW9)
          | fail)
        refine bodyPost_ret (v := oneT oo) ?_ rfl ⟨by rw [HOO.out], HW9.out.low⟩
        rw [HOn.out]
        exact results_cell_slot rfl _ _ w.heap.size 53 _ _ _ rfl rfl HW9.out.res Tryz.underlying53 rfl (by rw [rt_size]; simp [rtc_len HS5.out.ok])
  · have e0 : (s3.2 != 0) = true := by rw [bne_iff_ne]; exact he
    have HOn : Hid (oo = none) := Lib.hid (by rw [HOne.out]; simp [he])
    go_wp2_with fail
    refine (err_is _ g l _ _ HS3.out.cu.toIsCurT).mono ?_
    rintro e w4 ⟨rfl, rfl⟩
    obtain ⟨Z, hZ, hZs⟩ := HR3.out
    have HZZ := Lib.hid hZ
    have HZs := Lib.hid hZs
    clear hZ hZs
    have HE := Lib.hid (fun W (hB : Below w.heap.size w W) (hZ : Blk W w.heap.size 53 Z) => (⟨hZ.setRow _, hB.trans (below_setRow _ _ _ (Nat.le_refl _))⟩ : EndW w (W.setRow w.heap.size (rtc (rtZ 0 z8)).toArray) (rtZ 0 z8)))
    go_wp2_with (first
      | (refine rt_build rfl _ rfl [] (by rfl) (rtZ 0 z8) built_0z ?_)
      | (refine rt_store_to rfl _ _ rfl w.heap.size (rtZ 0 z8) HZ0.out rfl rfl 53 Z HZZ.out HZs.out (fun W => EndW w W (rtZ 0 z8)) (HE.out _ HB3.out HZZ.out) ?_; intro W9 hW9; have HW9 := Lib.hid hW9; clear hW9)
      | fail)
    refine bodyPost_ret (v := oneT oo) ?_ rfl ⟨by rw [HOO.out], HW9.out.low⟩
    rw [HOn.out]
    exact results_cell_slot rfl _ _ w.heap.size 53 _ _ _ rfl rfl HW9.out.res Tryz.underlying53 rfl (by rw [rt_size]; simp [rtc_len HZ0.out])
end Go.Proofs.YtdgoeibfggjbmaaGreatDoor
namespace Go.Proofs.YtdgoeibfggjbmaaGreatDoor
open Go.RowKit
set_option maxRecDepth 100000
set_option linter.unusedSimpArgs false
set_option linter.unusedVariables false

/-! A slice literal of one value of several cells. -/
theorem fold_set {α : Type} : ∀ (l : List α) (k : Nat) (pre : List α) (arr : Array α), pre.length = k → arr.size = k + l.length → arr.toList.take k = pre →
    ((l.zipIdx k).foldl (fun (cs : Array α) (x : α × Nat) => cs.setIfInBounds x.2 x.1) arr).toList = pre ++ l
  | [], k, pre, arr, hk, hs, ht => by
    simp only [List.zipIdx_nil, List.foldl_nil, List.append_nil]
    rw [← ht, List.take_of_length_le (by simp at hs ⊢; omega)]
  | x :: l, k, pre, arr, hk, hs, ht => by
    rw [List.zipIdx_cons, List.foldl_cons]
    have h := fold_set l (k + 1) (pre ++ [x]) (arr.setIfInBounds k x) (by simp [hk]) (by simp at hs ⊢; omega) ?_
    · rw [h]; simp
    · rw [Array.toList_setIfInBounds]
      have hlt : k < arr.toList.length := by simp at hs ⊢; omega
      rw [List.take_set, List.take_succ_eq_append_getElem hlt, ht, List.set_append_right _ _ (by omega), hk]
      simp
theorem fill_one (v : Value) (cs : Array Value) (z : Array Value) (n : Nat) (hv : v.cells = cs) (hn : cs.size = n) (hz : z.size = n) : Instr.fill (fun i => some (i * n, n)) z [(0, v)] = some cs := by
  unfold Instr.fill
  simp only [Nat.zero_mul]
  rw [hv, if_neg (by simp; omega)]
  unfold Instr.fill
  congr 1
  apply Array.ext'
  have h := fold_set cs.toList 0 [] z rfl (by simp; omega) rfl
  rw [List.nil_append] at h
  rw [← h, ← Array.toList_zipIdx]
  simp only [Nat.zero_add]
  rw [← Array.foldl_toList]
theorem wp_slice1 {P : Program} {o : Oper} {a : Act} {w : World} {K : Act → World → Prop} {Q : Exit → Act → World → Prop} (t e : TypeId) (x : Operand) (ho : o.op = .buildSlice t 1 #[(0, x)]) (cs : List Value) (hx : a.eval x = .agg cs.toArray)
    (hu : P.underlying t = some (.slice e)) (hi : (P.info? e).map (·.size) = some cs.length) (hz : ((P.info? e).bind (·.zero)).isSome = true) (h0 : 0 < cs.length) (h1 : cs.length ≤ 2 ^ 24)
    (h : K (a.put o.dst (.slice (some ⟨w.heap.size, 0, none⟩) 1 1)) (w.alloc (.cells cs.toArray e))) : o.wp P a w K Q := by
  cases hie : P.info? e with
  | none => simp [hie] at hi
  | some ie =>
    simp only [hie, Option.map_some, Option.some.injEq, Option.bind_some] at hi hz
    obtain ⟨z, hzz⟩ := Option.isSome_iff_exists.1 hz
    refine wp_buildSlice t e 1 _ ho _ ie z hu hie hzz (by omega) (by omega) ?_ h
    have he : (#[(0, x)].map fun (i, x) => (i, a.eval x)).toList = [(0, .agg cs.toArray)] := by simp [hx]
    rw [he]
    exact fill_one _ _ _ _ rfl (by simp [hi]) (by simp)
theorem wpList_slice1 {P : Program} {ops : Array Oper} {rest : List Oper} {o : Oper} {a : Act} {w : World} {Q : Exit → Act → World → Prop} (hg : o.guard = none) (t e : TypeId) (x : Operand) (ho : o.op = .buildSlice t 1 #[(0, x)]) (cs : List Value) (hx : a.eval x = .agg cs.toArray)
    (hu : P.underlying t = some (.slice e)) (hi : (P.info? e).map (·.size) = some cs.length) (hz : ((P.info? e).bind (·.zero)).isSome = true) (h0 : 0 < cs.length) (h1 : cs.length ≤ 2 ^ 24)
    (h : wpList P ops Q rest (a.put o.dst (.slice (some ⟨w.heap.size, 0, none⟩) 1 1)) (w.alloc (.cells cs.toArray e))) : wpList P ops Q (o :: rest) a w :=
  wpList_plain hg fun _ hK => wp_slice1 t e x ho cs hx hu hi hz h0 h1 (hK _ _ h)

/-! Slices of routes. -/
def rtcs (rs : List Rt) : List Value := rs.flatMap rtc
def AllRt (rs : List Rt) : Prop := ∀ r ∈ rs, RtOk r
theorem AllRt.nil_ : AllRt [] := fun r h => by cases h
theorem AllRt.app {a b : List Rt} (ha : AllRt a) (hb : AllRt b) : AllRt (a ++ b) := fun r h => (List.mem_append.1 h).elim (ha r) (hb r)
theorem AllRt.one {r : Rt} (h : RtOk r) : AllRt [r] := fun s hs => by rw [List.mem_singleton] at hs; subst hs; exact h
theorem AllRt.at_ {rs : List Rt} (h : AllRt rs) (i : Nat) (hi : i < rs.length) : RtOk rs[i] := h _ (List.getElem_mem hi)
theorem rtcs_app (a b : List Rt) : rtcs (a ++ b) = rtcs a ++ rtcs b := by simp [rtcs]
theorem rtcs_one (r : Rt) : rtcs [r] = rtc r := by simp [rtcs]
theorem rtcs_len : ∀ (rs : List Rt), AllRt rs → (rtcs rs).length = rs.length * 63
  | [], _ => rfl
  | r :: rs, h => by
    have h1 := rtc_len (h r List.mem_cons_self)
    have h2 := rtcs_len rs (fun x hx => h x (List.mem_cons_of_mem _ hx))
    unfold rtcs at *
    rw [List.flatMap_cons, List.length_append, h2, h1]
    simp; omega
theorem rtcs_get : ∀ (rs : List Rt), AllRt rs → ∀ (i j : Nat) (hi : i < rs.length), j < 63 → (rtcs rs)[i * 63 + j]? = (rtc rs[i])[j]?
  | r :: rs, h, 0, j, hi, hj => by
    have h1 := rtc_len (h r List.mem_cons_self)
    unfold rtcs
    rw [List.flatMap_cons, List.getElem?_append_left (by omega)]
    simp
  | r :: rs, h, i + 1, j, hi, hj => by
    have h1 := rtc_len (h r List.mem_cons_self)
    have h2 := rtcs_get rs (fun x hx => h x (List.mem_cons_of_mem _ hx)) i j (by simpa using hi) hj
    unfold rtcs at *
    rw [List.flatMap_cons, List.getElem?_append_right (by omega), h1, show (i + 1) * 63 + j - 63 = i * 63 + j by omega, h2]
    simp
/-- A slice of routes that reads as rs. -/
structure RdRt (w : World) (B : Nat) (A : Option Addr) (n : Nat) (rs : List Rt) : Prop where
  len : rs.length = n
  ok : AllRt rs
  at_ : 0 < n → ∃ b off, A = some ⟨b, off, none⟩ ∧ b < B ∧ ∀ i (h : i < rs.length), w.rangeAt b (off + i * 63) (rtc rs[i])
theorem RdRt.below {w w' : World} {B n : Nat} {A : Option Addr} {rs : List Rt} (h : RdRt w B A n rs) (hb : Below B w w') : RdRt w' B A n rs :=
  ⟨h.len, h.ok, fun hn => by
    obtain ⟨b, off, e, hlt, hc⟩ := h.at_ hn
    exact ⟨b, off, e, hlt, fun i hi => range_below (hc i hi) hb hlt⟩⟩
theorem RdRt.more {w : World} {B B' n : Nat} {A : Option Addr} {rs : List Rt} (h : RdRt w B A n rs) (hb : B ≤ B') : RdRt w B' A n rs :=
  ⟨h.len, h.ok, fun hn => by
    obtain ⟨b, off, e, hlt, hc⟩ := h.at_ hn
    exact ⟨b, off, e, Nat.lt_of_lt_of_le hlt hb, hc⟩⟩
/-- Routes of the call's own. -/
structure OwnRt (lo : Nat) (w : World) (v : Value) (rs : List Rt) : Prop where
  own : w.ownsRow lo 53 63 v rs.length (rtcs rs)
  ok : AllRt rs
theorem OwnRt.nil_ (lo : Nat) (w : World) : OwnRt lo w (.slice none 0 0) [] := ⟨World.ownsRow_nil _ _ _ _, AllRt.nil_⟩
theorem OwnRt.rd {lo : Nat} {w : World} {v : Value} {rs : List Rt} (h : OwnRt lo w v rs) : ∃ A c, v = .slice A rs.length c ∧ RdRt w w.heap.size A rs.length rs := by
  rcases h.own.2 with ⟨rfl, hn⟩ | ⟨g, cap, cur, rfl, hb, hg, hnc, hcm, hcs, hx⟩
  · exact ⟨none, 0, by rw [hn], ⟨rfl, h.ok, fun hp => by omega⟩⟩
  · refine ⟨_, cap, rfl, ⟨rfl, h.ok, fun _ => ⟨g, 0, rfl, (Array.getElem?_eq_some_iff.1 hg).1, fun i hi j u hu => ?_⟩⟩⟩
    have hj : j < 63 := by
      have h1 := (List.getElem?_eq_some_iff.1 hu).1
      rw [rtc_len (h.ok.at_ i hi)] at h1
      exact h1
    have h1 := rtcs_get rs h.ok i j hi hj
    rw [hu, ← hx, List.getElem?_take, if_pos (by omega)] at h1
    rw [Nat.zero_add]
    simp only [World.cell?, hg]
    rw [← Array.getElem?_toList]
    exact h1
theorem OwnRt.below {lo : Nat} {w w' : World} {v : Value} {rs : List Rt} (h : OwnRt lo w v rs) (hb : Below w.heap.size w w') : OwnRt lo w' v rs := by
  refine ⟨⟨h.own.1, ?_⟩, h.ok⟩
  rcases h.own.2 with hn | ⟨g, cap, cur, hv, hbase, hg, hr⟩
  · exact Or.inl hn
  · exact Or.inr ⟨g, cap, cur, hv, hbase, (hb.block g (Array.getElem?_eq_some_iff.1 hg).1).trans hg, hr⟩
theorem OwnRt.grown {lo : Nat} {w w' : World} {v : Value} {rs : List Rt} {g : Nat} (h : OwnRt lo w v rs) (hb : w.grownBy w' (some g)) (hg : g < lo) : OwnRt lo w' v rs := by
  refine ⟨⟨h.own.1, ?_⟩, h.ok⟩
  rcases h.own.2 with hn | ⟨i, cap, cur, hv, hbase, hi, hr⟩
  · exact Or.inl hn
  · exact Or.inr ⟨i, cap, cur, hv, hbase, (hb.block i (Array.getElem?_eq_some_iff.1 hi).1 (fun e => by injection e with e; omega)).trans hi, hr⟩
theorem OwnRt.low {lo lo' : Nat} {w : World} {v : Value} {rs : List Rt} (h : OwnRt lo w v rs) (hl : lo' ≤ lo) : OwnRt lo' w v rs := ⟨own_low h.own hl, h.ok⟩
theorem zero_route : ((Tryz.prog.info? 53).bind (·.zero)).isSome = true := by kernel_rfl
theorem zero_size : ((Tryz.prog.info? 53).bind (·.zero)).map (·.cells.size) = some 63 := by kernel_rfl
theorem info_route : (Tryz.prog.info? 53).map (fun i => (i.size, i.bytes)) = some (63, 104) := by kernel_rfl
theorem app_rt {ops : Array Oper} {rest : List Oper} {o : Oper} {a : Act} {Q : Exit → Act → World → Prop} (hgd : o.guard = none) (s x : Operand)
    (ho : o.op = .call { callee := .builtin .append, args := #[s, x], argTypes := #[32, 32] }) {lo : Nat} {w : World} {v : Value} {rs : List Rt} (h : OwnRt lo w v rs) (hlo : lo ≤ w.heap.size) (hlen : rs.length ≤ 1000000000000)
    (r : Rt) (hr : RtOk r) (hs : a.eval s = v) (hx : a.eval x = .slice (some ⟨w.heap.size, 0, none⟩) 1 1)
    (hk : ∀ v' w', OwnRt lo w' v' (rs ++ [r]) → w.grownBy w' v.ownBlock → Below lo w w' → wpList Tryz.prog ops Q rest (a.put o.dst v') w') :
    wpList Tryz.prog ops Q (o :: rest) a (w.alloc (.cells (rtc r).toArray 53)) := by
  obtain ⟨i, hi, hsz⟩ := Option.map_eq_some_iff.1 info_route
  injection hsz with hsz hby
  obtain ⟨z, hz, hzs⟩ := Option.map_eq_some_iff.1 zero_size
  rw [hi] at hz
  have hB := Blk.new w 53 (rtc r).toArray
  refine wpList_append_own_at _ hgd s x 32 ho lo 53 i z 63 104 Tryz.underlying32 hi hz hsz hby hzs (by decide) v rs.length (rtcs rs) hs (h.own.alloc _) ⟨w.heap.size, 0, none⟩ 1 1 (rtc r) hx (by rw [rtc_len hr]) ?_ (rtc_one r) (by unfold maxLen; omega) (by omega) (by simp; omega) ?_
  · intro j u hu
    rw [show ((⟨w.heap.size, 0, none⟩ : Addr).add j) = ⟨w.heap.size, j, none⟩ from by unfold Addr.add; split <;> simp_all, hB.cell]
    simpa using hu
  · intro v' w' hown hgr _ _
    have hg2 : w.grownBy w' v.ownBlock := ⟨hgr.os, hgr.tape, hgr.output, Nat.le_trans (by simp) hgr.size, fun j hj hne => (hgr.block j (by simp; omega) hne).trans (Below.heap_alloc _ _ _ hj)⟩
    have hbel : Below lo w w' := (Below.refl lo w).grown hg2 hlo (fun i e => (h.own.lt i e).1)
    refine hk v' w' ⟨?_, h.ok.app (AllRt.one hr)⟩ hg2 hbel
    rw [rtcs_app, rtcs_one]
    simpa using hown

/-! What Read comes to. -/
def addR (k : Int) (body : List Int) : Option (List Rt × Nat) → Option (List Rt × Nat)
  | none => none
  | some (rs, m) => if 1 ≤ k ∧ k ≤ 5 then (match oneR k body with | some r => some (r :: rs, m) | none => some (rs, m + 1)) else some (rs, m)
def readF : Nat → List Int → Option (List Rt × Nat)
  | 0, _ => some ([], 0)
  | _ + 1, [] => some ([], 0)
  | _ + 1, [_] => none
  | f + 1, k :: n :: rest => if (rest.length : Int) < n then none else addR k (rest.take n.toNat) (readF f (rest.drop n.toNat))
theorem readF_fuel : ∀ (f g : Nat) (xs : List Int), xs.length ≤ f → xs.length ≤ g → readF f xs = readF g xs
  | 0, 0, xs, _, _ => rfl
  | 0, g + 1, xs, h, _ => by obtain rfl : xs = [] := List.eq_nil_of_length_eq_zero (by omega); rfl
  | f + 1, 0, xs, _, h => by obtain rfl : xs = [] := List.eq_nil_of_length_eq_zero (by omega); rfl
  | f + 1, g + 1, [], _, _ => rfl
  | f + 1, g + 1, [_], _, _ => rfl
  | f + 1, g + 1, k :: n :: rest, hf, hg => by
    simp only [List.length_cons] at hf hg
    simp only [readF]
    rw [readF_fuel f g _ (by simp; omega) (by simp; omega)]
def readAll (xs : List Int) : Option (List Rt × Nat) := readF xs.length xs
theorem readAll_nil : readAll [] = some ([], 0) := rfl
theorem readAll_one (k : Int) : readAll [k] = none := rfl
theorem readAll_cons (k n : Int) (rest : List Int) : readAll (k :: n :: rest) = if (rest.length : Int) < n then none else addR k (rest.take n.toNat) (readAll (rest.drop n.toNat)) := by
  unfold readAll
  simp only [List.length_cons, readF]
  rw [readF_fuel (rest.length + 1) (rest.drop n.toNat).length _ (by simp; omega) (Nat.le_refl _)]
def readRs (l : List Int) : List Rt := match readAll l with | some (rs, _) => rs | none => []
def readMN (l : List Int) : Nat := match readAll l with | some (_, m) => m | none => 0
def readE (l : List Int) : Int := match readAll l with | some _ => 0 | none => 3
def pre2 (rs : List Rt) (m : Nat) (o : Option (List Rt × Nat)) : Option (List Rt × Nat) := o.map fun x => (rs ++ x.1, m + x.2)
theorem pre2_none (rs : List Rt) (m : Nat) : pre2 rs m none = none := rfl
theorem pre2_nil (o : Option (List Rt × Nat)) : pre2 [] 0 o = o := by cases o <;> simp [pre2]

theorem nS_in {l : List Int} {p : Nat} {k : Int} {tl : List Int} (h : l.drop p = k :: tl) : nV l (p, 0) 1 = k ∧ nS l (p, 0) 1 = (p + 1, 0) := by
  have hlen : p + 1 ≤ l.length := by have := congrArg List.length h; simp at this; omega
  have ht : stepTook l p 0 1 = [k] := by
    unfold stepTook
    rw [if_pos ⟨rfl, by omega, by omega⟩, h]
    rfl
  have hok : numOk 1 := ⟨by omega, by omega⟩
  have h1 : stepAt l p 0 1 = p + 1 := by unfold stepAt; rw [if_pos ⟨rfl, by omega, by omega⟩]; rfl
  have h2 : stepErr l p 0 1 = 0 := by unfold stepErr; rw [if_pos rfl, if_neg (by omega), if_neg (by omega)]
  refine ⟨?_, ?_⟩
  · simp only [nV, numVal, if_pos hok, ht]
    simp [numOf]
  · simp only [nS, numAt, numErr, if_pos hok, h1, h2]
theorem nS_out {l : List Int} {p : Nat} (h : l.length ≤ p) : nV l (p, 0) 1 = 0 ∧ nS l (p, 0) 1 = (p, 3) := by
  have ht : stepTook l p 0 1 = [] := by unfold stepTook; rw [if_neg (by omega)]
  have hok : numOk 1 := ⟨by omega, by omega⟩
  have h1 : stepAt l p 0 1 = p := by unfold stepAt; rw [if_neg (by omega)]
  have h2 : stepErr l p 0 1 = 3 := by unfold stepErr; rw [if_pos rfl, if_neg (by omega), if_pos (by omega)]
  refine ⟨?_, ?_⟩
  · simp only [nV, numVal, if_pos hok, ht]
    rfl
  · simp only [nS, numAt, numErr, if_pos hok, h1, h2]
theorem tS_in {l : List Int} {p n : Nat} (h : p + n ≤ l.length) : tV l (p, 0) n = (l.drop p).take n ∧ tS l (p, 0) n = (p + n, 0) := by
  refine ⟨?_, ?_⟩
  · unfold tV stepTook
    rw [if_pos ⟨rfl, by omega, by simp; omega⟩]
    rfl
  · unfold tS stepAt stepErr
    rw [if_pos ⟨rfl, by omega, by simp; omega⟩, if_pos rfl, if_neg (by omega), if_neg (by simp; omega)]
    rfl
theorem tS_out {l : List Int} {p : Nat} {n : Int} (hp : p ≤ l.length) (h : (l.length : Int) < p + n) : tV l (p, 0) n = [] ∧ tS l (p, 0) n = (p, 3) := by
  refine ⟨?_, ?_⟩
  · unfold tV stepTook
    rw [if_neg (by simp; omega)]
  · unfold tS stepAt stepErr
    rw [if_neg (by simp; omega), if_pos rfl, if_neg (by omega), if_pos (by simp; omega)]
theorem tS_err (l : List Int) (p : Nat) (e n : Int) (he : e ≠ 0) : tV l (p, e) n = [] ∧ tS l (p, e) n = (p, e) := by
  refine ⟨?_, ?_⟩
  · unfold tV stepTook
    rw [if_neg (fun h => he h.1)]
  · unfold tS stepAt stepErr
    rw [if_neg (fun h => he h.1), if_neg he]
theorem readStep {l : List Int} (ho : Oct l) {p : Nat} (hp : p < l.length) :
    ((tS l (nS l (nS l (p, 0) 1) 1) (nV l (nS l (p, 0) 1) 1)).2 = 3 ∧ readAll (l.drop p) = none) ∨
    ((tS l (nS l (nS l (p, 0) 1) 1) (nV l (nS l (p, 0) 1) 1)).2 = 0 ∧ p < (tS l (nS l (nS l (p, 0) 1) 1) (nV l (nS l (p, 0) 1) 1)).1 ∧ (tS l (nS l (nS l (p, 0) 1) 1) (nV l (nS l (p, 0) 1) 1)).1 ≤ l.length ∧
      readAll (l.drop p) = addR (nV l (p, 0) 1) (tV l (nS l (nS l (p, 0) 1) 1) (nV l (nS l (p, 0) 1) 1)) (readAll (l.drop (tS l (nS l (nS l (p, 0) 1) 1) (nV l (nS l (p, 0) 1) 1)).1))) := by
  obtain ⟨k, hk⟩ : ∃ k, l.drop p = k :: l.drop (p + 1) := ⟨l[p], List.drop_eq_getElem_cons hp⟩
  obtain ⟨e1, e2⟩ := nS_in hk
  rw [e1, e2]
  rcases Nat.lt_or_ge (p + 1) l.length with h1 | h1
  · obtain ⟨n, hn⟩ : ∃ n, l.drop (p + 1) = n :: l.drop (p + 2) := ⟨l[p + 1], List.drop_eq_getElem_cons h1⟩
    have hn0 : 0 ≤ n := (ho n (List.mem_of_mem_drop (i := p + 1) (by rw [hn]; exact List.mem_cons_self))).1
    obtain ⟨e3, e4⟩ := nS_in hn
    rw [e3, e4, hk, hn, readAll_cons]
    have hlen : (l.drop (p + 2)).length = l.length - (p + 2) := List.length_drop
    rcases Int.lt_or_le ((l.drop (p + 2)).length : Int) n with h2 | h2
    · left
      obtain ⟨_, e6⟩ := tS_out (l := l) (p := p + 1 + 1) (n := n) (by omega) (by omega)
      rw [e6, if_pos h2]
      exact ⟨rfl, rfl⟩
    · right
      obtain ⟨m, rfl⟩ : ∃ m : Nat, n = m := ⟨n.toNat, by omega⟩
      obtain ⟨e5, e6⟩ := tS_in (l := l) (p := p + 1 + 1) (n := m) (by omega)
      rw [e5, e6, if_neg (by omega)]
      refine ⟨rfl, by simp only; omega, by simp only; omega, ?_⟩
      rw [Int.toNat_natCast, List.drop_drop]
  · left
    have hnil : l.drop (p + 1) = [] := List.drop_of_length_le h1
    obtain ⟨e3, e4⟩ := nS_out (l := l) h1
    rw [e3, e4, hk, hnil, readAll_one]
    obtain ⟨_, e6⟩ := tS_err l (p + 1) 3 0 (by omega)
    rw [e6]
    exact ⟨rfl, rfl⟩
end Go.Proofs.YtdgoeibfggjbmaaGreatDoor
namespace Go.Proofs.YtdgoeibfggjbmaaGreatDoor
open Go.RowKit Go.ChangeShapes Go.WideShapes Go.Deep
set_option maxRecDepth 100000
set_option linter.unusedVariables false

section
variable {H : Type} {enc : TypeId × Value → H} {W : World}
theorem lt_of_cellN {w : World} {a : Addr} {v : Value} (h : w.cell? a = some v) : a.block < w.heap.size := by
  rcases Nat.lt_or_ge a.block w.heap.size with h1 | h1
  · exact h1
  · simp [World.cell?, Array.getElem?_eq_none h1] at h
theorem trod_u8sN {P : Program} {t e : TypeId} {n fuel : Nat} {cs : List Value} {x : DataW H × List MemPlace} (ht : P.underlying t = some (.array n e)) (he : P.underlying e = some (.int .u8)) (hce : P.cellsOf e = 1) (hct : P.cellsOf t = n)
    (h : DataW.trod enc P W 0 (fun _ => true) true fuel t cs = some x) : ∃ l, cs = u8s l ∧ l.length = n ∧ Oct l := by
  obtain ⟨xs, m, hf, hx, hl, hxl, hat⟩ := DataW.trod_array ht h
  rw [hct] at hl
  have each : ∀ i, i < n → ∃ z : Int, cs[i]? = some (.int .u8 z) ∧ 0 ≤ z ∧ z < 256 := by
    intro i hi
    have h1 := hat i hi
    rw [List.getElem?_eq_getElem (by omega)] at h1
    rw [hce, Nat.mul_one] at h1
    obtain ⟨z, hz, _, hw⟩ := DataW.trod_int he h1
    refine ⟨z, ?_, ?_⟩
    · have h2 : ((cs.drop i).take 1)[0]? = some (.int .u8 z) := by rw [hz]; rfl
      simpa using h2
    · simp [Lit.wf, IntKind.min, IntKind.max, IntKind.signed, IntKind.bits] at hw
      omega
  refine ⟨cs.map fun v => match v with | .int _ z => z | _ => 0, ?_, by simp [hl], ?_⟩
  · apply List.ext_getElem?
    intro i
    rcases Nat.lt_or_ge i n with hi | hi
    · obtain ⟨z, hz, _⟩ := each i hi
      simp [u8s, hz]
    · rw [List.getElem?_eq_none (by omega), List.getElem?_eq_none (by simp [u8s]; omega)]
  · intro z hz
    obtain ⟨v, hv, rfl⟩ := List.mem_map.1 hz
    obtain ⟨i, hi, hiv⟩ := List.mem_iff_getElem.1 hv
    obtain ⟨z, hz, h0, h1⟩ := each i (by omega)
    rw [List.getElem?_eq_getElem hi, hiv] at hz
    cases hz
    exact ⟨h0, h1⟩
theorem trod_u32 {fuel : Nat} {cs : List Value} {x : DataW H × List MemPlace} (h : DataW.trod enc Tryz.prog W 0 (fun _ => true) true fuel 23 cs = some x) : ∃ n, cs = [.int .u32 n] ∧ U32 n := by
  obtain ⟨n, e, _, hw⟩ := DataW.trod_int Tryz.underlying23 h
  refine ⟨n, e, ?_⟩
  simp [Lit.wf, IntKind.min, IntKind.max, IntKind.signed, IntKind.bits] at hw
  exact ⟨by omega, by omega⟩
theorem trod_i64 {fuel : Nat} {cs : List Value} {x : DataW H × List MemPlace} (h : DataW.trod enc Tryz.prog W 0 (fun _ => true) true fuel 3 cs = some x) : ∃ n, cs = [.int .i64 n] ∧ I64 n := by
  obtain ⟨n, e, _, hw⟩ := DataW.trod_int Tryz.underlying3 h
  exact ⟨n, e, wf_i64 hw⟩
theorem part_of {P : Program} {fs : Array Field} {cs : List Value} {xs : List (DataW H × List MemPlace)} {n : Nat} (hl : xs.length = fs.size) (h : ∀ (i : Nat) (f : Field), fs[i]? = some f → DataW.trod enc P W 0 (fun _ => true) true n f.type ((cs.drop f.offset).take (P.cellsOf f.type)) = xs[i]?)
    (i : Nat) (f : Field) (hf : fs[i]? = some f) : ∃ y, DataW.trod enc P W 0 (fun _ => true) true n f.type ((cs.drop f.offset).take (P.cellsOf f.type)) = some y := by
  have hi := (Array.getElem?_eq_some_iff.1 hf).1
  exact ⟨xs[i], by rw [h i f hf, List.getElem?_eq_getElem]⟩
theorem drop_split (cs : List Value) (o n : Nat) : cs.drop o = (cs.drop o).take n ++ cs.drop (o + n) := by rw [← List.drop_drop, List.take_append_drop]
theorem trod_ip {fuel : Nat} {cs : List Value} {x : DataW H × List MemPlace} (h : DataW.trod enc Tryz.prog W 0 (fun _ => true) true fuel 27 cs = some x) : ∃ v l, cs = ipc v l ∧ l.length = 16 ∧ Oct l := by
  obtain ⟨xs, n, _, _, hl, hxl, hat⟩ := DataW.trod_struct Tryz.underlying27 h
  have hl : cs.length = 17 := hl.trans (by kernel_rfl)
  obtain ⟨_, h0⟩ := part_of hxl hat 0 _ rfl
  obtain ⟨_, h1⟩ := part_of hxl hat 1 _ rfl
  obtain ⟨v, e0, _⟩ := DataW.trod_bool Tryz.underlying4 h0
  obtain ⟨l, e1, hll, ho⟩ := trod_u8sN Tryz.underlying25 Tryz.underlying5 (by kernel_rfl) (by kernel_rfl) h1
  have e0 : (cs.drop 0).take 1 = [.bool v] := e0
  have e1 : (cs.drop 1).take 16 = u8s l := e1
  refine ⟨v, l, ?_, hll, ho⟩
  have a0 := drop_split cs 0 1
  have a1 := drop_split cs 1 16
  rw [e0] at a0
  have z : cs.drop (1 + 16) = [] := List.drop_of_length_le (by omega)
  rw [e1, z, List.append_nil] at a1
  rw [List.drop_zero, Nat.zero_add, a1] at a0
  exact a0
theorem trod_pf {fuel : Nat} {cs : List Value} {x : DataW H × List MemPlace} (h : DataW.trod enc Tryz.prog W 0 (fun _ => true) true fuel 51 cs = some x) : ∃ v l n, cs = pfc v l n ∧ l.length = 16 ∧ Oct l ∧ I64 n := by
  obtain ⟨xs, m, _, _, hl, hxl, hat⟩ := DataW.trod_struct Tryz.underlying51 h
  have hl : cs.length = 18 := hl.trans (by kernel_rfl)
  obtain ⟨_, h0⟩ := part_of hxl hat 0 _ rfl
  obtain ⟨_, h1⟩ := part_of hxl hat 1 _ rfl
  obtain ⟨v, l, e0, hll, ho⟩ := trod_ip h0
  obtain ⟨n, e1, hn⟩ := trod_i64 h1
  have e0 : (cs.drop 0).take 17 = ipc v l := e0
  have e1 : (cs.drop 17).take 1 = [.int .i64 n] := e1
  refine ⟨v, l, n, ?_, hll, ho, hn⟩
  have a0 := drop_split cs 0 17
  have a1 := drop_split cs 17 1
  rw [e0] at a0
  have z : cs.drop (17 + 1) = [] := List.drop_of_length_le (by omega)
  rw [e1, z, List.append_nil] at a1
  rw [List.drop_zero, Nat.zero_add, a1] at a0
  rw [pfc_app]
  exact a0
theorem trod_rt {fuel : Nat} {cs : List Value} {x : DataW H × List MemPlace} (h : DataW.trod enc Tryz.prog W 0 (fun _ => true) true fuel 53 cs = some x) : ∃ r, cs = rtc r ∧ RtOk r := by
  obtain ⟨xs, m, _, _, hl, hxl, hat⟩ := DataW.trod_struct Tryz.underlying53 h
  have hl : cs.length = 63 := hl.trans (by kernel_rfl)
  obtain ⟨_, h0⟩ := part_of hxl hat 0 _ rfl
  obtain ⟨_, h1⟩ := part_of hxl hat 1 _ rfl
  obtain ⟨_, h2⟩ := part_of hxl hat 2 _ rfl
  obtain ⟨_, h3⟩ := part_of hxl hat 3 _ rfl
  obtain ⟨_, h4⟩ := part_of hxl hat 4 _ rfl
  obtain ⟨_, h5⟩ := part_of hxl hat 5 _ rfl
  obtain ⟨_, h6⟩ := part_of hxl hat 6 _ rfl
  obtain ⟨_, h7⟩ := part_of hxl hat 7 _ rfl
  obtain ⟨_, h8⟩ := part_of hxl hat 8 _ rfl
  obtain ⟨k, e0, hk⟩ := trod_i64 h0
  obtain ⟨rd, e1, lrd, ord⟩ := trod_u8sN Tryz.underlying45 Tryz.underlying5 (by kernel_rfl) (by kernel_rfl) h1
  obtain ⟨es, e2, les, oes⟩ := trod_u8sN Tryz.underlying47 Tryz.underlying5 (by kernel_rfl) (by kernel_rfl) h2
  obtain ⟨tg, e3, htg⟩ := trod_u32 h3
  obtain ⟨mc, e4, lmc, omc⟩ := trod_u8sN Tryz.underlying49 Tryz.underlying5 (by kernel_rfl) (by kernel_rfl) h4
  obtain ⟨v6, pl, pn, e5, lpl, opl, hpn⟩ := trod_pf h5
  obtain ⟨gv, gl, e6, lgl, ogl⟩ := trod_ip h6
  obtain ⟨lb, e7, hlb⟩ := trod_u32 h7
  obtain ⟨l2, e8, hl2⟩ := trod_u32 h8
  have e0 : (cs.drop 0).take 1 = [.int .i64 k] := e0
  have e1 : (cs.drop 1).take 8 = u8s rd := e1
  have e2 : (cs.drop 9).take 10 = u8s es := e2
  have e3 : (cs.drop 19).take 1 = [.int .u32 tg] := e3
  have e4 : (cs.drop 20).take 6 = u8s mc := e4
  have e5 : (cs.drop 26).take 18 = pfc v6 pl pn := e5
  have e6 : (cs.drop 44).take 17 = ipc gv gl := e6
  have e7 : (cs.drop 61).take 1 = [.int .u32 lb] := e7
  have e8 : (cs.drop 62).take 1 = [.int .u32 l2] := e8
  refine ⟨⟨k, rd, es, tg, mc, v6, pl, pn, gv, gl, lb, l2⟩, ?_, ⟨hk, lrd, ord, les, oes, htg, lmc, omc, lpl, opl, hpn, lgl, ogl, hlb, hl2⟩⟩
  have a0 := drop_split cs 0 1
  have a1 := drop_split cs 1 8
  have a2 := drop_split cs 9 10
  have a3 := drop_split cs 19 1
  have a4 := drop_split cs 20 6
  have a5 := drop_split cs 26 18
  have a6 := drop_split cs 44 17
  have a7 := drop_split cs 61 1
  have a8 := drop_split cs 62 1
  rw [e0] at a0
  rw [e1] at a1
  rw [e2] at a2
  rw [e3] at a3
  rw [e4] at a4
  rw [e5] at a5
  rw [e6] at a6
  rw [e7] at a7
  have z : cs.drop (62 + 1) = [] := List.drop_of_length_le (by omega)
  rw [e8, z, List.append_nil] at a8
  rw [List.drop_zero] at a0
  rw [a0]
  show _ ++ cs.drop 1 = _
  rw [a1]
  show _ ++ (_ ++ cs.drop 9) = _
  rw [a2]
  show _ ++ (_ ++ (_ ++ cs.drop 19)) = _
  rw [a3]
  show _ ++ (_ ++ (_ ++ (_ ++ cs.drop 20))) = _
  rw [a4]
  show _ ++ (_ ++ (_ ++ (_ ++ (_ ++ cs.drop 26)))) = _
  rw [a5]
  show _ ++ (_ ++ (_ ++ (_ ++ (_ ++ (_ ++ cs.drop 44))))) = _
  rw [a6]
  show _ ++ (_ ++ (_ ++ (_ ++ (_ ++ (_ ++ (_ ++ cs.drop 61)))))) = _
  rw [a7]
  show _ ++ (_ ++ (_ ++ (_ ++ (_ ++ (_ ++ (_ ++ (_ ++ cs.drop 62))))))) = _
  rw [a8]
  rfl
end
end Go.Proofs.YtdgoeibfggjbmaaGreatDoor
namespace Go.Proofs.YtdgoeibfggjbmaaGreatDoor
open Go.RowKit
set_option maxRecDepth 100000
set_option linter.unusedSimpArgs false
set_option linter.unusedVariables false

instance rtDec : DecidableEq Rt := fun r s => decidable_of_iff (sameR r s = true) (sameR_iff r s)
theorem rt_in (r s : Rt) (hr : RtOk r) (hs : RtOk s) (b : Bool) (hb : b = true ↔ r = s) (w : World) : (Op.equalIn 10000 53 (.agg (rtc r).toArray) (.agg (rtc s).toArray)).run Tryz.prog w = .ok b w := by
  obtain ⟨q, hq, hiff⟩ := run_equalIn_deep (10000 - 5) 5 53 (by kernel_rfl) w 5 5 (.agg (rtc r).toArray) (.agg (rtc s).toArray) _ _ (rt_formed r hr) (rt_formed s hs) (by simpa [Value.cells] using rt_lits r hr) (by simpa [Value.cells] using rt_lits s hs)
  rw [show 10000 - 5 + 5 = 10000 by omega] at hq
  rw [hq]
  have : q = b := by rw [Bool.eq_iff_iff, hiff, hb]; exact ⟨rtl_inj hr hs, fun e => by rw [e]⟩
  rw [this]
theorem RdRt.get {w : World} {B n : Nat} {A : Option Addr} {rs : List Rt} (h : RdRt w B A n rs) {m : Nat} (hm : m < rs.length) : ∃ b off, A = some ⟨b, off, none⟩ ∧ b < B ∧ w.rangeAt b (off + m * 63) (rtc rs[m]) ∧ RtOk rs[m] := by
  obtain ⟨b, off, e, hlt, hc⟩ := h.at_ (by have := h.len; omega)
  exact ⟨b, off, e, hlt, hc m hm, h.ok.at_ m hm⟩
end Go.Proofs.YtdgoeibfggjbmaaGreatDoor
