/-
  Put together: NlA NlB.
-/
import Derived.Test.YtdgoeibfggjbmaaGreatDoorMV
import Derived.Test.YtdgoeibfggjbmaaGreatDoorMH
namespace Go.Proofs.YtdgoeibfggjbmaaGreatDoor
open Go.RowKit
set_option maxRecDepth 100000
set_option linter.unusedSimpArgs false
set_option linter.unusedVariables false

structure Rt where
  k : Int
  rd : List Int
  es : List Int
  tg : Int
  mc : List Int
  v6 : Bool
  pl : List Int
  pn : Int
  gv : Bool
  gl : List Int
  lb : Int
  l2 : Int
def rtc (r : Rt) : List Value := .int .i64 r.k :: (u8s r.rd ++ (u8s r.es ++ (.int .u32 r.tg :: (u8s r.mc ++ (pfc r.v6 r.pl r.pn ++ (ipc r.gv r.gl ++ [.int .u32 r.lb, .int .u32 r.l2]))))))
abbrev U32 (n : Int) : Prop := 0 ≤ n ∧ n < 4294967296
structure RtOk (r : Rt) : Prop where
  k : I64 r.k
  rd : r.rd.length = 8
  ord : Oct r.rd
  es : r.es.length = 10
  oes : Oct r.es
  tg : U32 r.tg
  mc : r.mc.length = 6
  omc : Oct r.mc
  pl : r.pl.length = 16
  opl : Oct r.pl
  pn : I64 r.pn
  gl : r.gl.length = 16
  ogl : Oct r.gl
  lb : U32 r.lb
  l2 : U32 r.l2
theorem u8s_len (l : List Int) : (u8s l).length = l.length := by simp
theorem ipc_len (v : Bool) (l : List Int) : (ipc v l).length = l.length + 1 := by simp
theorem pfc_len (v : Bool) (l : List Int) (n : Int) : (pfc v l n).length = l.length + 2 := by simp
theorem rtc_len {r : Rt} (h : RtOk r) : (rtc r).length = 63 := by
  simp only [rtc, List.length_cons, List.length_append, u8s_len, ipc_len, pfc_len, h.rd, h.es, h.mc, h.pl, h.gl, List.length_nil]
theorem one_u8s (l : List Int) : ∀ v ∈ u8s l, v.oneCell' = true := fun v hv => by
  obtain ⟨x, _, rfl⟩ := List.mem_map.1 hv
  rfl
theorem one_ipcN (v : Bool) (l : List Int) : ∀ x ∈ ipc v l, x.oneCell' = true := fun x hx => by
  rcases List.mem_cons.1 hx with rfl | hx
  · rfl
  · exact one_u8s l x hx
theorem pfc_app (v : Bool) (l : List Int) (n : Int) : pfc v l n = ipc v l ++ [.int .i64 n] := rfl
theorem one_pfc (v : Bool) (l : List Int) (n : Int) : ∀ x ∈ pfc v l n, x.oneCell' = true := fun x hx => by
  rw [pfc_app] at hx
  rcases List.mem_append.1 hx with hx | hx
  · exact one_ipcN v l x hx
  · rw [List.mem_singleton] at hx; subst hx; rfl
theorem rtc_one (r : Rt) : ∀ v ∈ rtc r, v.oneCell' = true := by
  intro v hv
  simp only [rtc, List.mem_cons, List.mem_append, List.mem_nil_iff, or_false] at hv
  rcases hv with rfl | hv | hv | rfl | hv | hv | hv | rfl | rfl
  · rfl
  · exact one_u8s _ v hv
  · exact one_u8s _ v hv
  · rfl
  · exact one_u8s _ v hv
  · exact one_pfc r.v6 r.pl r.pn v (by simpa using hv)
  · exact one_ipcN r.gv r.gl v (by simpa using hv)
  · rfl
  · rfl

/-! The places of its fields. -/
section
variable (r : Rt)
def preEs : List Value := .int .i64 r.k :: u8s r.rd
def preTg : List Value := preEs r ++ u8s r.es
def preMc : List Value := preTg r ++ [.int .u32 r.tg]
def prePf : List Value := preMc r ++ u8s r.mc
def preGw : List Value := prePf r ++ pfc r.v6 r.pl r.pn
def preLb : List Value := preGw r ++ ipc r.gv r.gl
def postLb : List Value := [.int .u32 r.l2]
def postGw : List Value := [.int .u32 r.lb, .int .u32 r.l2]
def postPf : List Value := ipc r.gv r.gl ++ postGw r
def postMc : List Value := pfc r.v6 r.pl r.pn ++ postPf r
def postTg : List Value := u8s r.mc ++ postMc r
def postEs : List Value := .int .u32 r.tg :: postTg r
def postRd : List Value := u8s r.es ++ postEs r
theorem rtc_rd : rtc r = [.int .i64 r.k] ++ (u8s r.rd ++ postRd r) := rfl
theorem rtc_es : rtc r = preEs r ++ (u8s r.es ++ postEs r) := rfl
theorem rtc_tg : rtc r = preTg r ++ ([.int .u32 r.tg] ++ postTg r) := by rw [rtc_es, preTg, List.append_assoc]; rfl
theorem rtc_mc : rtc r = preMc r ++ (u8s r.mc ++ postMc r) := by rw [rtc_tg, preMc, List.append_assoc]; rfl
theorem rtc_pf : rtc r = prePf r ++ (pfc r.v6 r.pl r.pn ++ postPf r) := by rw [rtc_mc, prePf, List.append_assoc]; rfl
theorem rtc_ip : rtc r = prePf r ++ (ipc r.v6 r.pl ++ (.int .i64 r.pn :: postPf r)) := by rw [rtc_pf, pfc_app, List.append_assoc]; rfl
theorem rtc_pn : rtc r = (prePf r ++ ipc r.v6 r.pl) ++ ([.int .i64 r.pn] ++ postPf r) := by rw [rtc_ip, List.append_assoc]; rfl
theorem rtc_gw : rtc r = preGw r ++ (ipc r.gv r.gl ++ postGw r) := by rw [rtc_pf, preGw, List.append_assoc]; rfl
theorem rtc_lb : rtc r = preLb r ++ ([.int .u32 r.lb] ++ postLb r) := by rw [rtc_gw, preLb, List.append_assoc]; rfl
theorem rtc_l2 : rtc r = (preLb r ++ [Value.int .u32 r.lb]) ++ ([.int .u32 r.l2] ++ []) := by rw [rtc_lb, List.append_assoc]; rfl
variable {r} (h : RtOk r)
include h
theorem preEs_len : (preEs r).length = 9 := by simp only [preEs, List.length_cons, u8s_len, h.rd]
theorem preTg_len : (preTg r).length = 19 := by rw [preTg, List.length_append, preEs_len h, u8s_len, h.es]
theorem preMc_len : (preMc r).length = 20 := by rw [preMc, List.length_append, preTg_len h]; rfl
theorem prePf_len : (prePf r).length = 26 := by rw [prePf, List.length_append, preMc_len h, u8s_len, h.mc]
theorem prePn_len : (prePf r ++ ipc r.v6 r.pl).length = 43 := by rw [List.length_append, prePf_len h, ipc_len, h.pl]
theorem preGw_len : (preGw r).length = 44 := by rw [preGw, List.length_append, prePf_len h, pfc_len, h.pl]
theorem preLb_len : (preLb r).length = 61 := by rw [preLb, List.length_append, preGw_len h, ipc_len, h.gl]
theorem preL2_len : (preLb r ++ [Value.int .u32 r.lb]).length = 62 := by rw [List.length_append, preLb_len h]; rfl
end

theorem cut_mid (pre mid post : List Value) (o n : Nat) (ho : pre.length = o) (hn : mid.length = n) : ((pre ++ (mid ++ post)).drop o).take n = mid := by
  subst ho hn
  rw [List.drop_left, List.take_left]

/-! Routes compared. -/
theorem u32_wf {n : Int} (h : U32 n) : (Lit.int .u32 n).wf = true := by
  simp [Lit.wf, IntKind.min, IntKind.max, IntKind.signed, IntKind.bits]; omega
theorem ip_lits4 (v : Bool) (l : List Int) (hl : l.length = 16) (ho : Oct l) : Tryz.prog.keyLits 4 27 (ipc v l) = some (.bool v :: l.map (Lit.int .u8)) := by
  have h := keyLits_u8s (P := Tryz.prog) 1 (t := 25) (e := 5) (n := 16) Tryz.underlying25 Tryz.underlying5 (by kernel_rfl) (by kernel_rfl) l hl ho
  have hc1 : Tryz.prog.cellsOf 27 = 17 := by kernel_rfl
  have hc2 : Tryz.prog.cellsOf 25 = 16 := by kernel_rfl
  have hc3 : Tryz.prog.cellsOf 4 = 1 := by kernel_rfl
  unfold Program.keyLits
  rw [Tryz.underlying27]
  have hb : Tryz.prog.keyLits 3 4 [Value.bool v] = some [Lit.bool v] := by
    unfold Program.keyLits
    rw [Tryz.underlying4]
  have ht : (u8s l).take 16 = u8s l := List.take_of_length_le (by simp [hl])
  simp [hc1, hc2, hc3, hl, hb, ht, h]
def rtl (r : Rt) : List Lit := .int .i64 r.k :: (r.rd.map (Lit.int .u8) ++ (r.es.map (Lit.int .u8) ++ (.int .u32 r.tg :: (r.mc.map (Lit.int .u8) ++ ((.bool r.v6 :: (r.pl.map (Lit.int .u8) ++ [.int .i64 r.pn])) ++ ((.bool r.gv :: r.gl.map (Lit.int .u8)) ++ [.int .u32 r.lb, .int .u32 r.l2]))))))
set_option maxHeartbeats 1000000 in
theorem rt_lits (r : Rt) (h : RtOk r) : Tryz.prog.keyLits 5 53 (rtc r) = some (rtl r) := by
  have c1 : Tryz.prog.cellsOf 53 = 63 := by kernel_rfl
  have c2 : Tryz.prog.cellsOf 3 = 1 := by kernel_rfl
  have c3 : Tryz.prog.cellsOf 45 = 8 := by kernel_rfl
  have c4 : Tryz.prog.cellsOf 47 = 10 := by kernel_rfl
  have c5 : Tryz.prog.cellsOf 23 = 1 := by kernel_rfl
  have c6 : Tryz.prog.cellsOf 49 = 6 := by kernel_rfl
  have c7 : Tryz.prog.cellsOf 51 = 18 := by kernel_rfl
  have c8 : Tryz.prog.cellsOf 27 = 17 := by kernel_rfl
  have k1 : Tryz.prog.keyLits 4 3 [Value.int .i64 r.k] = some [Lit.int .i64 r.k] := by
    unfold Program.keyLits
    rw [Tryz.underlying3]
    simp [i64_wf h.k]
  have k2 : Tryz.prog.keyLits 4 45 (u8s r.rd) = some (r.rd.map (Lit.int .u8)) := keyLits_u8s (P := Tryz.prog) 2 (t := 45) (e := 5) (n := 8) Tryz.underlying45 Tryz.underlying5 (by kernel_rfl) (by kernel_rfl) r.rd h.rd h.ord
  have k3 : Tryz.prog.keyLits 4 47 (u8s r.es) = some (r.es.map (Lit.int .u8)) := keyLits_u8s (P := Tryz.prog) 2 (t := 47) (e := 5) (n := 10) Tryz.underlying47 Tryz.underlying5 (by kernel_rfl) (by kernel_rfl) r.es h.es h.oes
  have ku : ∀ n, U32 n → Tryz.prog.keyLits 4 23 [Value.int .u32 n] = some [Lit.int .u32 n] := fun n hn => by
    unfold Program.keyLits
    rw [Tryz.underlying23]
    simp [u32_wf hn]
  have k5 : Tryz.prog.keyLits 4 49 (u8s r.mc) = some (r.mc.map (Lit.int .u8)) := keyLits_u8s (P := Tryz.prog) 2 (t := 49) (e := 5) (n := 6) Tryz.underlying49 Tryz.underlying5 (by kernel_rfl) (by kernel_rfl) r.mc h.mc h.omc
  have k6 := pf_lits r.v6 r.pl r.pn h.pl h.opl h.pn
  have k7 : Tryz.prog.keyLits 4 27 (ipc r.gv r.gl) = some (.bool r.gv :: r.gl.map (Lit.int .u8)) := ip_lits4 r.gv r.gl h.gl h.ogl
  have d1 : (rtc r).take 1 = [Value.int .i64 r.k] := rfl
  have d2 : ((rtc r).drop 1).take 8 = u8s r.rd := by rw [rtc_rd]; exact cut_mid _ _ _ _ _ rfl (by simp [h.rd])
  have d3 : ((rtc r).drop 9).take 10 = u8s r.es := by rw [rtc_es]; exact cut_mid _ _ _ _ _ (preEs_len h) (by simp [h.es])
  have d4 : ((rtc r).drop 19).take 1 = [Value.int .u32 r.tg] := by rw [rtc_tg]; exact cut_mid _ _ _ _ _ (preTg_len h) rfl
  have d5 : ((rtc r).drop 20).take 6 = u8s r.mc := by rw [rtc_mc]; exact cut_mid _ _ _ _ _ (preMc_len h) (by simp [h.mc])
  have d6 : ((rtc r).drop 26).take 18 = pfc r.v6 r.pl r.pn := by rw [rtc_pf]; exact cut_mid _ _ _ _ _ (prePf_len h) (by simp [h.pl])
  have d7 : ((rtc r).drop 44).take 17 = ipc r.gv r.gl := by rw [rtc_gw]; exact cut_mid _ _ _ _ _ (preGw_len h) (by simp [h.gl])
  have d8 : ((rtc r).drop 61).take 1 = [Value.int .u32 r.lb] := by rw [rtc_lb]; exact cut_mid _ _ _ _ _ (preLb_len h) rfl
  have d9 : ((rtc r).drop 62).take 1 = [Value.int .u32 r.l2] := by rw [rtc_l2]; exact cut_mid _ _ _ _ _ (preL2_len h) rfl
  have d2' : (rtc r).tail.take 8 = u8s r.rd := by simpa using d2
  have hlen := rtc_len h
  unfold Program.keyLits
  rw [Tryz.underlying53]
  generalize rtc r = cs at *
  simp [c1, hlen, c2, c3, c4, c5, c6, c7, c8, List.mapM_cons, List.mapM_nil, d1, d2', d3, d4, d5, d6, d7, d8, d9, k1, k2, k3, ku r.tg h.tg, k5, k6, k7, ku r.lb h.lb, ku r.l2 h.l2]
  simp [rtl]
theorem rt_formed (r : Rt) (h : RtOk r) : (Value.agg (rtc r).toArray).formed Tryz.prog 53 = true := by
  have hc1 : Tryz.prog.cellsOf 53 = 63 := by kernel_rfl
  simp [Value.formed, Tryz.underlying53, hc1, rtc_len h]
theorem rtl_inj {r s : Rt} (hr : RtOk r) (hs : RtOk s) (h : rtl r = rtl s) : r = s := by
  unfold rtl at h
  rw [List.cons.injEq] at h
  obtain ⟨e1, h⟩ := h
  obtain ⟨e2, h⟩ := List.append_inj h (by simp [hr.rd, hs.rd])
  obtain ⟨e3, h⟩ := List.append_inj h (by simp [hr.es, hs.es])
  rw [List.cons.injEq] at h
  obtain ⟨e4, h⟩ := h
  obtain ⟨e5, h⟩ := List.append_inj h (by simp [hr.mc, hs.mc])
  obtain ⟨e6, h⟩ := List.append_inj h (by simp [hr.pl, hs.pl])
  obtain ⟨e6a, e6b, e6c⟩ := (pf_inj hr.pl hs.pl).1 e6
  obtain ⟨e7, h⟩ := List.append_inj h (by simp [hr.gl, hs.gl])
  rw [List.cons.injEq] at e7
  obtain ⟨e7a, e7b⟩ := e7
  simp only [List.cons.injEq, Lit.int.injEq, true_and, and_true] at h e1 e4
  simp only [Lit.bool.injEq] at e7a
  obtain ⟨k, rd, es, tg, mc, v6, pl, pn, gv, gl, lb, l2⟩ := r
  obtain ⟨k', rd', es', tg', mc', v6', pl', pn', gv', gl', lb', l2'⟩ := s
  simp only at *
  rw [e1, lits_inj e2, lits_inj e3, e4, lits_inj e5, e6a, e6b, e6c, e7a, lits_inj e7b, h.1, h.2]
theorem rt_eql (r s : Rt) (hr : RtOk r) (hs : RtOk s) (b : Bool) (hb : b = true ↔ r = s) (w : World) : (binOp .eql 53 (.agg (rtc r).toArray) (.agg (rtc s).toArray)).run Tryz.prog w = .ok (.bool b) w :=
  run_eql_key 5 5 5 (by kernel_rfl) (by omega) _ _ _ _ (rt_formed r hr) (rt_formed s hs) (rt_lits r hr) (rt_lits s hs) b (hb.trans ⟨fun e => by rw [e], rtl_inj hr hs⟩) w
/-! Where one lies. -/
structure RtAt (w : World) (g : Nat) (r : Rt) : Prop where
  rng : w.rangeAt g 0 (rtc r)
  thr : w.there g 0 63
section
variable {w w' : World} {g : Nat} {r s : Rt}
theorem RtAt.lt (h : RtAt w g r) : g < w.heap.size := range_lt h.rng (by simp [rtc])
theorem RtAt.keep (h : RtAt w g r) (hk : w'.heap[g]? = w.heap[g]?) : RtAt w' g r :=
  ⟨range_keep h.rng fun p hp => World.cell?_of_block (by rw [hp]; exact hk), fun j hj => by
    have h1 := h.thr j hj
    have e1 : w'.cell? ⟨g, 0 + j, none⟩ = w.cell? ⟨g, 0 + j, none⟩ := World.cell?_of_block hk
    have e2 : w'.frozen? ⟨g, 0 + j, none⟩ = w.frozen? ⟨g, 0 + j, none⟩ := by unfold World.frozen?; simp only [hk]
    rw [e1, e2]
    exact h1⟩
theorem RtAt.below {B : Nat} (h : RtAt w g r) (hb : Below B w w') (hg : g < B) : RtAt w' g r := h.keep (hb.block g hg)
theorem RtAt.alloc (h : RtAt w g r) (o : Obj) : RtAt (w.alloc o) g r := h.keep (Below.heap_alloc w o g h.lt)
theorem RtAt.grown {row : Option Nat} (h : RtAt w g r) (hb : w.grownBy w' row) (hg : some g ≠ row) : RtAt w' g r := h.keep (hb.block g h.lt hg)
theorem RtAt.new (w : World) (r : Rt) (hr : RtOk r) (t : TypeId) : RtAt (w.alloc (.cells (rtc r).toArray t)) w.heap.size r :=
  ⟨range_new w t (rtc r), fun j hj => by
    have hb := Blk.new w t (rtc r).toArray
    rw [hb.cell, hb.frozen]
    refine ⟨?_, rfl⟩
    have := rtc_len hr
    simp
    omega⟩
theorem RtAt.row {t : TypeId} {old : Array Value} (h : Blk w g t old) (hr : RtOk r) : RtAt (w.setRow g (rtc r).toArray) g r :=
  ⟨(h.setRow _).range, fun j hj => by
    have hb := h.setRow (rtc r).toArray
    rw [hb.cell, hb.frozen]
    refine ⟨?_, rfl⟩
    have := rtc_len hr
    simp
    omega⟩
theorem RtAt.cells {pre old new post : List Value} {o : Nat} (h : RtAt w g r) (hr : RtOk r) (e : rtc r = pre ++ (old ++ post)) (e' : rtc s = pre ++ (new ++ post)) (ho : pre.length = o) (hl : new.length = old.length) : RtAt (w.setCells g o new) g s := by
  subst ho
  have hlen := rtc_len hr
  rw [e, List.length_append, List.length_append] at hlen
  have ht : w.there g pre.length new.length := fun j hj => by
    have := h.thr (pre.length + j) (by omega)
    rwa [Nat.zero_add] at this
  have hrng := h.rng
  rw [e] at hrng
  refine ⟨?_, World.there_setCells h.thr _ _ _⟩
  rw [e']
  have h1 := World.rangeAt_setCells_apart (range_pre hrng) g pre.length new (Or.inr (Or.inl (by omega)))
  have h2 := World.rangeAt_setCells_same w g pre.length new ht
  have h3 := World.rangeAt_setCells_apart (range_post (range_post hrng)) g pre.length new (Or.inr (Or.inr (by omega)))
  intro j v hv
  rcases Nat.lt_or_ge j pre.length with c | c
  · rw [List.getElem?_append_left c] at hv
    exact h1 j v hv
  · rw [List.getElem?_append_right c] at hv
    rcases Nat.lt_or_ge (j - pre.length) new.length with d | d
    · rw [List.getElem?_append_left d] at hv
      have := h2 _ v hv
      rwa [show pre.length + (j - pre.length) = 0 + j by omega] at this
    · rw [List.getElem?_append_right d] at hv
      have := h3 _ v hv
      rwa [show 0 + pre.length + old.length + (j - pre.length - new.length) = 0 + j by omega] at this
theorem RtAt.thereAt (h : RtAt w g r) (o n : Nat) (hn : o + n ≤ 63) : w.there g o n := fun j hj => by
  have := h.thr (o + j) (by omega)
  rwa [Nat.zero_add] at this
variable (h : RtAt w g r) (hr : RtOk r)
include h hr
theorem RtAt.setEs (l : List Int) (hl : l.length = 10) : RtAt (w.setCells g 9 (u8s l)) g { r with es := l } := h.cells hr (rtc_es r) (rtc_es _) (preEs_len hr) (by simp [hl, hr.es])
theorem RtAt.setMc (l : List Int) (hl : l.length = 6) : RtAt (w.setCells g 20 (u8s l)) g { r with mc := l } := h.cells hr (rtc_mc r) (rtc_mc _) (preMc_len hr) (by simp [hl, hr.mc])
theorem RtAt.setPf (v : Bool) (l : List Int) (n : Int) (hl : l.length = 16) : RtAt (w.setCells g 26 (pfc v l n)) g { r with v6 := v, pl := l, pn := n } := h.cells hr (rtc_pf r) (rtc_pf _) (prePf_len hr) (by simp [hl, hr.pl])
theorem RtAt.setIp (v : Bool) (l : List Int) (hl : l.length = 16) : RtAt (w.setCells g 26 (ipc v l)) g { r with v6 := v, pl := l } := h.cells hr (rtc_ip r) (rtc_ip _) (prePf_len hr) (by simp [hl, hr.pl])
theorem RtAt.setGw (v : Bool) (l : List Int) (hl : l.length = 16) : RtAt (w.setCells g 44 (ipc v l)) g { r with gv := v, gl := l } := h.cells hr (rtc_gw r) (rtc_gw _) (preGw_len hr) (by simp [hl, hr.gl])
theorem RtAt.setTg (n : Int) : RtAt (w.setCell ⟨g, 19, none⟩ (.int .u32 n)) g { r with tg := n } := h.cells (new := [.int .u32 n]) hr (rtc_tg r) (rtc_tg _) (preTg_len hr) rfl
theorem RtAt.setPn (n : Int) : RtAt (w.setCell ⟨g, 43, none⟩ (.int .i64 n)) g { r with pn := n } := h.cells (new := [.int .i64 n]) hr (rtc_pn r) (rtc_pn _) (prePn_len hr) rfl
theorem RtAt.setLb (n : Int) : RtAt (w.setCell ⟨g, 61, none⟩ (.int .u32 n)) g { r with lb := n } := h.cells (new := [.int .u32 n]) hr (rtc_lb r) (rtc_lb _) (preLb_len hr) rfl
theorem RtAt.setL2 (n : Int) : RtAt (w.setCell ⟨g, 62, none⟩ (.int .u32 n)) g { r with l2 := n } := h.cells (new := [.int .u32 n]) hr (rtc_l2 r) (rtc_l2 _) (preL2_len hr) rfl
omit hr in
theorem RtAt.cK : w.cell? ⟨g, 0, none⟩ = some (.int .i64 r.k) := h.rng 0 _ rfl
omit hr in
theorem RtAt.part {pre mid post : List Value} {o : Nat} (e : rtc r = pre ++ (mid ++ post)) (ho : pre.length = o) : w.rangeAt g o mid := by
  subst ho
  have hrng := h.rng
  rw [e] at hrng
  have := range_pre (range_post hrng)
  rwa [Nat.zero_add] at this
omit hr in
theorem RtAt.rRd : w.rangeAt g 1 (u8s r.rd) := h.part (rtc_rd r) rfl
theorem RtAt.rEs : w.rangeAt g 9 (u8s r.es) := h.part (rtc_es r) (preEs_len hr)
theorem RtAt.rMc : w.rangeAt g 20 (u8s r.mc) := h.part (rtc_mc r) (preMc_len hr)
theorem RtAt.rPf : w.rangeAt g 26 (pfc r.v6 r.pl r.pn) := h.part (rtc_pf r) (prePf_len hr)
theorem RtAt.rIp : w.rangeAt g 26 (ipc r.v6 r.pl) := h.part (rtc_ip r) (prePf_len hr)
theorem RtAt.rGw : w.rangeAt g 44 (ipc r.gv r.gl) := h.part (rtc_gw r) (preGw_len hr)
theorem RtAt.cTg : w.cell? ⟨g, 19, none⟩ = some (.int .u32 r.tg) := (h.part (rtc_tg r) (preTg_len hr)) 0 _ rfl
theorem RtAt.cPn : w.cell? ⟨g, 43, none⟩ = some (.int .i64 r.pn) := (h.part (rtc_pn r) (prePn_len hr)) 0 _ rfl
theorem RtAt.cV6 : w.cell? ⟨g, 26, none⟩ = some (.bool r.v6) := (h.rIp hr) 0 _ rfl
theorem RtAt.cGv : w.cell? ⟨g, 44, none⟩ = some (.bool r.gv) := (h.rGw hr) 0 _ rfl
theorem RtAt.cLb : w.cell? ⟨g, 61, none⟩ = some (.int .u32 r.lb) := (h.part (rtc_lb r) (preLb_len hr)) 0 _ rfl
theorem RtAt.cL2 : w.cell? ⟨g, 62, none⟩ = some (.int .u32 r.l2) := (h.part (rtc_l2 r) (preL2_len hr)) 0 _ rfl
end

/-! Loaded and stored as a whole. -/
theorem rt_size : (Tryz.prog.info? 53).map (·.size) = some 63 := by kernel_rfl
theorem rt_fetch {ops : Array Oper} {rest : List Oper} {op : Oper} {a : Act} {w : World} {Q : Exit → Act → World → Prop} (hw : Region.wanted op (yielded ops a.tmps) = true) (x : Operand) (ho : op.op = .load 53 x)
    (g : Nat) (r : Rt) (hr : RtOk r) (hx : a.eval x = .pointer (some ⟨g, 0, none⟩)) (hc : RtAt w g r) (h : wpList Tryz.prog ops Q rest (a.put op.dst (.agg (rtc r).toArray)) w) : wpList Tryz.prog ops Q (op :: rest) a w :=
  BigFrame.wpList_want hw fun _ hK => wp_load_mid 53 x ho g 0 hx (rtc r) _ hc.rng Tryz.underlying53 rfl (by rw [rt_size, rtc_len hr]) (hK _ _ h)
theorem rt_store {ops : Array Oper} {rest : List Oper} {o : Oper} {a : Act} {w : World} {Q : Exit → Act → World → Prop} (hgd : o.guard = none) (x y : Operand) (ho : o.op = .store 53 x y) (g : Nat) (r : Rt) (hr : RtOk r)
    (hx : a.eval x = .pointer (some ⟨g, 0, none⟩)) (hy : a.eval y = .agg (rtc r).toArray) (t : TypeId) (old : Array Value) (hg : Blk w g t old) (hold : old.size = 63)
    (h : wpList Tryz.prog ops Q rest (a.put o.dst undef) (w.setRow g (rtc r).toArray)) : wpList Tryz.prog ops Q (o :: rest) a w :=
  wpList_store_row hgd 53 x y ho g _ hx hy t old hg (by rw [rt_size]; simp [rtc_len hr]) (by rw [hold]; simp [rtc_len hr]) (all_oneCell_toArray (rtc_one r)) h
theorem part_fetch {ops : Array Oper} {rest : List Oper} {op : Oper} {a : Act} {w : World} {Q : Exit → Act → World → Prop} (hw : Region.wanted op (yielded ops a.tmps) = true) (ty : TypeId) (x : Operand) (ho : op.op = .load ty x)
    (g o : Nat) (cs : List Value) (d : TypeDesc) (hx : a.eval x = .pointer (some ⟨g, o, none⟩)) (hc : w.rangeAt g o cs) (hu : Tryz.prog.underlying ty = some d) (hd : d.isRow = true) (hi : (Tryz.prog.info? ty).map (·.size) = some cs.length)
    (h : wpList Tryz.prog ops Q rest (a.put op.dst (.agg cs.toArray)) w) : wpList Tryz.prog ops Q (op :: rest) a w :=
  BigFrame.wpList_want hw fun _ hK => wp_load_mid ty x ho g o hx cs _ hc hu hd hi (hK _ _ h)
theorem part_store {ops : Array Oper} {rest : List Oper} {o : Oper} {a : Act} {w : World} {Q : Exit → Act → World → Prop} (hgd : o.guard = none) (ty : TypeId) (x y : Operand) (ho : o.op = .store ty x y) (g off : Nat) (cs : List Value)
    (hx : a.eval x = .pointer (some ⟨g, off, none⟩)) (hy : a.eval y = .agg cs.toArray) (ht : w.there g off cs.length) (hi : (Tryz.prog.info? ty).map (·.size) = some cs.length) (h1 : ∀ v ∈ cs, v.oneCell' = true)
    (h : wpList Tryz.prog ops Q rest (a.put o.dst undef) (w.setCells g off cs)) : wpList Tryz.prog ops Q (o :: rest) a w :=
  wpList_store_mid hgd ty x y ho g off cs.toArray hx hy (by simpa using ht) (by simpa using hi) (all_oneCell_toArray h1) (by simpa using h)

def rtZ (k : Int) (rd : List Int) : Rt := ⟨k, rd, List.replicate 10 0, 0, List.replicate 6 0, false, z16, 0, false, z16, 0, 0⟩
theorem oct_zeros (n : Nat) : Oct (List.replicate n 0) := fun x hx => by rw [List.eq_of_mem_replicate hx]; omega
theorem u32_0 : U32 0 := ⟨by omega, by omega⟩
theorem i64_0 : I64 0 := ⟨by omega, by omega⟩
theorem rtZ_ok (k : Int) (rd : List Int) (hk : I64 k) (hl : rd.length = 8) (ho : Oct rd) : RtOk (rtZ k rd) :=
  ⟨hk, hl, ho, by simp [rtZ], oct_zeros 10, u32_0, by simp [rtZ], oct_zeros 6, by simp [rtZ, z16], oct_zeros 16, i64_0, by simp [rtZ, z16], oct_zeros 16, u32_0, u32_0⟩
theorem built_rt8 (k b0 b1 b2 b3 b4 b5 b6 b7 : Int) : Tryz.prog.built 53 [(0, .int .i64 k), (1, .agg (u8s [b0, b1, b2, b3, b4, b5, b6, b7]).toArray)] = some (rtc (rtZ k [b0, b1, b2, b3, b4, b5, b6, b7])).toArray := by kernel_rfl
theorem built_rt (k : Int) (rd : List Int) (hl : rd.length = 8) : Tryz.prog.built 53 [(0, .int .i64 k), (1, .agg (u8s rd).toArray)] = some (rtc (rtZ k rd)).toArray := by
  match rd, hl with
  | [b0, b1, b2, b3, b4, b5, b6, b7], _ => exact built_rt8 k b0 b1 b2 b3 b4 b5 b6 b7
theorem built_k (k : Int) : Tryz.prog.built 53 [(0, .int .i64 k)] = some (rtc (rtZ k (List.replicate 8 0))).toArray := by kernel_rfl
theorem built_0 : Tryz.prog.built 53 [] = some (rtc (rtZ 0 (List.replicate 8 0))).toArray := by kernel_rfl
end Go.Proofs.YtdgoeibfggjbmaaGreatDoor
namespace Go.Proofs.YtdgoeibfggjbmaaGreatDoor
open Go.RowKit
set_option maxRecDepth 100000
set_option linter.unusedSimpArgs false
set_option linter.unusedVariables false

theorem below_cells {B b : Nat} {a : World} (hb : B ≤ b) : ∀ (cs : List Value) (o : Nat) (w : World), Below B a w → Below B a (w.setCells b o cs)
  | [], _, _, h => h
  | v :: r, o, w, h => below_cells hb r (o + 1) _ (h.setCell (p := ⟨b, o, none⟩) hb v)
theorem heap_cells {b i : Nat} (hne : i ≠ b) : ∀ (cs : List Value) (o : Nat) (w : World), (w.setCells b o cs).heap[i]? = w.heap[i]?
  | [], _, _ => rfl
  | v :: r, o, w => (heap_cells hne r (o + 1) _).trans (Below.heap_setCell w ⟨b, o, none⟩ v i hne)
section
variable {P : Program}
theorem run_storeVar_int (w : World) (b o : Nat) (ty : TypeId) (q : IntKind) (n : Int) (ht : w.there b o 1) (hi : (P.info? ty).map (·.size) = some 1) : (storeVar ty ⟨b, o, none⟩ (.int q n)).run P w = .ok () (w.setCell ⟨b, o, none⟩ (.int q n)) := by
  have := run_storeCells_cells (P := P) b o [.int q n] 0 w (fun j hj => by simpa using (ht j (by simpa using hj)).1) (fun j hj => by simpa using (ht j (by simpa using hj)).2)
    (fun v hv => by rw [List.mem_singleton] at hv; subst hv; rfl)
  cases hq : P.info? ty with
  | none => simp [hq] at hi
  | some i =>
    have hs : 1 = i.size := by simp [hq] at hi; omega
    simp only [Nat.add_zero] at this
    simp [storeVar, sizeOf, typeInfo, hq, Value.cells, ← hs, this]
    rfl
theorem wp_store_int {op : Oper} {a : Act} {w : World} {K : Act → World → Prop} {Q : Exit → Act → World → Prop} (ty : TypeId) (x y : Operand) (ho : op.op = .store ty x y)
    (b o : Nat) (q : IntKind) (n : Int) (hx : a.eval x = .pointer (some ⟨b, o, none⟩)) (hy : a.eval y = .int q n) (ht : w.there b o 1) (hi : (P.info? ty).map (·.size) = some 1)
    (h : K (a.put op.dst undef) (w.setCell ⟨b, o, none⟩ (.int q n))) : op.wp P a w K Q := by
  unfold Oper.wp execOp
  simp only [ho, hx, hy, Instr.storeAt, Instr.sureAddr, Sem.run_bind, Sem.run_pure, Result.andThen_ok, run_storeVar_int w b o ty q n ht hi]
  exact h
theorem wp_store_listN {op : Oper} {a : Act} {w : World} {K : Act → World → Prop} {Q : Exit → Act → World → Prop} (ty : TypeId) (x y : Operand) (ho : op.op = .store ty x y)
    (b o : Nat) (cs : List Value) (hx : a.eval x = .pointer (some ⟨b, o, none⟩)) (hy : a.eval y = .agg cs.toArray) (ht : w.there b o cs.length) (hi : (P.info? ty).map (·.size) = some cs.length) (h1 : ∀ v ∈ cs, v.oneCell' = true)
    (h : K (a.put op.dst undef) (w.setCells b o cs)) : op.wp P a w K Q :=
  wp_store_mid ty x y ho b o cs.toArray hx hy (by simpa using ht) (by simpa using hi) (all_oneCell_toArray h1) (by simpa using h)
end
theorem sz_rd {r : Rt} (h : RtOk r) : (Tryz.prog.info? 45).map (·.size) = some (u8s r.rd).length := by rw [u8s_len, h.rd]; kernel_rfl
theorem sz_es {r : Rt} (h : RtOk r) : (Tryz.prog.info? 47).map (·.size) = some (u8s r.es).length := by rw [u8s_len, h.es]; kernel_rfl
theorem sz_mc {r : Rt} (h : RtOk r) : (Tryz.prog.info? 49).map (·.size) = some (u8s r.mc).length := by rw [u8s_len, h.mc]; kernel_rfl
theorem sz_pf {r : Rt} (h : RtOk r) : (Tryz.prog.info? 51).map (·.size) = some (pfc r.v6 r.pl r.pn).length := by rw [pfc_len, h.pl]; kernel_rfl
theorem sz_ip {r : Rt} (h : RtOk r) : (Tryz.prog.info? 27).map (·.size) = some (ipc r.v6 r.pl).length := by rw [ipc_len, h.pl]; kernel_rfl
theorem sz_gw {r : Rt} (h : RtOk r) : (Tryz.prog.info? 27).map (·.size) = some (ipc r.gv r.gl).length := by rw [ipc_len, h.gl]; kernel_rfl
theorem sz_u32 : (Tryz.prog.info? 23).map (·.size) = some 1 := by kernel_rfl
theorem rt_build {ops : Array Oper} {rest : List Oper} {o : Oper} {a : Act} {w : World} {Q : Exit → Act → World → Prop} (hgd : o.guard = none) (parts : Array (Nat × Operand)) (ho : o.op = .build 53 parts) (vals : List (Nat × Value))
    (hv : (parts.map fun (i, x) => (i, a.eval x)).toList = vals) (r : Rt) (hb : Tryz.prog.built 53 vals = some (rtc r).toArray) (h : wpList Tryz.prog ops Q rest (a.put o.dst (.agg (rtc r).toArray)) w) : wpList Tryz.prog ops Q (o :: rest) a w :=
  wpList_plain hgd fun _ hK => by
    unfold Oper.wp execOp
    simp only [ho, Sem.run_bind, run_build w _ _ _ (by rw [hv]; exact hb), Result.andThen_ok]
    exact hK _ _ h
theorem rt_store_to {ops : Array Oper} {rest : List Oper} {o : Oper} {a : Act} {w : World} {Q : Exit → Act → World → Prop} (hgd : o.guard = none) (x y : Operand) (ho : o.op = .store 53 x y) (g : Nat) (r : Rt) (hr : RtOk r)
    (hx : a.eval x = .pointer (some ⟨g, 0, none⟩)) (hy : a.eval y = .agg (rtc r).toArray) (t : TypeId) (old : Array Value) (hg : Blk w g t old) (hold : old.size = 63) (I : World → Prop) (hI : I (w.setRow g (rtc r).toArray))
    (h : ∀ W, I W → wpList Tryz.prog ops Q rest (a.put o.dst undef) W) : wpList Tryz.prog ops Q (o :: rest) a w := rt_store hgd x y ho g r hr hx hy t old hg hold (h _ hI)

def ownR (r : Rt) : Rt :=
  if r.k = 1 then { rtZ r.k r.rd with es := r.es, tg := r.tg, lb := r.lb }
  else if r.k = 2 then { rtZ r.k r.rd with es := r.es, tg := r.tg, mc := r.mc, v6 := r.v6, pl := r.pl, pn := r.pn, lb := r.lb, l2 := r.l2 }
  else if r.k = 3 then { rtZ r.k r.rd with tg := r.tg, v6 := r.v6, pl := r.pl, pn := r.pn }
  else if r.k = 4 then { rtZ r.k r.rd with es := r.es, v6 := r.v6, pl := r.pl, pn := r.pn }
  else if r.k = 5 then { rtZ r.k r.rd with es := r.es, tg := r.tg, v6 := r.v6, pl := r.pl, pn := r.pn, gv := r.gv, gl := r.gl, lb := r.lb }
  else rtZ r.k r.rd
section
variable {r o : Rt}
theorem RtOk.oEs (h : RtOk o) (hr : RtOk r) : RtOk { o with es := r.es } := { h with es := hr.es, oes := hr.oes }
theorem RtOk.oTg (h : RtOk o) (hr : RtOk r) : RtOk { o with tg := r.tg } := { h with tg := hr.tg }
theorem RtOk.oMc (h : RtOk o) (hr : RtOk r) : RtOk { o with mc := r.mc } := { h with mc := hr.mc, omc := hr.omc }
theorem RtOk.oPf (h : RtOk o) (hr : RtOk r) : RtOk { o with v6 := r.v6, pl := r.pl, pn := r.pn } := { h with pl := hr.pl, opl := hr.opl, pn := hr.pn }
theorem RtOk.oGw (h : RtOk o) (hr : RtOk r) : RtOk { o with gv := r.gv, gl := r.gl } := { h with gl := hr.gl, ogl := hr.ogl }
theorem RtOk.oLb (h : RtOk o) (hr : RtOk r) : RtOk { o with lb := r.lb } := { h with lb := hr.lb }
theorem RtOk.oL2 (h : RtOk o) (hr : RtOk r) : RtOk { o with l2 := r.l2 } := { h with l2 := hr.l2 }
theorem ownR_ok (hr : RtOk r) : RtOk (ownR r) := by
  have hz := rtZ_ok r.k r.rd hr.k hr.rd hr.ord
  unfold ownR
  split
  · exact ((hz.oEs hr).oTg hr).oLb hr
  · split
    · exact (((((hz.oEs hr).oTg hr).oMc hr).oPf hr).oLb hr).oL2 hr
    · split
      · exact (hz.oTg hr).oPf hr
      · split
        · exact (hz.oEs hr).oPf hr
        · split
          · exact ((((hz.oEs hr).oTg hr).oPf hr).oGw hr).oLb hr
          · exact hz
end

structure OwnWN (w W : World) (r o : Rt) : Prop where
  src : RtAt W w.heap.size r
  res : ∃ Z, Blk W (w.heap.size + 1) 53 Z ∧ Z.size = 63
  dst : RtAt W (w.heap.size + 2) o
  low : Below w.heap.size w W
  okr : RtOk r
  ok : RtOk o
section
variable {w W : World} {r o o' : Rt}
theorem OwnWN.step {off : Nat} {cs : List Value} (h : OwnWN w W r o) (hd : RtAt (W.setCells (w.heap.size + 2) off cs) (w.heap.size + 2) o') (hok : RtOk o') : OwnWN w (W.setCells (w.heap.size + 2) off cs) r o' := by
  obtain ⟨Z, hZ, hs⟩ := h.res
  exact ⟨h.src.keep (heap_cells (by omega) _ _ _), ⟨Z, (heap_cells (show w.heap.size + 1 ≠ w.heap.size + 2 by omega) _ _ _).trans hZ, hs⟩, hd, below_cells (by omega) _ _ _ h.low, h.okr, hok⟩
theorem OwnWN.es (h : OwnWN w W r o) : OwnWN w (W.setCells (w.heap.size + 2) 9 (u8s r.es)) r { o with es := r.es } := h.step (h.dst.setEs h.ok r.es h.okr.es) (h.ok.oEs h.okr)
theorem OwnWN.mc (h : OwnWN w W r o) : OwnWN w (W.setCells (w.heap.size + 2) 20 (u8s r.mc)) r { o with mc := r.mc } := h.step (h.dst.setMc h.ok r.mc h.okr.mc) (h.ok.oMc h.okr)
theorem OwnWN.pf (h : OwnWN w W r o) : OwnWN w (W.setCells (w.heap.size + 2) 26 (pfc r.v6 r.pl r.pn)) r { o with v6 := r.v6, pl := r.pl, pn := r.pn } := h.step (h.dst.setPf h.ok r.v6 r.pl r.pn h.okr.pl) (h.ok.oPf h.okr)
theorem OwnWN.gw (h : OwnWN w W r o) : OwnWN w (W.setCells (w.heap.size + 2) 44 (ipc r.gv r.gl)) r { o with gv := r.gv, gl := r.gl } := h.step (h.dst.setGw h.ok r.gv r.gl h.okr.gl) (h.ok.oGw h.okr)
theorem OwnWN.tg (h : OwnWN w W r o) : OwnWN w (W.setCell ⟨w.heap.size + 2, 19, none⟩ (.int .u32 r.tg)) r { o with tg := r.tg } := h.step (cs := [.int .u32 r.tg]) (h.dst.setTg h.ok r.tg) (h.ok.oTg h.okr)
theorem OwnWN.lb (h : OwnWN w W r o) : OwnWN w (W.setCell ⟨w.heap.size + 2, 61, none⟩ (.int .u32 r.lb)) r { o with lb := r.lb } := h.step (cs := [.int .u32 r.lb]) (h.dst.setLb h.ok r.lb) (h.ok.oLb h.okr)
theorem OwnWN.l2 (h : OwnWN w W r o) : OwnWN w (W.setCell ⟨w.heap.size + 2, 62, none⟩ (.int .u32 r.l2)) r { o with l2 := r.l2 } := h.step (cs := [.int .u32 r.l2]) (h.dst.setL2 h.ok r.l2) (h.ok.oL2 h.okr)
theorem OwnWN.drew (h : OwnWN w W r o) : OwnWN w W.drew r o := by
  obtain ⟨Z, hZ, hs⟩ := h.res
  exact ⟨h.src.keep rfl, ⟨Z, hZ, hs⟩, h.dst.keep rfl, below_drewN h.low 1, h.okr, h.ok⟩
end

set_option maxHeartbeats 4000000 in
set_option maxRecDepth 100000 in
theorem own_1 (w : World) (r : Rt) (hr : RtOk r) (hk : r.k = 1) : Calls Tryz.prog 190 #[.agg (rtc r).toArray] w fun e w' => e = .returned (.agg (rtc (ownR r)).toArray) ∧ Below w.heap.size w w' := by
  have h1 := RtAt.new w r hr 53
  have HX := Lib.hid (fun Z => (h1.alloc (.cells Z 53)).rRd)
  have c0 : (rtc r)[0]? = some (.int .i64 r.k) := rfl
  have hz := rtZ_ok r.k r.rd hr.k hr.rd hr.ord
  have HB3 : Hid (∀ Z Z', Blk (((w.alloc (.cells (rtc r).toArray 53)).alloc (.cells Z 53)).alloc (.cells Z' 53)) (w.heap.size + 2) 53 Z') := Lib.hid (fun Z Z' => by
    have := Blk.new ((w.alloc (.cells (rtc r).toArray 53)).alloc (.cells Z 53)) 53 Z'
    simpa using this)
  have HI : Hid (∀ Z Z', Z.size = 63 → OwnWN w ((((w.alloc (.cells (rtc r).toArray 53)).alloc (.cells Z 53)).alloc (.cells Z' 53)).setRow (w.heap.size + 2) (rtc (rtZ r.k r.rd)).toArray) r (rtZ r.k r.rd)) := Lib.hid (fun Z Z' hs => by
    have hb2 : Blk (w.alloc (.cells (rtc r).toArray 53) |>.alloc (.cells Z 53)) (w.heap.size + 1) 53 Z := by simpa using Blk.new (w.alloc (.cells (rtc r).toArray 53)) 53 Z
    refine ⟨((h1.alloc _).alloc _).keep (setRow_other _ _ _ _ (by omega)), ⟨Z, (setRow_other _ _ _ _ (by omega)).trans (hb2.alloc _), hs⟩, RtAt.row (HB3.out Z Z') hz, ?_, hr, hz⟩
    exact ((((Below.refl w.heap.size w).alloc (Nat.le_refl _) _).alloc (by simp) _).alloc (by simp; omega) _).trans (below_setRow _ _ _ (by omega)))
  have HR := Lib.hid hr
  have HZ := Lib.hid hz
  have HBu := Lib.hid (built_rt r.k r.rd hr.rd)
  have HF : Hid ({ rtZ r.k r.rd with es := r.es, tg := r.tg, lb := r.lb } = ownR r) := Lib.hid (by unfold ownR; rw [if_pos hk])
  have e1 : (r.k == 1) = true := by rw [beq_iff_eq]; omega
  clear h1 hz hk hr
  generalize hkk : r.k = kk at *
  have HKK := Lib.hid hkk
  clear hkk
  go_enter Tryz.func190, Tryz.ntmps190
  go_wp2_with (first
    | (refine part_fetch rfl 45 _ rfl w.heap.size 1 (u8s r.rd) _ rfl (HX.out _) Tryz.underlying45 rfl (sz_rd HR.out) ?_)
    | (refine rt_build rfl _ rfl [(0, .int .i64 kk), (1, .agg (u8s r.rd).toArray)] (by simp only [List.map_toArray, List.map_cons, List.map_nil]; rfl) (rtZ kk r.rd) HBu.out ?_)
    | (refine rt_store_to rfl _ _ rfl (w.heap.size + 2) (rtZ kk r.rd) HZ.out rfl rfl 53 _ (HB3.out _ _) rfl (fun W => OwnWN w W r (rtZ kk r.rd)) (HI.out _ _ rfl) ?_; intro W hW; have hcK := hW.src.cK; rw [HKK.out] at hcK; have HW := Lib.hid hW; clear hW))
  have HD := Lib.hid HW.out.drew
  refine wp_region_held_drew (S := fun W => RtAt W w.heap.size r) (by kernel_rfl) (HD.out.src) (fun hS => ?_)
  refine wpAnyH_take (i := 0) (oi := ⟨some 13, _, _, _, _, _⟩) (v := ?_) rfl (by kernel_rfl) (by kernel_rfl) (by kernel_rfl) (fun _ _ _ h => h) (Or.inl ⟨by rfl, ?_⟩) hS ?_
  rotate_left
  · intro wq hq
    first | (go_simp; done) | (go_simp; rfl)
  try simp only [Act.put, zP, zQ, zR]
  refine wpAnyH_take (i := 1) (oi := ⟨some 14, _, _, _, _, _⟩) rfl (by kernel_rfl) (by kernel_rfl) (by kernel_rfl) (fun _ _ _ h => h) (yieldsIf_load_mid (by rfl) 47 _ rfl _ _ rfl (u8s r.es) _ (fun wq hq => hq.rEs HR.out) Tryz.underlying47 rfl (sz_es HR.out)) hS ?_
  try simp only [Act.put, zP, zQ, zR]
  refine wpAnyH_take (i := 2) (oi := ⟨some 15, _, _, _, _, _⟩) (v := ?_) rfl (by kernel_rfl) (by kernel_rfl) (by kernel_rfl) (fun _ _ _ h => h) (Or.inl ⟨by rfl, ?_⟩) hS ?_
  rotate_left
  · intro wq hq
    first | (go_simp; done) | (go_simp; rfl)
  try simp only [Act.put, zP, zQ, zR]
  refine wpAnyH_take (i := 3) (oi := ⟨some 16, _, _, _, _, _⟩) (v := ?_) rfl (by kernel_rfl) (by kernel_rfl) (by kernel_rfl) (fun _ _ _ h => h) (Or.inl ⟨by rfl, ?_⟩) hS ?_
  rotate_left
  · intro wq hq
    have hc := hq.cTg HR.out
    first | (go_simp; done) | (go_simp; rfl)
  try simp only [Act.put, zP, zQ, zR]
  refine wpAnyH_take (i := 4) (oi := ⟨some 17, _, _, _, _, _⟩) (v := ?_) rfl (by kernel_rfl) (by kernel_rfl) (by kernel_rfl) (fun _ _ _ h => h) (Or.inl ⟨by rfl, ?_⟩) hS ?_
  rotate_left
  · intro wq hq
    first | (go_simp; done) | (go_simp; rfl)
  try simp only [Act.put, zP, zQ, zR]
  refine wpAnyH_take (i := 5) (oi := ⟨some 18, _, _, _, _, _⟩) (v := ?_) rfl (by kernel_rfl) (by kernel_rfl) (by kernel_rfl) (fun _ _ _ h => h) (Or.inl ⟨by rfl, ?_⟩) hS ?_
  rotate_left
  · intro wq hq
    have hc := hq.cLb HR.out
    first | (go_simp; done) | (go_simp; rfl)
  try simp only [Act.put, zP, zQ, zR]
  refine wpAnyH_take (i := 6) (oi := ⟨some 19, _, _, _, _, _⟩) (v := ?_) rfl (by kernel_rfl) (by kernel_rfl) (by kernel_rfl) (fun _ _ _ h => h) (Or.inl ⟨by rfl, ?_⟩) hS ?_
  rotate_left
  · intro wq hq
    first | (go_simp; done) | (go_simp; rfl)
  try simp only [Act.put, zP, zQ, zR]
  refine wpAnyH_ready (rs := [7]) (by kernel_rfl) (by simp) ?_
  refine AllReadyH.cons (o := ⟨none, _, _, _, _, _⟩) rfl (fun K hK => ?_) AllReadyH.nil
  rw [if_pos (by rfl)]
  refine wp_store_listN 47 _ _ rfl (w.heap.size + 2) 9 (u8s r.es) rfl rfl (HD.out.dst.thereAt 9 _ (by simp [HR.out.es, HR.out.mc, HR.out.pl, HR.out.gl])) (sz_es HR.out) (one_u8s _) ?_
  refine hK.out _ _ (HD.out.es.src) (fun hS => ?_)
  clear hK K
  try simp only [Act.put, zP, zQ, zR]
  refine wpAnyH_take (i := 8) (oi := ⟨some 20, _, _, _, _, _⟩) (v := ?_) rfl (by kernel_rfl) (by kernel_rfl) (by kernel_rfl) (fun _ _ _ h => h) (Or.inl ⟨by rfl, ?_⟩) hS ?_
  rotate_left
  · intro wq hq
    first | (go_simp; done) | (go_simp; rfl)
  try simp only [Act.put, zP, zQ, zR]
  refine wpAnyH_ready (rs := [9]) (by kernel_rfl) (by simp) ?_
  refine AllReadyH.cons (o := ⟨none, _, _, _, _, _⟩) rfl (fun K hK => ?_) AllReadyH.nil
  rw [if_pos (by rfl)]
  refine wp_store_int 23 _ _ rfl (w.heap.size + 2) 19 .u32 r.tg rfl rfl (HD.out.es.dst.thereAt 19 1 (by omega)) sz_u32 ?_
  refine hK.out _ _ (HD.out.es.tg.src) (fun hS => ?_)
  clear hK K
  try simp only [Act.put, zP, zQ, zR]
  refine wpAnyH_take (i := 10) (oi := ⟨some 21, _, _, _, _, _⟩) (v := ?_) rfl (by kernel_rfl) (by kernel_rfl) (by kernel_rfl) (fun _ _ _ h => h) (Or.inl ⟨by rfl, ?_⟩) hS ?_
  rotate_left
  · intro wq hq
    first | (go_simp; done) | (go_simp; rfl)
  try simp only [Act.put, zP, zQ, zR]
  refine wpAnyH_ready (rs := [11]) (by kernel_rfl) (by simp) ?_
  refine AllReadyH.cons (o := ⟨none, _, _, _, _, _⟩) rfl (fun K hK => ?_) AllReadyH.nil
  rw [if_pos (by rfl)]
  refine wp_store_int 23 _ _ rfl (w.heap.size + 2) 61 .u32 r.lb rfl rfl (HD.out.es.tg.dst.thereAt 61 1 (by omega)) sz_u32 ?_
  refine hK.out _ _ (HD.out.es.tg.lb.src) (fun hS => ?_)
  clear hK K
  try simp only [Act.put, zP, zQ, zR]
  refine wpAnyH_done (by kernel_rfl) ?_ _
  have HE := Lib.hid (HD.out.es.tg.lb)
  clear HD HW hS
  generalize hgen : { rtZ kk r.rd with es := r.es, tg := r.tg, lb := r.lb } = oo at *
  have HO := Lib.hid HE.out.ok
  obtain ⟨Z, hZ, hs⟩ := HE.out.res
  have HZZ := Lib.hid hZ
  have HSS := Lib.hid hs
  clear hZ hs hgen
  go_wp2_with (first
    | (refine rt_fetch rfl _ rfl (w.heap.size + 2) oo HO.out rfl HE.out.dst ?_)
    | (refine rt_store_to rfl _ _ rfl (w.heap.size + 1) oo HO.out rfl rfl 53 Z HZZ.out HSS.out (fun W' => Blk W' (w.heap.size + 1) 53 (rtc oo).toArray ∧ Below w.heap.size w W') ⟨Blk.setRow HZZ.out _, HE.out.low.trans (below_setRow _ _ _ (by omega))⟩ ?_; intro W2 hW2; have HW2 := Lib.hid hW2; clear hW2))
  rw [← HF.out]
  refine bodyPost_ret (v := .agg (rtc oo).toArray) ?_ rfl ⟨rfl, HW2.out.2⟩
  exact results_cell_row rfl _ _ (w.heap.size + 1) 53 _ (0, 0) _ rfl HW2.out.1 Tryz.underlying53 rfl (by rw [rt_size]; simp [rtc_len HO.out])

set_option maxHeartbeats 4000000 in
set_option maxRecDepth 100000 in
theorem own_2 (w : World) (r : Rt) (hr : RtOk r) (hk : r.k = 2) : Calls Tryz.prog 190 #[.agg (rtc r).toArray] w fun e w' => e = .returned (.agg (rtc (ownR r)).toArray) ∧ Below w.heap.size w w' := by
  have h1 := RtAt.new w r hr 53
  have HX := Lib.hid (fun Z => (h1.alloc (.cells Z 53)).rRd)
  have c0 : (rtc r)[0]? = some (.int .i64 r.k) := rfl
  have hz := rtZ_ok r.k r.rd hr.k hr.rd hr.ord
  have HB3 : Hid (∀ Z Z', Blk (((w.alloc (.cells (rtc r).toArray 53)).alloc (.cells Z 53)).alloc (.cells Z' 53)) (w.heap.size + 2) 53 Z') := Lib.hid (fun Z Z' => by
    have := Blk.new ((w.alloc (.cells (rtc r).toArray 53)).alloc (.cells Z 53)) 53 Z'
    simpa using this)
  have HI : Hid (∀ Z Z', Z.size = 63 → OwnWN w ((((w.alloc (.cells (rtc r).toArray 53)).alloc (.cells Z 53)).alloc (.cells Z' 53)).setRow (w.heap.size + 2) (rtc (rtZ r.k r.rd)).toArray) r (rtZ r.k r.rd)) := Lib.hid (fun Z Z' hs => by
    have hb2 : Blk (w.alloc (.cells (rtc r).toArray 53) |>.alloc (.cells Z 53)) (w.heap.size + 1) 53 Z := by simpa using Blk.new (w.alloc (.cells (rtc r).toArray 53)) 53 Z
    refine ⟨((h1.alloc _).alloc _).keep (setRow_other _ _ _ _ (by omega)), ⟨Z, (setRow_other _ _ _ _ (by omega)).trans (hb2.alloc _), hs⟩, RtAt.row (HB3.out Z Z') hz, ?_, hr, hz⟩
    exact ((((Below.refl w.heap.size w).alloc (Nat.le_refl _) _).alloc (by simp) _).alloc (by simp; omega) _).trans (below_setRow _ _ _ (by omega)))
  have HR := Lib.hid hr
  have HZ := Lib.hid hz
  have HBu := Lib.hid (built_rt r.k r.rd hr.rd)
  have HF : Hid ({ rtZ r.k r.rd with es := r.es, tg := r.tg, mc := r.mc, v6 := r.v6, pl := r.pl, pn := r.pn, lb := r.lb, l2 := r.l2 } = ownR r) := Lib.hid (by unfold ownR; rw [if_neg (by omega)]; rw [if_pos hk])
  have e1 : (r.k == 1) = false := by rw [beq_eq_false_iff_ne]; omega
  have e2 : (r.k == 2) = true := by rw [beq_iff_eq]; omega
  clear h1 hz hk hr
  generalize hkk : r.k = kk at *
  have HKK := Lib.hid hkk
  clear hkk
  go_enter Tryz.func190, Tryz.ntmps190
  go_wp2_with (first
    | (refine part_fetch rfl 45 _ rfl w.heap.size 1 (u8s r.rd) _ rfl (HX.out _) Tryz.underlying45 rfl (sz_rd HR.out) ?_)
    | (refine rt_build rfl _ rfl [(0, .int .i64 kk), (1, .agg (u8s r.rd).toArray)] (by simp only [List.map_toArray, List.map_cons, List.map_nil]; rfl) (rtZ kk r.rd) HBu.out ?_)
    | (refine rt_store_to rfl _ _ rfl (w.heap.size + 2) (rtZ kk r.rd) HZ.out rfl rfl 53 _ (HB3.out _ _) rfl (fun W => OwnWN w W r (rtZ kk r.rd)) (HI.out _ _ rfl) ?_; intro W hW; have hcK := hW.src.cK; rw [HKK.out] at hcK; have HW := Lib.hid hW; clear hW))
  have HD := Lib.hid HW.out.drew
  refine wp_region_held_drew (S := fun W => RtAt W w.heap.size r) (by kernel_rfl) (HD.out.src) (fun hS => ?_)
  refine wpAnyH_take (i := 0) (oi := ⟨some 24, _, _, _, _, _⟩) (v := ?_) rfl (by kernel_rfl) (by kernel_rfl) (by kernel_rfl) (fun _ _ _ h => h) (Or.inl ⟨by rfl, ?_⟩) hS ?_
  rotate_left
  · intro wq hq
    first | (go_simp; done) | (go_simp; rfl)
  try simp only [Act.put, zP, zQ, zR]
  refine wpAnyH_take (i := 1) (oi := ⟨some 25, _, _, _, _, _⟩) rfl (by kernel_rfl) (by kernel_rfl) (by kernel_rfl) (fun _ _ _ h => h) (yieldsIf_load_mid (by rfl) 47 _ rfl _ _ rfl (u8s r.es) _ (fun wq hq => hq.rEs HR.out) Tryz.underlying47 rfl (sz_es HR.out)) hS ?_
  try simp only [Act.put, zP, zQ, zR]
  refine wpAnyH_take (i := 2) (oi := ⟨some 26, _, _, _, _, _⟩) (v := ?_) rfl (by kernel_rfl) (by kernel_rfl) (by kernel_rfl) (fun _ _ _ h => h) (Or.inl ⟨by rfl, ?_⟩) hS ?_
  rotate_left
  · intro wq hq
    first | (go_simp; done) | (go_simp; rfl)
  try simp only [Act.put, zP, zQ, zR]
  refine wpAnyH_take (i := 3) (oi := ⟨some 27, _, _, _, _, _⟩) (v := ?_) rfl (by kernel_rfl) (by kernel_rfl) (by kernel_rfl) (fun _ _ _ h => h) (Or.inl ⟨by rfl, ?_⟩) hS ?_
  rotate_left
  · intro wq hq
    have hc := hq.cTg HR.out
    first | (go_simp; done) | (go_simp; rfl)
  try simp only [Act.put, zP, zQ, zR]
  refine wpAnyH_take (i := 4) (oi := ⟨some 28, _, _, _, _, _⟩) (v := ?_) rfl (by kernel_rfl) (by kernel_rfl) (by kernel_rfl) (fun _ _ _ h => h) (Or.inl ⟨by rfl, ?_⟩) hS ?_
  rotate_left
  · intro wq hq
    first | (go_simp; done) | (go_simp; rfl)
  try simp only [Act.put, zP, zQ, zR]
  refine wpAnyH_take (i := 5) (oi := ⟨some 29, _, _, _, _, _⟩) rfl (by kernel_rfl) (by kernel_rfl) (by kernel_rfl) (fun _ _ _ h => h) (yieldsIf_load_mid (by rfl) 49 _ rfl _ _ rfl (u8s r.mc) _ (fun wq hq => hq.rMc HR.out) Tryz.underlying49 rfl (sz_mc HR.out)) hS ?_
  try simp only [Act.put, zP, zQ, zR]
  refine wpAnyH_take (i := 6) (oi := ⟨some 30, _, _, _, _, _⟩) (v := ?_) rfl (by kernel_rfl) (by kernel_rfl) (by kernel_rfl) (fun _ _ _ h => h) (Or.inl ⟨by rfl, ?_⟩) hS ?_
  rotate_left
  · intro wq hq
    first | (go_simp; done) | (go_simp; rfl)
  try simp only [Act.put, zP, zQ, zR]
  refine wpAnyH_take (i := 7) (oi := ⟨some 31, _, _, _, _, _⟩) rfl (by kernel_rfl) (by kernel_rfl) (by kernel_rfl) (fun _ _ _ h => h) (yieldsIf_load_mid (by rfl) 51 _ rfl _ _ rfl (pfc r.v6 r.pl r.pn) _ (fun wq hq => hq.rPf HR.out) Tryz.underlying51 rfl (sz_pf HR.out)) hS ?_
  try simp only [Act.put, zP, zQ, zR]
  refine wpAnyH_take (i := 8) (oi := ⟨some 32, _, _, _, _, _⟩) (v := ?_) rfl (by kernel_rfl) (by kernel_rfl) (by kernel_rfl) (fun _ _ _ h => h) (Or.inl ⟨by rfl, ?_⟩) hS ?_
  rotate_left
  · intro wq hq
    first | (go_simp; done) | (go_simp; rfl)
  try simp only [Act.put, zP, zQ, zR]
  refine wpAnyH_take (i := 9) (oi := ⟨some 33, _, _, _, _, _⟩) (v := ?_) rfl (by kernel_rfl) (by kernel_rfl) (by kernel_rfl) (fun _ _ _ h => h) (Or.inl ⟨by rfl, ?_⟩) hS ?_
  rotate_left
  · intro wq hq
    have hc := hq.cLb HR.out
    first | (go_simp; done) | (go_simp; rfl)
  try simp only [Act.put, zP, zQ, zR]
  refine wpAnyH_take (i := 10) (oi := ⟨some 34, _, _, _, _, _⟩) (v := ?_) rfl (by kernel_rfl) (by kernel_rfl) (by kernel_rfl) (fun _ _ _ h => h) (Or.inl ⟨by rfl, ?_⟩) hS ?_
  rotate_left
  · intro wq hq
    first | (go_simp; done) | (go_simp; rfl)
  try simp only [Act.put, zP, zQ, zR]
  refine wpAnyH_take (i := 11) (oi := ⟨some 35, _, _, _, _, _⟩) (v := ?_) rfl (by kernel_rfl) (by kernel_rfl) (by kernel_rfl) (fun _ _ _ h => h) (Or.inl ⟨by rfl, ?_⟩) hS ?_
  rotate_left
  · intro wq hq
    have hc := hq.cL2 HR.out
    first | (go_simp; done) | (go_simp; rfl)
  try simp only [Act.put, zP, zQ, zR]
  refine wpAnyH_take (i := 12) (oi := ⟨some 36, _, _, _, _, _⟩) (v := ?_) rfl (by kernel_rfl) (by kernel_rfl) (by kernel_rfl) (fun _ _ _ h => h) (Or.inl ⟨by rfl, ?_⟩) hS ?_
  rotate_left
  · intro wq hq
    first | (go_simp; done) | (go_simp; rfl)
  try simp only [Act.put, zP, zQ, zR]
  refine wpAnyH_ready (rs := [13]) (by kernel_rfl) (by simp) ?_
  refine AllReadyH.cons (o := ⟨none, _, _, _, _, _⟩) rfl (fun K hK => ?_) AllReadyH.nil
  rw [if_pos (by rfl)]
  refine wp_store_listN 47 _ _ rfl (w.heap.size + 2) 9 (u8s r.es) rfl rfl (HD.out.dst.thereAt 9 _ (by simp [HR.out.es, HR.out.mc, HR.out.pl, HR.out.gl])) (sz_es HR.out) (one_u8s _) ?_
  refine hK.out _ _ (HD.out.es.src) (fun hS => ?_)
  clear hK K
  try simp only [Act.put, zP, zQ, zR]
  refine wpAnyH_take (i := 14) (oi := ⟨some 37, _, _, _, _, _⟩) (v := ?_) rfl (by kernel_rfl) (by kernel_rfl) (by kernel_rfl) (fun _ _ _ h => h) (Or.inl ⟨by rfl, ?_⟩) hS ?_
  rotate_left
  · intro wq hq
    first | (go_simp; done) | (go_simp; rfl)
  try simp only [Act.put, zP, zQ, zR]
  refine wpAnyH_ready (rs := [15]) (by kernel_rfl) (by simp) ?_
  refine AllReadyH.cons (o := ⟨none, _, _, _, _, _⟩) rfl (fun K hK => ?_) AllReadyH.nil
  rw [if_pos (by rfl)]
  refine wp_store_int 23 _ _ rfl (w.heap.size + 2) 19 .u32 r.tg rfl rfl (HD.out.es.dst.thereAt 19 1 (by omega)) sz_u32 ?_
  refine hK.out _ _ (HD.out.es.tg.src) (fun hS => ?_)
  clear hK K
  try simp only [Act.put, zP, zQ, zR]
  refine wpAnyH_take (i := 16) (oi := ⟨some 38, _, _, _, _, _⟩) (v := ?_) rfl (by kernel_rfl) (by kernel_rfl) (by kernel_rfl) (fun _ _ _ h => h) (Or.inl ⟨by rfl, ?_⟩) hS ?_
  rotate_left
  · intro wq hq
    first | (go_simp; done) | (go_simp; rfl)
  try simp only [Act.put, zP, zQ, zR]
  refine wpAnyH_ready (rs := [17]) (by kernel_rfl) (by simp) ?_
  refine AllReadyH.cons (o := ⟨none, _, _, _, _, _⟩) rfl (fun K hK => ?_) AllReadyH.nil
  rw [if_pos (by rfl)]
  refine wp_store_listN 49 _ _ rfl (w.heap.size + 2) 20 (u8s r.mc) rfl rfl (HD.out.es.tg.dst.thereAt 20 _ (by simp [HR.out.es, HR.out.mc, HR.out.pl, HR.out.gl])) (sz_mc HR.out) (one_u8s _) ?_
  refine hK.out _ _ (HD.out.es.tg.mc.src) (fun hS => ?_)
  clear hK K
  try simp only [Act.put, zP, zQ, zR]
  refine wpAnyH_take (i := 18) (oi := ⟨some 39, _, _, _, _, _⟩) (v := ?_) rfl (by kernel_rfl) (by kernel_rfl) (by kernel_rfl) (fun _ _ _ h => h) (Or.inl ⟨by rfl, ?_⟩) hS ?_
  rotate_left
  · intro wq hq
    first | (go_simp; done) | (go_simp; rfl)
  try simp only [Act.put, zP, zQ, zR]
  refine wpAnyH_ready (rs := [19]) (by kernel_rfl) (by simp) ?_
  refine AllReadyH.cons (o := ⟨none, _, _, _, _, _⟩) rfl (fun K hK => ?_) AllReadyH.nil
  rw [if_pos (by rfl)]
  refine wp_store_listN 51 _ _ rfl (w.heap.size + 2) 26 (pfc r.v6 r.pl r.pn) rfl rfl (HD.out.es.tg.mc.dst.thereAt 26 _ (by simp [HR.out.es, HR.out.mc, HR.out.pl, HR.out.gl])) (sz_pf HR.out) (one_pfc _ _ _) ?_
  refine hK.out _ _ (HD.out.es.tg.mc.pf.src) (fun hS => ?_)
  clear hK K
  try simp only [Act.put, zP, zQ, zR]
  refine wpAnyH_take (i := 20) (oi := ⟨some 40, _, _, _, _, _⟩) (v := ?_) rfl (by kernel_rfl) (by kernel_rfl) (by kernel_rfl) (fun _ _ _ h => h) (Or.inl ⟨by rfl, ?_⟩) hS ?_
  rotate_left
  · intro wq hq
    first | (go_simp; done) | (go_simp; rfl)
  try simp only [Act.put, zP, zQ, zR]
  refine wpAnyH_ready (rs := [21]) (by kernel_rfl) (by simp) ?_
  refine AllReadyH.cons (o := ⟨none, _, _, _, _, _⟩) rfl (fun K hK => ?_) AllReadyH.nil
  rw [if_pos (by rfl)]
  refine wp_store_int 23 _ _ rfl (w.heap.size + 2) 61 .u32 r.lb rfl rfl (HD.out.es.tg.mc.pf.dst.thereAt 61 1 (by omega)) sz_u32 ?_
  refine hK.out _ _ (HD.out.es.tg.mc.pf.lb.src) (fun hS => ?_)
  clear hK K
  try simp only [Act.put, zP, zQ, zR]
  refine wpAnyH_take (i := 22) (oi := ⟨some 41, _, _, _, _, _⟩) (v := ?_) rfl (by kernel_rfl) (by kernel_rfl) (by kernel_rfl) (fun _ _ _ h => h) (Or.inl ⟨by rfl, ?_⟩) hS ?_
  rotate_left
  · intro wq hq
    first | (go_simp; done) | (go_simp; rfl)
  try simp only [Act.put, zP, zQ, zR]
  refine wpAnyH_ready (rs := [23]) (by kernel_rfl) (by simp) ?_
  refine AllReadyH.cons (o := ⟨none, _, _, _, _, _⟩) rfl (fun K hK => ?_) AllReadyH.nil
  rw [if_pos (by rfl)]
  refine wp_store_int 23 _ _ rfl (w.heap.size + 2) 62 .u32 r.l2 rfl rfl (HD.out.es.tg.mc.pf.lb.dst.thereAt 62 1 (by omega)) sz_u32 ?_
  refine hK.out _ _ (HD.out.es.tg.mc.pf.lb.l2.src) (fun hS => ?_)
  clear hK K
  try simp only [Act.put, zP, zQ, zR]
  refine wpAnyH_done (by kernel_rfl) ?_ _
  have HE := Lib.hid (HD.out.es.tg.mc.pf.lb.l2)
  clear HD HW hS
  generalize hgen : { rtZ kk r.rd with es := r.es, tg := r.tg, mc := r.mc, v6 := r.v6, pl := r.pl, pn := r.pn, lb := r.lb, l2 := r.l2 } = oo at *
  have HO := Lib.hid HE.out.ok
  obtain ⟨Z, hZ, hs⟩ := HE.out.res
  have HZZ := Lib.hid hZ
  have HSS := Lib.hid hs
  clear hZ hs hgen
  go_wp2_with (first
    | (refine rt_fetch rfl _ rfl (w.heap.size + 2) oo HO.out rfl HE.out.dst ?_)
    | (refine rt_store_to rfl _ _ rfl (w.heap.size + 1) oo HO.out rfl rfl 53 Z HZZ.out HSS.out (fun W' => Blk W' (w.heap.size + 1) 53 (rtc oo).toArray ∧ Below w.heap.size w W') ⟨Blk.setRow HZZ.out _, HE.out.low.trans (below_setRow _ _ _ (by omega))⟩ ?_; intro W2 hW2; have HW2 := Lib.hid hW2; clear hW2))
  rw [← HF.out]
  refine bodyPost_ret (v := .agg (rtc oo).toArray) ?_ rfl ⟨rfl, HW2.out.2⟩
  exact results_cell_row rfl _ _ (w.heap.size + 1) 53 _ (0, 0) _ rfl HW2.out.1 Tryz.underlying53 rfl (by rw [rt_size]; simp [rtc_len HO.out])

set_option maxHeartbeats 4000000 in
set_option maxRecDepth 100000 in
theorem own_3 (w : World) (r : Rt) (hr : RtOk r) (hk : r.k = 3) : Calls Tryz.prog 190 #[.agg (rtc r).toArray] w fun e w' => e = .returned (.agg (rtc (ownR r)).toArray) ∧ Below w.heap.size w w' := by
  have h1 := RtAt.new w r hr 53
  have HX := Lib.hid (fun Z => (h1.alloc (.cells Z 53)).rRd)
  have c0 : (rtc r)[0]? = some (.int .i64 r.k) := rfl
  have hz := rtZ_ok r.k r.rd hr.k hr.rd hr.ord
  have HB3 : Hid (∀ Z Z', Blk (((w.alloc (.cells (rtc r).toArray 53)).alloc (.cells Z 53)).alloc (.cells Z' 53)) (w.heap.size + 2) 53 Z') := Lib.hid (fun Z Z' => by
    have := Blk.new ((w.alloc (.cells (rtc r).toArray 53)).alloc (.cells Z 53)) 53 Z'
    simpa using this)
  have HI : Hid (∀ Z Z', Z.size = 63 → OwnWN w ((((w.alloc (.cells (rtc r).toArray 53)).alloc (.cells Z 53)).alloc (.cells Z' 53)).setRow (w.heap.size + 2) (rtc (rtZ r.k r.rd)).toArray) r (rtZ r.k r.rd)) := Lib.hid (fun Z Z' hs => by
    have hb2 : Blk (w.alloc (.cells (rtc r).toArray 53) |>.alloc (.cells Z 53)) (w.heap.size + 1) 53 Z := by simpa using Blk.new (w.alloc (.cells (rtc r).toArray 53)) 53 Z
    refine ⟨((h1.alloc _).alloc _).keep (setRow_other _ _ _ _ (by omega)), ⟨Z, (setRow_other _ _ _ _ (by omega)).trans (hb2.alloc _), hs⟩, RtAt.row (HB3.out Z Z') hz, ?_, hr, hz⟩
    exact ((((Below.refl w.heap.size w).alloc (Nat.le_refl _) _).alloc (by simp) _).alloc (by simp; omega) _).trans (below_setRow _ _ _ (by omega)))
  have HR := Lib.hid hr
  have HZ := Lib.hid hz
  have HBu := Lib.hid (built_rt r.k r.rd hr.rd)
  have HF : Hid ({ rtZ r.k r.rd with tg := r.tg, v6 := r.v6, pl := r.pl, pn := r.pn } = ownR r) := Lib.hid (by unfold ownR; rw [if_neg (by omega)]; rw [if_neg (by omega)]; rw [if_pos hk])
  have e1 : (r.k == 1) = false := by rw [beq_eq_false_iff_ne]; omega
  have e2 : (r.k == 2) = false := by rw [beq_eq_false_iff_ne]; omega
  have e3 : (r.k == 3) = true := by rw [beq_iff_eq]; omega
  clear h1 hz hk hr
  generalize hkk : r.k = kk at *
  have HKK := Lib.hid hkk
  clear hkk
  go_enter Tryz.func190, Tryz.ntmps190
  go_wp2_with (first
    | (refine part_fetch rfl 45 _ rfl w.heap.size 1 (u8s r.rd) _ rfl (HX.out _) Tryz.underlying45 rfl (sz_rd HR.out) ?_)
    | (refine rt_build rfl _ rfl [(0, .int .i64 kk), (1, .agg (u8s r.rd).toArray)] (by simp only [List.map_toArray, List.map_cons, List.map_nil]; rfl) (rtZ kk r.rd) HBu.out ?_)
    | (refine rt_store_to rfl _ _ rfl (w.heap.size + 2) (rtZ kk r.rd) HZ.out rfl rfl 53 _ (HB3.out _ _) rfl (fun W => OwnWN w W r (rtZ kk r.rd)) (HI.out _ _ rfl) ?_; intro W hW; have hcK := hW.src.cK; rw [HKK.out] at hcK; have HW := Lib.hid hW; clear hW))
  have HD := Lib.hid HW.out.drew
  refine wp_region_held_drew (S := fun W => RtAt W w.heap.size r) (by kernel_rfl) (HD.out.src) (fun hS => ?_)
  refine wpAnyH_take (i := 0) (oi := ⟨some 44, _, _, _, _, _⟩) (v := ?_) rfl (by kernel_rfl) (by kernel_rfl) (by kernel_rfl) (fun _ _ _ h => h) (Or.inl ⟨by rfl, ?_⟩) hS ?_
  rotate_left
  · intro wq hq
    first | (go_simp; done) | (go_simp; rfl)
  try simp only [Act.put, zP, zQ, zR]
  refine wpAnyH_take (i := 1) (oi := ⟨some 45, _, _, _, _, _⟩) (v := ?_) rfl (by kernel_rfl) (by kernel_rfl) (by kernel_rfl) (fun _ _ _ h => h) (Or.inl ⟨by rfl, ?_⟩) hS ?_
  rotate_left
  · intro wq hq
    have hc := hq.cTg HR.out
    first | (go_simp; done) | (go_simp; rfl)
  try simp only [Act.put, zP, zQ, zR]
  refine wpAnyH_take (i := 2) (oi := ⟨some 46, _, _, _, _, _⟩) (v := ?_) rfl (by kernel_rfl) (by kernel_rfl) (by kernel_rfl) (fun _ _ _ h => h) (Or.inl ⟨by rfl, ?_⟩) hS ?_
  rotate_left
  · intro wq hq
    first | (go_simp; done) | (go_simp; rfl)
  try simp only [Act.put, zP, zQ, zR]
  refine wpAnyH_take (i := 3) (oi := ⟨some 47, _, _, _, _, _⟩) rfl (by kernel_rfl) (by kernel_rfl) (by kernel_rfl) (fun _ _ _ h => h) (yieldsIf_load_mid (by rfl) 51 _ rfl _ _ rfl (pfc r.v6 r.pl r.pn) _ (fun wq hq => hq.rPf HR.out) Tryz.underlying51 rfl (sz_pf HR.out)) hS ?_
  try simp only [Act.put, zP, zQ, zR]
  refine wpAnyH_take (i := 4) (oi := ⟨some 48, _, _, _, _, _⟩) (v := ?_) rfl (by kernel_rfl) (by kernel_rfl) (by kernel_rfl) (fun _ _ _ h => h) (Or.inl ⟨by rfl, ?_⟩) hS ?_
  rotate_left
  · intro wq hq
    first | (go_simp; done) | (go_simp; rfl)
  try simp only [Act.put, zP, zQ, zR]
  refine wpAnyH_ready (rs := [5]) (by kernel_rfl) (by simp) ?_
  refine AllReadyH.cons (o := ⟨none, _, _, _, _, _⟩) rfl (fun K hK => ?_) AllReadyH.nil
  rw [if_pos (by rfl)]
  refine wp_store_int 23 _ _ rfl (w.heap.size + 2) 19 .u32 r.tg rfl rfl (HD.out.dst.thereAt 19 1 (by omega)) sz_u32 ?_
  refine hK.out _ _ (HD.out.tg.src) (fun hS => ?_)
  clear hK K
  try simp only [Act.put, zP, zQ, zR]
  refine wpAnyH_take (i := 6) (oi := ⟨some 49, _, _, _, _, _⟩) (v := ?_) rfl (by kernel_rfl) (by kernel_rfl) (by kernel_rfl) (fun _ _ _ h => h) (Or.inl ⟨by rfl, ?_⟩) hS ?_
  rotate_left
  · intro wq hq
    first | (go_simp; done) | (go_simp; rfl)
  try simp only [Act.put, zP, zQ, zR]
  refine wpAnyH_ready (rs := [7]) (by kernel_rfl) (by simp) ?_
  refine AllReadyH.cons (o := ⟨none, _, _, _, _, _⟩) rfl (fun K hK => ?_) AllReadyH.nil
  rw [if_pos (by rfl)]
  refine wp_store_listN 51 _ _ rfl (w.heap.size + 2) 26 (pfc r.v6 r.pl r.pn) rfl rfl (HD.out.tg.dst.thereAt 26 _ (by simp [HR.out.es, HR.out.mc, HR.out.pl, HR.out.gl])) (sz_pf HR.out) (one_pfc _ _ _) ?_
  refine hK.out _ _ (HD.out.tg.pf.src) (fun hS => ?_)
  clear hK K
  try simp only [Act.put, zP, zQ, zR]
  refine wpAnyH_done (by kernel_rfl) ?_ _
  have HE := Lib.hid (HD.out.tg.pf)
  clear HD HW hS
  generalize hgen : { rtZ kk r.rd with tg := r.tg, v6 := r.v6, pl := r.pl, pn := r.pn } = oo at *
  have HO := Lib.hid HE.out.ok
  obtain ⟨Z, hZ, hs⟩ := HE.out.res
  have HZZ := Lib.hid hZ
  have HSS := Lib.hid hs
  clear hZ hs hgen
  go_wp2_with (first
    | (refine rt_fetch rfl _ rfl (w.heap.size + 2) oo HO.out rfl HE.out.dst ?_)
    | (refine rt_store_to rfl _ _ rfl (w.heap.size + 1) oo HO.out rfl rfl 53 Z HZZ.out HSS.out (fun W' => Blk W' (w.heap.size + 1) 53 (rtc oo).toArray ∧ Below w.heap.size w W') ⟨Blk.setRow HZZ.out _, HE.out.low.trans (below_setRow _ _ _ (by omega))⟩ ?_; intro W2 hW2; have HW2 := Lib.hid hW2; clear hW2))
  rw [← HF.out]
  refine bodyPost_ret (v := .agg (rtc oo).toArray) ?_ rfl ⟨rfl, HW2.out.2⟩
  exact results_cell_row rfl _ _ (w.heap.size + 1) 53 _ (0, 0) _ rfl HW2.out.1 Tryz.underlying53 rfl (by rw [rt_size]; simp [rtc_len HO.out])

set_option maxHeartbeats 4000000 in
set_option maxRecDepth 100000 in
theorem own_4 (w : World) (r : Rt) (hr : RtOk r) (hk : r.k = 4) : Calls Tryz.prog 190 #[.agg (rtc r).toArray] w fun e w' => e = .returned (.agg (rtc (ownR r)).toArray) ∧ Below w.heap.size w w' := by
  have h1 := RtAt.new w r hr 53
  have HX := Lib.hid (fun Z => (h1.alloc (.cells Z 53)).rRd)
  have c0 : (rtc r)[0]? = some (.int .i64 r.k) := rfl
  have hz := rtZ_ok r.k r.rd hr.k hr.rd hr.ord
  have HB3 : Hid (∀ Z Z', Blk (((w.alloc (.cells (rtc r).toArray 53)).alloc (.cells Z 53)).alloc (.cells Z' 53)) (w.heap.size + 2) 53 Z') := Lib.hid (fun Z Z' => by
    have := Blk.new ((w.alloc (.cells (rtc r).toArray 53)).alloc (.cells Z 53)) 53 Z'
    simpa using this)
  have HI : Hid (∀ Z Z', Z.size = 63 → OwnWN w ((((w.alloc (.cells (rtc r).toArray 53)).alloc (.cells Z 53)).alloc (.cells Z' 53)).setRow (w.heap.size + 2) (rtc (rtZ r.k r.rd)).toArray) r (rtZ r.k r.rd)) := Lib.hid (fun Z Z' hs => by
    have hb2 : Blk (w.alloc (.cells (rtc r).toArray 53) |>.alloc (.cells Z 53)) (w.heap.size + 1) 53 Z := by simpa using Blk.new (w.alloc (.cells (rtc r).toArray 53)) 53 Z
    refine ⟨((h1.alloc _).alloc _).keep (setRow_other _ _ _ _ (by omega)), ⟨Z, (setRow_other _ _ _ _ (by omega)).trans (hb2.alloc _), hs⟩, RtAt.row (HB3.out Z Z') hz, ?_, hr, hz⟩
    exact ((((Below.refl w.heap.size w).alloc (Nat.le_refl _) _).alloc (by simp) _).alloc (by simp; omega) _).trans (below_setRow _ _ _ (by omega)))
  have HR := Lib.hid hr
  have HZ := Lib.hid hz
  have HBu := Lib.hid (built_rt r.k r.rd hr.rd)
  have HF : Hid ({ rtZ r.k r.rd with es := r.es, v6 := r.v6, pl := r.pl, pn := r.pn } = ownR r) := Lib.hid (by unfold ownR; rw [if_neg (by omega)]; rw [if_neg (by omega)]; rw [if_neg (by omega)]; rw [if_pos hk])
  have e1 : (r.k == 1) = false := by rw [beq_eq_false_iff_ne]; omega
  have e2 : (r.k == 2) = false := by rw [beq_eq_false_iff_ne]; omega
  have e3 : (r.k == 3) = false := by rw [beq_eq_false_iff_ne]; omega
  have e4 : (r.k == 4) = true := by rw [beq_iff_eq]; omega
  clear h1 hz hk hr
  generalize hkk : r.k = kk at *
  have HKK := Lib.hid hkk
  clear hkk
  go_enter Tryz.func190, Tryz.ntmps190
  go_wp2_with (first
    | (refine part_fetch rfl 45 _ rfl w.heap.size 1 (u8s r.rd) _ rfl (HX.out _) Tryz.underlying45 rfl (sz_rd HR.out) ?_)
    | (refine rt_build rfl _ rfl [(0, .int .i64 kk), (1, .agg (u8s r.rd).toArray)] (by simp only [List.map_toArray, List.map_cons, List.map_nil]; rfl) (rtZ kk r.rd) HBu.out ?_)
    | (refine rt_store_to rfl _ _ rfl (w.heap.size + 2) (rtZ kk r.rd) HZ.out rfl rfl 53 _ (HB3.out _ _) rfl (fun W => OwnWN w W r (rtZ kk r.rd)) (HI.out _ _ rfl) ?_; intro W hW; have hcK := hW.src.cK; rw [HKK.out] at hcK; have HW := Lib.hid hW; clear hW))
  have HD := Lib.hid HW.out.drew
  refine wp_region_held_drew (S := fun W => RtAt W w.heap.size r) (by kernel_rfl) (HD.out.src) (fun hS => ?_)
  refine wpAnyH_take (i := 0) (oi := ⟨some 52, _, _, _, _, _⟩) (v := ?_) rfl (by kernel_rfl) (by kernel_rfl) (by kernel_rfl) (fun _ _ _ h => h) (Or.inl ⟨by rfl, ?_⟩) hS ?_
  rotate_left
  · intro wq hq
    first | (go_simp; done) | (go_simp; rfl)
  try simp only [Act.put, zP, zQ, zR]
  refine wpAnyH_take (i := 1) (oi := ⟨some 53, _, _, _, _, _⟩) rfl (by kernel_rfl) (by kernel_rfl) (by kernel_rfl) (fun _ _ _ h => h) (yieldsIf_load_mid (by rfl) 47 _ rfl _ _ rfl (u8s r.es) _ (fun wq hq => hq.rEs HR.out) Tryz.underlying47 rfl (sz_es HR.out)) hS ?_
  try simp only [Act.put, zP, zQ, zR]
  refine wpAnyH_take (i := 2) (oi := ⟨some 54, _, _, _, _, _⟩) (v := ?_) rfl (by kernel_rfl) (by kernel_rfl) (by kernel_rfl) (fun _ _ _ h => h) (Or.inl ⟨by rfl, ?_⟩) hS ?_
  rotate_left
  · intro wq hq
    first | (go_simp; done) | (go_simp; rfl)
  try simp only [Act.put, zP, zQ, zR]
  refine wpAnyH_take (i := 3) (oi := ⟨some 55, _, _, _, _, _⟩) rfl (by kernel_rfl) (by kernel_rfl) (by kernel_rfl) (fun _ _ _ h => h) (yieldsIf_load_mid (by rfl) 51 _ rfl _ _ rfl (pfc r.v6 r.pl r.pn) _ (fun wq hq => hq.rPf HR.out) Tryz.underlying51 rfl (sz_pf HR.out)) hS ?_
  try simp only [Act.put, zP, zQ, zR]
  refine wpAnyH_take (i := 4) (oi := ⟨some 56, _, _, _, _, _⟩) (v := ?_) rfl (by kernel_rfl) (by kernel_rfl) (by kernel_rfl) (fun _ _ _ h => h) (Or.inl ⟨by rfl, ?_⟩) hS ?_
  rotate_left
  · intro wq hq
    first | (go_simp; done) | (go_simp; rfl)
  try simp only [Act.put, zP, zQ, zR]
  refine wpAnyH_ready (rs := [5]) (by kernel_rfl) (by simp) ?_
  refine AllReadyH.cons (o := ⟨none, _, _, _, _, _⟩) rfl (fun K hK => ?_) AllReadyH.nil
  rw [if_pos (by rfl)]
  refine wp_store_listN 47 _ _ rfl (w.heap.size + 2) 9 (u8s r.es) rfl rfl (HD.out.dst.thereAt 9 _ (by simp [HR.out.es, HR.out.mc, HR.out.pl, HR.out.gl])) (sz_es HR.out) (one_u8s _) ?_
  refine hK.out _ _ (HD.out.es.src) (fun hS => ?_)
  clear hK K
  try simp only [Act.put, zP, zQ, zR]
  refine wpAnyH_take (i := 6) (oi := ⟨some 57, _, _, _, _, _⟩) (v := ?_) rfl (by kernel_rfl) (by kernel_rfl) (by kernel_rfl) (fun _ _ _ h => h) (Or.inl ⟨by rfl, ?_⟩) hS ?_
  rotate_left
  · intro wq hq
    first | (go_simp; done) | (go_simp; rfl)
  try simp only [Act.put, zP, zQ, zR]
  refine wpAnyH_ready (rs := [7]) (by kernel_rfl) (by simp) ?_
  refine AllReadyH.cons (o := ⟨none, _, _, _, _, _⟩) rfl (fun K hK => ?_) AllReadyH.nil
  rw [if_pos (by rfl)]
  refine wp_store_listN 51 _ _ rfl (w.heap.size + 2) 26 (pfc r.v6 r.pl r.pn) rfl rfl (HD.out.es.dst.thereAt 26 _ (by simp [HR.out.es, HR.out.mc, HR.out.pl, HR.out.gl])) (sz_pf HR.out) (one_pfc _ _ _) ?_
  refine hK.out _ _ (HD.out.es.pf.src) (fun hS => ?_)
  clear hK K
  try simp only [Act.put, zP, zQ, zR]
  refine wpAnyH_done (by kernel_rfl) ?_ _
  have HE := Lib.hid (HD.out.es.pf)
  clear HD HW hS
  generalize hgen : { rtZ kk r.rd with es := r.es, v6 := r.v6, pl := r.pl, pn := r.pn } = oo at *
  have HO := Lib.hid HE.out.ok
  obtain ⟨Z, hZ, hs⟩ := HE.out.res
  have HZZ := Lib.hid hZ
  have HSS := Lib.hid hs
  clear hZ hs hgen
  go_wp2_with (first
    | (refine rt_fetch rfl _ rfl (w.heap.size + 2) oo HO.out rfl HE.out.dst ?_)
    | (refine rt_store_to rfl _ _ rfl (w.heap.size + 1) oo HO.out rfl rfl 53 Z HZZ.out HSS.out (fun W' => Blk W' (w.heap.size + 1) 53 (rtc oo).toArray ∧ Below w.heap.size w W') ⟨Blk.setRow HZZ.out _, HE.out.low.trans (below_setRow _ _ _ (by omega))⟩ ?_; intro W2 hW2; have HW2 := Lib.hid hW2; clear hW2))
  rw [← HF.out]
  refine bodyPost_ret (v := .agg (rtc oo).toArray) ?_ rfl ⟨rfl, HW2.out.2⟩
  exact results_cell_row rfl _ _ (w.heap.size + 1) 53 _ (0, 0) _ rfl HW2.out.1 Tryz.underlying53 rfl (by rw [rt_size]; simp [rtc_len HO.out])

set_option maxHeartbeats 4000000 in
set_option maxRecDepth 100000 in
theorem own_5 (w : World) (r : Rt) (hr : RtOk r) (hk : r.k = 5) : Calls Tryz.prog 190 #[.agg (rtc r).toArray] w fun e w' => e = .returned (.agg (rtc (ownR r)).toArray) ∧ Below w.heap.size w w' := by
  have h1 := RtAt.new w r hr 53
  have HX := Lib.hid (fun Z => (h1.alloc (.cells Z 53)).rRd)
  have c0 : (rtc r)[0]? = some (.int .i64 r.k) := rfl
  have hz := rtZ_ok r.k r.rd hr.k hr.rd hr.ord
  have HB3 : Hid (∀ Z Z', Blk (((w.alloc (.cells (rtc r).toArray 53)).alloc (.cells Z 53)).alloc (.cells Z' 53)) (w.heap.size + 2) 53 Z') := Lib.hid (fun Z Z' => by
    have := Blk.new ((w.alloc (.cells (rtc r).toArray 53)).alloc (.cells Z 53)) 53 Z'
    simpa using this)
  have HI : Hid (∀ Z Z', Z.size = 63 → OwnWN w ((((w.alloc (.cells (rtc r).toArray 53)).alloc (.cells Z 53)).alloc (.cells Z' 53)).setRow (w.heap.size + 2) (rtc (rtZ r.k r.rd)).toArray) r (rtZ r.k r.rd)) := Lib.hid (fun Z Z' hs => by
    have hb2 : Blk (w.alloc (.cells (rtc r).toArray 53) |>.alloc (.cells Z 53)) (w.heap.size + 1) 53 Z := by simpa using Blk.new (w.alloc (.cells (rtc r).toArray 53)) 53 Z
    refine ⟨((h1.alloc _).alloc _).keep (setRow_other _ _ _ _ (by omega)), ⟨Z, (setRow_other _ _ _ _ (by omega)).trans (hb2.alloc _), hs⟩, RtAt.row (HB3.out Z Z') hz, ?_, hr, hz⟩
    exact ((((Below.refl w.heap.size w).alloc (Nat.le_refl _) _).alloc (by simp) _).alloc (by simp; omega) _).trans (below_setRow _ _ _ (by omega)))
  have HR := Lib.hid hr
  have HZ := Lib.hid hz
  have HBu := Lib.hid (built_rt r.k r.rd hr.rd)
  have HF : Hid ({ rtZ r.k r.rd with es := r.es, tg := r.tg, v6 := r.v6, pl := r.pl, pn := r.pn, gv := r.gv, gl := r.gl, lb := r.lb } = ownR r) := Lib.hid (by unfold ownR; rw [if_neg (by omega)]; rw [if_neg (by omega)]; rw [if_neg (by omega)]; rw [if_neg (by omega)]; rw [if_pos hk])
  have e1 : (r.k == 1) = false := by rw [beq_eq_false_iff_ne]; omega
  have e2 : (r.k == 2) = false := by rw [beq_eq_false_iff_ne]; omega
  have e3 : (r.k == 3) = false := by rw [beq_eq_false_iff_ne]; omega
  have e4 : (r.k == 4) = false := by rw [beq_eq_false_iff_ne]; omega
  have e5 : (r.k == 5) = true := by rw [beq_iff_eq]; omega
  clear h1 hz hk hr
  generalize hkk : r.k = kk at *
  have HKK := Lib.hid hkk
  clear hkk
  go_enter Tryz.func190, Tryz.ntmps190
  go_wp2_with (first
    | (refine part_fetch rfl 45 _ rfl w.heap.size 1 (u8s r.rd) _ rfl (HX.out _) Tryz.underlying45 rfl (sz_rd HR.out) ?_)
    | (refine rt_build rfl _ rfl [(0, .int .i64 kk), (1, .agg (u8s r.rd).toArray)] (by simp only [List.map_toArray, List.map_cons, List.map_nil]; rfl) (rtZ kk r.rd) HBu.out ?_)
    | (refine rt_store_to rfl _ _ rfl (w.heap.size + 2) (rtZ kk r.rd) HZ.out rfl rfl 53 _ (HB3.out _ _) rfl (fun W => OwnWN w W r (rtZ kk r.rd)) (HI.out _ _ rfl) ?_; intro W hW; have hcK := hW.src.cK; rw [HKK.out] at hcK; have HW := Lib.hid hW; clear hW))
  have HD := Lib.hid HW.out.drew
  refine wp_region_held_drew (S := fun W => RtAt W w.heap.size r) (by kernel_rfl) (HD.out.src) (fun hS => ?_)
  refine wpAnyH_take (i := 0) (oi := ⟨some 60, _, _, _, _, _⟩) (v := ?_) rfl (by kernel_rfl) (by kernel_rfl) (by kernel_rfl) (fun _ _ _ h => h) (Or.inl ⟨by rfl, ?_⟩) hS ?_
  rotate_left
  · intro wq hq
    first | (go_simp; done) | (go_simp; rfl)
  try simp only [Act.put, zP, zQ, zR]
  refine wpAnyH_take (i := 1) (oi := ⟨some 61, _, _, _, _, _⟩) rfl (by kernel_rfl) (by kernel_rfl) (by kernel_rfl) (fun _ _ _ h => h) (yieldsIf_load_mid (by rfl) 47 _ rfl _ _ rfl (u8s r.es) _ (fun wq hq => hq.rEs HR.out) Tryz.underlying47 rfl (sz_es HR.out)) hS ?_
  try simp only [Act.put, zP, zQ, zR]
  refine wpAnyH_take (i := 2) (oi := ⟨some 62, _, _, _, _, _⟩) (v := ?_) rfl (by kernel_rfl) (by kernel_rfl) (by kernel_rfl) (fun _ _ _ h => h) (Or.inl ⟨by rfl, ?_⟩) hS ?_
  rotate_left
  · intro wq hq
    first | (go_simp; done) | (go_simp; rfl)
  try simp only [Act.put, zP, zQ, zR]
  refine wpAnyH_take (i := 3) (oi := ⟨some 63, _, _, _, _, _⟩) (v := ?_) rfl (by kernel_rfl) (by kernel_rfl) (by kernel_rfl) (fun _ _ _ h => h) (Or.inl ⟨by rfl, ?_⟩) hS ?_
  rotate_left
  · intro wq hq
    have hc := hq.cTg HR.out
    first | (go_simp; done) | (go_simp; rfl)
  try simp only [Act.put, zP, zQ, zR]
  refine wpAnyH_take (i := 4) (oi := ⟨some 64, _, _, _, _, _⟩) (v := ?_) rfl (by kernel_rfl) (by kernel_rfl) (by kernel_rfl) (fun _ _ _ h => h) (Or.inl ⟨by rfl, ?_⟩) hS ?_
  rotate_left
  · intro wq hq
    first | (go_simp; done) | (go_simp; rfl)
  try simp only [Act.put, zP, zQ, zR]
  refine wpAnyH_take (i := 5) (oi := ⟨some 65, _, _, _, _, _⟩) rfl (by kernel_rfl) (by kernel_rfl) (by kernel_rfl) (fun _ _ _ h => h) (yieldsIf_load_mid (by rfl) 51 _ rfl _ _ rfl (pfc r.v6 r.pl r.pn) _ (fun wq hq => hq.rPf HR.out) Tryz.underlying51 rfl (sz_pf HR.out)) hS ?_
  try simp only [Act.put, zP, zQ, zR]
  refine wpAnyH_take (i := 6) (oi := ⟨some 66, _, _, _, _, _⟩) (v := ?_) rfl (by kernel_rfl) (by kernel_rfl) (by kernel_rfl) (fun _ _ _ h => h) (Or.inl ⟨by rfl, ?_⟩) hS ?_
  rotate_left
  · intro wq hq
    first | (go_simp; done) | (go_simp; rfl)
  try simp only [Act.put, zP, zQ, zR]
  refine wpAnyH_take (i := 7) (oi := ⟨some 67, _, _, _, _, _⟩) rfl (by kernel_rfl) (by kernel_rfl) (by kernel_rfl) (fun _ _ _ h => h) (yieldsIf_load_mid (by rfl) 27 _ rfl _ _ rfl (ipc r.gv r.gl) _ (fun wq hq => hq.rGw HR.out) Tryz.underlying27 rfl (sz_gw HR.out)) hS ?_
  try simp only [Act.put, zP, zQ, zR]
  refine wpAnyH_take (i := 8) (oi := ⟨some 68, _, _, _, _, _⟩) (v := ?_) rfl (by kernel_rfl) (by kernel_rfl) (by kernel_rfl) (fun _ _ _ h => h) (Or.inl ⟨by rfl, ?_⟩) hS ?_
  rotate_left
  · intro wq hq
    first | (go_simp; done) | (go_simp; rfl)
  try simp only [Act.put, zP, zQ, zR]
  refine wpAnyH_take (i := 9) (oi := ⟨some 69, _, _, _, _, _⟩) (v := ?_) rfl (by kernel_rfl) (by kernel_rfl) (by kernel_rfl) (fun _ _ _ h => h) (Or.inl ⟨by rfl, ?_⟩) hS ?_
  rotate_left
  · intro wq hq
    have hc := hq.cLb HR.out
    first | (go_simp; done) | (go_simp; rfl)
  try simp only [Act.put, zP, zQ, zR]
  refine wpAnyH_take (i := 10) (oi := ⟨some 70, _, _, _, _, _⟩) (v := ?_) rfl (by kernel_rfl) (by kernel_rfl) (by kernel_rfl) (fun _ _ _ h => h) (Or.inl ⟨by rfl, ?_⟩) hS ?_
  rotate_left
  · intro wq hq
    first | (go_simp; done) | (go_simp; rfl)
  try simp only [Act.put, zP, zQ, zR]
  refine wpAnyH_ready (rs := [11]) (by kernel_rfl) (by simp) ?_
  refine AllReadyH.cons (o := ⟨none, _, _, _, _, _⟩) rfl (fun K hK => ?_) AllReadyH.nil
  rw [if_pos (by rfl)]
  refine wp_store_listN 47 _ _ rfl (w.heap.size + 2) 9 (u8s r.es) rfl rfl (HD.out.dst.thereAt 9 _ (by simp [HR.out.es, HR.out.mc, HR.out.pl, HR.out.gl])) (sz_es HR.out) (one_u8s _) ?_
  refine hK.out _ _ (HD.out.es.src) (fun hS => ?_)
  clear hK K
  try simp only [Act.put, zP, zQ, zR]
  refine wpAnyH_take (i := 12) (oi := ⟨some 71, _, _, _, _, _⟩) (v := ?_) rfl (by kernel_rfl) (by kernel_rfl) (by kernel_rfl) (fun _ _ _ h => h) (Or.inl ⟨by rfl, ?_⟩) hS ?_
  rotate_left
  · intro wq hq
    first | (go_simp; done) | (go_simp; rfl)
  try simp only [Act.put, zP, zQ, zR]
  refine wpAnyH_ready (rs := [13]) (by kernel_rfl) (by simp) ?_
  refine AllReadyH.cons (o := ⟨none, _, _, _, _, _⟩) rfl (fun K hK => ?_) AllReadyH.nil
  rw [if_pos (by rfl)]
  refine wp_store_int 23 _ _ rfl (w.heap.size + 2) 19 .u32 r.tg rfl rfl (HD.out.es.dst.thereAt 19 1 (by omega)) sz_u32 ?_
  refine hK.out _ _ (HD.out.es.tg.src) (fun hS => ?_)
  clear hK K
  try simp only [Act.put, zP, zQ, zR]
  refine wpAnyH_take (i := 14) (oi := ⟨some 72, _, _, _, _, _⟩) (v := ?_) rfl (by kernel_rfl) (by kernel_rfl) (by kernel_rfl) (fun _ _ _ h => h) (Or.inl ⟨by rfl, ?_⟩) hS ?_
  rotate_left
  · intro wq hq
    first | (go_simp; done) | (go_simp; rfl)
  try simp only [Act.put, zP, zQ, zR]
  refine wpAnyH_ready (rs := [15]) (by kernel_rfl) (by simp) ?_
  refine AllReadyH.cons (o := ⟨none, _, _, _, _, _⟩) rfl (fun K hK => ?_) AllReadyH.nil
  rw [if_pos (by rfl)]
  refine wp_store_listN 51 _ _ rfl (w.heap.size + 2) 26 (pfc r.v6 r.pl r.pn) rfl rfl (HD.out.es.tg.dst.thereAt 26 _ (by simp [HR.out.es, HR.out.mc, HR.out.pl, HR.out.gl])) (sz_pf HR.out) (one_pfc _ _ _) ?_
  refine hK.out _ _ (HD.out.es.tg.pf.src) (fun hS => ?_)
  clear hK K
  try simp only [Act.put, zP, zQ, zR]
  refine wpAnyH_take (i := 16) (oi := ⟨some 73, _, _, _, _, _⟩) (v := ?_) rfl (by kernel_rfl) (by kernel_rfl) (by kernel_rfl) (fun _ _ _ h => h) (Or.inl ⟨by rfl, ?_⟩) hS ?_
  rotate_left
  · intro wq hq
    first | (go_simp; done) | (go_simp; rfl)
  try simp only [Act.put, zP, zQ, zR]
  refine wpAnyH_ready (rs := [17]) (by kernel_rfl) (by simp) ?_
  refine AllReadyH.cons (o := ⟨none, _, _, _, _, _⟩) rfl (fun K hK => ?_) AllReadyH.nil
  rw [if_pos (by rfl)]
  refine wp_store_listN 27 _ _ rfl (w.heap.size + 2) 44 (ipc r.gv r.gl) rfl rfl (HD.out.es.tg.pf.dst.thereAt 44 _ (by simp [HR.out.es, HR.out.mc, HR.out.pl, HR.out.gl])) (sz_gw HR.out) (one_ipcN _ _) ?_
  refine hK.out _ _ (HD.out.es.tg.pf.gw.src) (fun hS => ?_)
  clear hK K
  try simp only [Act.put, zP, zQ, zR]
  refine wpAnyH_take (i := 18) (oi := ⟨some 74, _, _, _, _, _⟩) (v := ?_) rfl (by kernel_rfl) (by kernel_rfl) (by kernel_rfl) (fun _ _ _ h => h) (Or.inl ⟨by rfl, ?_⟩) hS ?_
  rotate_left
  · intro wq hq
    first | (go_simp; done) | (go_simp; rfl)
  try simp only [Act.put, zP, zQ, zR]
  refine wpAnyH_ready (rs := [19]) (by kernel_rfl) (by simp) ?_
  refine AllReadyH.cons (o := ⟨none, _, _, _, _, _⟩) rfl (fun K hK => ?_) AllReadyH.nil
  rw [if_pos (by rfl)]
  refine wp_store_int 23 _ _ rfl (w.heap.size + 2) 61 .u32 r.lb rfl rfl (HD.out.es.tg.pf.gw.dst.thereAt 61 1 (by omega)) sz_u32 ?_
  refine hK.out _ _ (HD.out.es.tg.pf.gw.lb.src) (fun hS => ?_)
  clear hK K
  try simp only [Act.put, zP, zQ, zR]
  refine wpAnyH_done (by kernel_rfl) ?_ _
  have HE := Lib.hid (HD.out.es.tg.pf.gw.lb)
  clear HD HW hS
  generalize hgen : { rtZ kk r.rd with es := r.es, tg := r.tg, v6 := r.v6, pl := r.pl, pn := r.pn, gv := r.gv, gl := r.gl, lb := r.lb } = oo at *
  have HO := Lib.hid HE.out.ok
  obtain ⟨Z, hZ, hs⟩ := HE.out.res
  have HZZ := Lib.hid hZ
  have HSS := Lib.hid hs
  clear hZ hs hgen
  go_wp2_with (first
    | (refine rt_fetch rfl _ rfl (w.heap.size + 2) oo HO.out rfl HE.out.dst ?_)
    | (refine rt_store_to rfl _ _ rfl (w.heap.size + 1) oo HO.out rfl rfl 53 Z HZZ.out HSS.out (fun W' => Blk W' (w.heap.size + 1) 53 (rtc oo).toArray ∧ Below w.heap.size w W') ⟨Blk.setRow HZZ.out _, HE.out.low.trans (below_setRow _ _ _ (by omega))⟩ ?_; intro W2 hW2; have HW2 := Lib.hid hW2; clear hW2))
  rw [← HF.out]
  refine bodyPost_ret (v := .agg (rtc oo).toArray) ?_ rfl ⟨rfl, HW2.out.2⟩
  exact results_cell_row rfl _ _ (w.heap.size + 1) 53 _ (0, 0) _ rfl HW2.out.1 Tryz.underlying53 rfl (by rw [rt_size]; simp [rtc_len HO.out])

set_option maxHeartbeats 4000000 in
set_option maxRecDepth 100000 in
theorem own_0 (w : World) (r : Rt) (hr : RtOk r) (hk : ¬ (1 ≤ r.k ∧ r.k ≤ 5)) : Calls Tryz.prog 190 #[.agg (rtc r).toArray] w fun e w' => e = .returned (.agg (rtc (ownR r)).toArray) ∧ Below w.heap.size w w' := by
  have h1 := RtAt.new w r hr 53
  have HX := Lib.hid (fun Z => (h1.alloc (.cells Z 53)).rRd)
  have c0 : (rtc r)[0]? = some (.int .i64 r.k) := rfl
  have hz := rtZ_ok r.k r.rd hr.k hr.rd hr.ord
  have HB3 : Hid (∀ Z Z', Blk (((w.alloc (.cells (rtc r).toArray 53)).alloc (.cells Z 53)).alloc (.cells Z' 53)) (w.heap.size + 2) 53 Z') := Lib.hid (fun Z Z' => by
    have := Blk.new ((w.alloc (.cells (rtc r).toArray 53)).alloc (.cells Z 53)) 53 Z'
    simpa using this)
  have HI : Hid (∀ Z Z', Z.size = 63 → OwnWN w ((((w.alloc (.cells (rtc r).toArray 53)).alloc (.cells Z 53)).alloc (.cells Z' 53)).setRow (w.heap.size + 2) (rtc (rtZ r.k r.rd)).toArray) r (rtZ r.k r.rd)) := Lib.hid (fun Z Z' hs => by
    have hb2 : Blk (w.alloc (.cells (rtc r).toArray 53) |>.alloc (.cells Z 53)) (w.heap.size + 1) 53 Z := by simpa using Blk.new (w.alloc (.cells (rtc r).toArray 53)) 53 Z
    refine ⟨((h1.alloc _).alloc _).keep (setRow_other _ _ _ _ (by omega)), ⟨Z, (setRow_other _ _ _ _ (by omega)).trans (hb2.alloc _), hs⟩, RtAt.row (HB3.out Z Z') hz, ?_, hr, hz⟩
    exact ((((Below.refl w.heap.size w).alloc (Nat.le_refl _) _).alloc (by simp) _).alloc (by simp; omega) _).trans (below_setRow _ _ _ (by omega)))
  have HR := Lib.hid hr
  have HZ := Lib.hid hz
  have HBu := Lib.hid (built_rt r.k r.rd hr.rd)
  have HF : Hid (rtZ r.k r.rd = ownR r) := Lib.hid (by unfold ownR; rw [if_neg (by omega), if_neg (by omega), if_neg (by omega), if_neg (by omega), if_neg (by omega)])
  have e1 : (r.k == 1) = false := by rw [beq_eq_false_iff_ne]; omega
  have e2 : (r.k == 2) = false := by rw [beq_eq_false_iff_ne]; omega
  have e3 : (r.k == 3) = false := by rw [beq_eq_false_iff_ne]; omega
  have e4 : (r.k == 4) = false := by rw [beq_eq_false_iff_ne]; omega
  have e5 : (r.k == 5) = false := by rw [beq_eq_false_iff_ne]; omega
  clear h1 hz hk hr
  generalize hkk : r.k = kk at *
  have HKK := Lib.hid hkk
  clear hkk
  go_enter Tryz.func190, Tryz.ntmps190
  go_wp2_with (first
    | (refine part_fetch rfl 45 _ rfl w.heap.size 1 (u8s r.rd) _ rfl (HX.out _) Tryz.underlying45 rfl (sz_rd HR.out) ?_)
    | (refine rt_build rfl _ rfl [(0, .int .i64 kk), (1, .agg (u8s r.rd).toArray)] (by simp only [List.map_toArray, List.map_cons, List.map_nil]; rfl) (rtZ kk r.rd) HBu.out ?_)
    | (refine rt_store_to rfl _ _ rfl (w.heap.size + 2) (rtZ kk r.rd) HZ.out rfl rfl 53 _ (HB3.out _ _) rfl (fun W => OwnWN w W r (rtZ kk r.rd)) (HI.out _ _ rfl) ?_; intro W hW; have hcK := hW.src.cK; rw [HKK.out] at hcK; have HW := Lib.hid hW; clear hW)
    | (obtain ⟨Z, hZ, hs⟩ := HW.out.res; refine rt_fetch rfl _ rfl (w.heap.size + 2) (rtZ kk r.rd) HZ.out rfl HW.out.dst ?_)
    | (obtain ⟨Z, hZ, hs⟩ := HW.out.res; refine rt_store_to rfl _ _ rfl (w.heap.size + 1) (rtZ kk r.rd) HZ.out rfl rfl 53 Z hZ hs (fun W' => Blk W' (w.heap.size + 1) 53 (rtc (rtZ kk r.rd)).toArray ∧ Below w.heap.size w W') ⟨Blk.setRow hZ _, HW.out.low.trans (below_setRow _ _ _ (by omega))⟩ ?_; intro W2 hW2; clear hZ; have HW2 := Lib.hid hW2; clear hW2))
  rw [← HF.out]
  refine bodyPost_ret (v := .agg (rtc (rtZ kk r.rd)).toArray) ?_ rfl ⟨rfl, HW2.out.2⟩
  exact results_cell_row rfl _ _ (w.heap.size + 1) 53 _ (0, 0) _ rfl HW2.out.1 Tryz.underlying53 rfl (by rw [rt_size]; simp [rtc_len HZ.out])

theorem own_is (w : World) (r : Rt) (hr : RtOk r) : Calls Tryz.prog 190 #[.agg (rtc r).toArray] w fun e w' => e = .returned (.agg (rtc (ownR r)).toArray) ∧ Below w.heap.size w w' := by
  by_cases h1 : r.k = 1
  · exact own_1 w r hr h1
  by_cases h2 : r.k = 2
  · exact own_2 w r hr h2
  by_cases h3 : r.k = 3
  · exact own_3 w r hr h3
  by_cases h4 : r.k = 4
  · exact own_4 w r hr h4
  by_cases h5 : r.k = 5
  · exact own_5 w r hr h5
  exact own_0 w r hr (by omega)
end Go.Proofs.YtdgoeibfggjbmaaGreatDoor
