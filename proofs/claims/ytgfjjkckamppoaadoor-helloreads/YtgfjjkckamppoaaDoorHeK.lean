/-
  Layer 8: Agree, Stays.
-/
import Derived.Test.YtgfjjkckamppoaaDoorHeH
namespace Go.Proofs.YtgfjjkckamppoaaDoor
open Go.RowKit
set_option maxRecDepth 100000
set_option linter.unusedSimpArgs false
set_option linter.unusedVariables false

/-- Terms. -/
structure Tm where
  as_ : Int
  id_ : Int
  hold : Int
  keep : Int
  rf : Bool
def tmc (t : Tm) : List Value := [.int .u32 t.as_, .int .u32 t.id_, .int .i64 t.hold, .int .i64 t.keep, .bool t.rf]
def tm0 : Tm := ⟨0, 0, 0, 0, false⟩
theorem tmc_one (t : Tm) : ((tmc t).toArray.all fun v => v.oneCell') = true := by kernel_rfl
theorem tsz : (Tryd.prog.info? 40).map (·.size) = some 5 := by kernel_rfl
theorem t_fetch {ops : Array Oper} {rest : List Oper} {op : Oper} {a : Act} {w : World} {Q : Exit → Act → World → Prop} (hw : Region.wanted op (yielded ops a.tmps) = true) (x : Operand) (ho : op.op = .load 40 x)
    (g : Nat) (m : Tm) (t : TypeId) (hx : a.eval x = .pointer (some ⟨g, 0, none⟩)) (hc : Blk w g t (tmc m).toArray) (k : wpList Tryd.prog ops Q rest (a.put op.dst (.agg (tmc m).toArray)) w) : wpList Tryd.prog ops Q (op :: rest) a w :=
  BigFrame.wpList_want hw fun _ hK => wp_load_mid 40 x ho g 0 hx (tmc m) _ hc.range Tryd.underlying40 rfl tsz (hK _ _ k)
theorem t_store {ops : Array Oper} {rest : List Oper} {o : Oper} {a : Act} {w : World} {Q : Exit → Act → World → Prop} (hgd : o.guard = none) (x y : Operand) (ho : o.op = .store 40 x y) (g : Nat) (m : Tm)
    (hx : a.eval x = .pointer (some ⟨g, 0, none⟩)) (hy : a.eval y = .agg (tmc m).toArray) (t : TypeId) (old : Array Value) (hg : Blk w g t old) (hold : old.size = 5)
    (k : wpList Tryd.prog ops Q rest (a.put o.dst undef) (w.setRow g (tmc m).toArray)) : wpList Tryd.prog ops Q (o :: rest) a w :=
  wpList_store_row hgd 40 x y ho g _ hx hy t old hg tsz (by rw [hold]; rfl) (tmc_one m) k
/-- Two variables that are told: terms in block b, a fault's behind it. -/
structure TmS (w W : World) (b : Nat) : Prop where
  low : Below w.heap.size w W
  lb : w.heap.size ≤ b
  hb : ∃ old, Blk W b 40 old ∧ old.size = 5
  fb : ∃ old, Blk W (b + 1) 34 old ∧ old.size = 3
theorem TmS.below {w W W' : World} {b : Nat} (k : TmS w W b) (hB : Below W.heap.size W W') : TmS w W' b := by
  obtain ⟨o1, h1, z1⟩ := k.hb
  obtain ⟨o2, h2, z2⟩ := k.fb
  exact ⟨k.low.trans (hB.mono k.low.size), k.lb, ⟨o1, h1.below hB h1.lt, z1⟩, ⟨o2, h2.below hB h2.lt, z2⟩⟩
theorem TmS.own1 {w W : World} {b : Nat} (k : TmS w W b) (cs : Array Value) (hz : cs.size = 5) : TmS w (W.setRow b cs) b := by
  obtain ⟨o1, k1, z1⟩ := k.hb
  obtain ⟨o2, k2, z2⟩ := k.fb
  exact ⟨k.low.trans (below_setRow W b _ k.lb), k.lb, ⟨cs, Blk.setRow k1 cs, hz⟩, ⟨o2, k2.setRow_other8 (by omega) _, z2⟩⟩
theorem TmS.own2 {w W : World} {b : Nat} (k : TmS w W b) (cs : Array Value) (hz : cs.size = 3) : TmS w (W.setRow (b + 1) cs) b := by
  obtain ⟨o1, k1, z1⟩ := k.hb
  obtain ⟨o2, k2, z2⟩ := k.fb
  exact ⟨k.low.trans (below_setRow W (b + 1) _ (Nat.le_succ_of_le k.lb)), k.lb, ⟨o1, k1.setRow_other8 (by omega) _, z1⟩, ⟨cs, Blk.setRow k2 cs, hz⟩⟩
theorem tm_end {fn : Func} {p q r : Tmp} (hres : fn.results = #[.cell p 40, .cell q 34, .tmp r]) {R : Ending → World → Prop} (a : Act) (w W : World) (b : Nat) (k : TmS w W b) (m : Tm) (c s : Int) (A : Option Addr) (n z : Nat) (u : Value)
    (hp : a.tmps.getD p undef = .pointer (some ⟨b, 0, none⟩)) (hq : a.tmps.getD q undef = .pointer (some ⟨b + 1, 0, none⟩)) (hr : a.tmps.getD r undef = u) (hd : a.defers = [])
    (hR : Below w.heap.size w ((W.setRow b (tmc m).toArray).setRow (b + 1) #[.int .i64 c, .int .i64 s, .slice A n z]) → R (.returned (.tuple #[.agg (tmc m).toArray, .agg #[.int .i64 c, .int .i64 s, .slice A n z], u])) ((W.setRow b (tmc m).toArray).setRow (b + 1) #[.int .i64 c, .int .i64 s, .slice A n z])) :
    bodyPost Tryd.prog fn R .ret a ((W.setRow b (tmc m).toArray).setRow (b + 1) #[.int .i64 c, .int .i64 s, .slice A n z]) := by
  obtain ⟨o1, k1, z1⟩ := k.hb
  obtain ⟨o2, k2, z2⟩ := k.fb
  have e1 := Blk.setRow k1 (tmc m).toArray
  have e2 := Blk.setRow_other8 k2 (show b + 1 ≠ b by omega) (tmc m).toArray
  have f1 := Blk.setRow_other8 e1 (show b ≠ b + 1 by omega) #[.int .i64 c, .int .i64 s, .slice A n z]
  have f2 := Blk.setRow e2 #[.int .i64 c, .int .i64 s, .slice A n z]
  refine bodyPost_ret (results_cells3 hres _ _ b (b + 1) 40 34 _ _ _ _ u hp hq hr f1 f2 Tryd.underlying40 rfl tsz Tryd.underlying34 rfl fsz) hd (hR ?_)
  exact k.low.trans (((below_setRow W b _ k.lb).trans (below_setRow _ (b + 1) _ (by have := k.lb; omega))))
theorem tm_store {ops : Array Oper} {rest : List Oper} {o : Oper} {a : Act} {w W : World} {Q : Exit → Act → World → Prop} {b : Nat} (k : TmS w W b) (hgd : o.guard = none) (x y : Operand) (ho : o.op = .store 40 x y) (m : Tm)
    (hx : a.eval x = .pointer (some ⟨b, 0, none⟩)) (hy : a.eval y = .agg (tmc m).toArray)
    (k : wpList Tryd.prog ops Q rest (a.put o.dst undef) (W.setRow b (tmc m).toArray)) : wpList Tryd.prog ops Q (o :: rest) a W := by
  obtain ⟨o1, k1, z1⟩ := TmS.hb ‹_›
  exact t_store hgd x y ho b m hx hy 40 o1 k1 z1 k
theorem tm_store2 {ops : Array Oper} {rest : List Oper} {o : Oper} {a : Act} {w W : World} {Q : Exit → Act → World → Prop} {b : Nat} (k : TmS w W b) (m : Tm) (hgd : o.guard = none) (x y : Operand) (ho : o.op = .store 34 x y) (c s : Int) (A : Option Addr) (n z : Nat)
    (hx : a.eval x = .pointer (some ⟨b + 1, 0, none⟩)) (hy : a.eval y = .agg #[.int .i64 c, .int .i64 s, .slice A n z])
    (kk : wpList Tryd.prog ops Q rest (a.put o.dst undef) ((W.setRow b (tmc m).toArray).setRow (b + 1) #[.int .i64 c, .int .i64 s, .slice A n z])) : wpList Tryd.prog ops Q (o :: rest) a (W.setRow b (tmc m).toArray) := by
  obtain ⟨o2, k2, z2⟩ := k.fb
  exact f_store hgd x y ho (b + 1) c s A n z hx hy 34 o2 (Blk.setRow_other8 k2 (show b + 1 ≠ b by omega) (tmc m).toArray) z2 kk
/-- What two ends agree on. -/
def agreeR (m t : Hl) (n : Int) : Except (Int × List Int) Tm :=
  if t.as_ ≠ n then .error (2, []) else if t.id_ = m.id_ then .error (3, []) else if (m.ev && t.ev) = false then .error (7, [1, 4, 0, 25, 0, 70]) else .ok ⟨t.as_, t.id_, min m.hold t.hold, thd (min m.hold t.hold), m.rf && t.rf⟩
def ToldT (w : World) (r : Except (Int × List Int) Tm) (e : Ending) (w' : World) : Prop := Below w.heap.size w w' ∧ match r with
  | .ok t => e = .returned (.tuple #[.agg (tmc t).toArray, .agg #[.int .i64 0, .int .i64 0, .slice none 0 0], .bool true])
  | .error (s, d) => ∃ A n c, e = .returned (.tuple #[.agg (tmc tm0).toArray, .agg #[.int .i64 2, .int .i64 s, .slice A n c], .bool false]) ∧ n ≤ c ∧ Rd w' w'.heap.size A n d
theorem ToldT.no (w w' : World) (s : Int) (hB : Below w.heap.size w w') : ToldT w (.error (s, [])) (.returned (.tuple #[.agg (tmc tm0).toArray, .agg #[.int .i64 2, .int .i64 s, .slice none 0 0], .bool false])) w' := ⟨hB, none, 0, 0, rfl, Nat.le_refl _, Rd.nil_ _⟩
theorem stays_is (w : World) (a b : Int) : Calls Tryd.prog 21 #[.int .u32 a, .int .u32 b] w fun e w' => e = .returned (.bool (decide (b < a))) ∧ w = w' := by
  go_enter Tryd.func21, Tryd.ntmps21
  go_wp2
  go_ret
  exact ⟨rfl, rfl⟩
theorem tm_new (w : World) (x y : Array Value) : TmS w ((((w.alloc (.cells x 24)).alloc (.cells y 24)).alloc (.cells #[.int .u32 0, .int .u32 0, .int .i64 0, .int .i64 0, .bool false] 40)).alloc (.cells #[.int .i64 0, .int .i64 0, .slice none 0 0] 34)) (w.heap.size + 1 + 1) := by
  have h1 := (Blk.new ((w.alloc (.cells x 24)).alloc (.cells y 24)) 40 #[.int .u32 0, .int .u32 0, .int .i64 0, .int .i64 0, .bool false]).alloc (.cells #[.int .i64 0, .int .i64 0, .slice none 0 0] 34)
  have h3 := Blk.new (((w.alloc (.cells x 24)).alloc (.cells y 24)).alloc (.cells #[.int .u32 0, .int .u32 0, .int .i64 0, .int .i64 0, .bool false] 40)) 34 #[.int .i64 0, .int .i64 0, .slice none 0 0]
  rw [show ((w.alloc (.cells x 24)).alloc (.cells y 24)).heap.size = w.heap.size + 2 by simp] at h1
  rw [show (((w.alloc (.cells x 24)).alloc (.cells y 24)).alloc (.cells #[.int .u32 0, .int .u32 0, .int .i64 0, .int .i64 0, .bool false] 40)).heap.size = w.heap.size + 3 by simp] at h3
  refine ⟨?_, by omega, ⟨_, h1, rfl⟩, ⟨_, h3, rfl⟩⟩
  exact (below_one8 _ _).trans (((below_one8 _ _).trans (((below_one8 _ _).trans ((below_one8 _ _).mono (below_one8 _ _).size)).mono (below_one8 _ _).size)).mono (below_one8 _ _).size)

/-- Bytes in a block of their own type. -/
def BodyX (w W : World) (A : Option Addr) (l : List Int) : Prop := Oct l ∧ (l.length = 0 ∨ ∃ g cs, A = some ⟨g, 0, none⟩ ∧ w.heap.size ≤ g ∧ W.heap[g]? = some (.cells cs 5 (0, 0)) ∧ (cs.toList.take l.length = u8s l))
theorem BodyX.below {w W W' : World} {A : Option Addr} {l : List Int} (h : BodyX w W A l) (hB : Below W.heap.size W W') : BodyX w W' A l :=
  ⟨h.1, h.2.imp id fun ⟨g, cs, a, b, c, d⟩ => ⟨g, cs, a, b, (hB.block g (Array.getElem?_eq_some_iff.1 c).1).trans c, d⟩⟩
theorem BodyX.rd {w W : World} {A : Option Addr} {l : List Int} (h : BodyX w W A l) : Rd W W.heap.size A l.length l := by
  obtain ⟨ho, h0 | ⟨g, cs, rfl, _, hg, hx⟩⟩ := h
  · obtain rfl : l = [] := List.eq_nil_of_length_eq_zero h0
    exact Rd.nil_ _
  · refine ⟨rfl, ho, fun _ => ⟨g, 0, rfl, (Array.getElem?_eq_some_iff.1 hg).1, fun i hi => ?_⟩⟩
    have h1 : (u8s l)[i]? = some (.int .u8 (l.getD i 0)) := by simp [List.getD, hi]
    rw [← hx, List.getElem?_take, if_pos hi] at h1
    rw [Nat.zero_add]
    simp only [World.cell?, hg]
    rw [← Array.getElem?_toList]
    exact h1
theorem row_ne8 {w : World} {i j : Nat} {t u : TypeId} {a b : Array Value} (h : w.heap[i]? = some (.cells a t (0, 0))) (k : w.heap[j]? = some (.cells b u (0, 0))) (hne : t ≠ u) : i ≠ j := by
  rintro rfl
  rw [h] at k
  injection k with k
  injection k with _ k
  exact hne k
theorem BodyX.row {w W : World} {A : Option Addr} {l : List Int} {g : Nat} {t : TypeId} {old : Array Value} (h : BodyX w W A l) (hg : Blk W g t old) (ht : 5 ≠ t) (cs : Array Value) : BodyX w (W.setRow g cs) A l :=
  ⟨h.1, h.2.imp id fun ⟨i, c, a, b, hc, d⟩ => ⟨i, c, a, b, (setRow_other W g i cs (row_ne8 hc hg ht)).trans hc, d⟩⟩
theorem BodyX.far {w W : World} {A : Option Addr} {l : List Int} {b : Nat} (h : BodyX w W A l) (k : TmS w W b) (cs cs2 : Array Value) : Rd ((W.setRow b cs).setRow (b + 1) cs2) ((W.setRow b cs).setRow (b + 1) cs2).heap.size A l.length l := by
  obtain ⟨o1, k1, z1⟩ := k.hb
  obtain ⟨o2, k2, z2⟩ := k.fb
  exact ((h.row k1 (by decide) cs).row (k2.setRow_other8 (by omega) cs) (by decide) cs2).rd
theorem OwnB.bodyX {w W W0 : World} {v : Value} {l : List Int} (h : OwnB W0.heap.size W v l) (hl : w.heap.size ≤ W0.heap.size) : ∀ A n c, v = .slice A n c → BodyX w W A l := by
  intro A n c hv
  refine ⟨h.oct, ?_⟩
  rcases h.own.2 with ⟨rfl, hn⟩ | ⟨g, cap, cur, rfl, hb, hg, hnc, hcm, hcs, hx⟩
  · exact Or.inl hn
  · injection hv with h1 h2 h3
    exact Or.inr ⟨g, cur, h1.symm, by omega, hg, by simpa using hx⟩
set_option maxHeartbeats 4000000 in
theorem agree_is (w : World) (E : EnvF w) (m t : Hl) (hm : HlOk m) (ht : HlOk t) (n : Int) : Calls Tryd.prog 19 #[.agg (hlc m).toArray, .agg (hlc t).toArray, .int .u32 n] w (ToldT w (agreeR m t n)) := by
  have hS := tm_new w (hlc m).toArray (hlc t).toArray
  have hA := (((Blk.new w 24 (hlc m).toArray).alloc (.cells (hlc t).toArray 24)).alloc (.cells #[.int .u32 0, .int .u32 0, .int .i64 0, .int .i64 0, .bool false] 40)).alloc (.cells #[.int .i64 0, .int .i64 0, .slice none 0 0] 34)
  have hBx := ((Blk.new (w.alloc (.cells (hlc m).toArray 24)) 24 (hlc t).toArray).alloc (.cells #[.int .u32 0, .int .u32 0, .int .i64 0, .int .i64 0, .bool false] 40)).alloc (.cells #[.int .i64 0, .int .i64 0, .slice none 0 0] 34)
  rw [show (w.alloc (.cells (hlc m).toArray 24)).heap.size = w.heap.size + 1 by simp] at hBx
  have HS := Lib.hid hS
  have HA := Lib.hid hA
  have HB := Lib.hid hBx
  have HE := Lib.hid (E.below hS.low)
  have a1 : (hlc m)[1]? = some (.int .i64 m.hold) := rfl
  have a2 : (hlc m)[2]? = some (.int .u32 m.id_) := rfl
  have a3 : (hlc m)[3]? = some (.bool m.ev) := rfl
  have b0 : (hlc t)[0]? = some (.int .u32 t.as_) := rfl
  have b1 : (hlc t)[1]? = some (.int .i64 t.hold) := rfl
  have b2 : (hlc t)[2]? = some (.int .u32 t.id_) := rfl
  have b3 : (hlc t)[3]? = some (.bool t.ev) := rfl
  clear hS hA hBx E
  by_cases h1 : t.as_ = n
  case neg =>
    have HJ : Hid (agreeR m t n = .error (2, [])) := Lib.hid (by unfold agreeR; rw [if_pos h1])
    have e1 : (t.as_ != n) = true := by simpa using h1
    clear h1
    go_enter Tryd.func19, Tryd.ntmps19
    go_wp2_with fail
    refine (fault_is _ 2 none 0 0).mono ?_
    rintro e W ⟨rfl, hB⟩
    have HS2 := Lib.hid (HS.out.below hB)
    clear hB HS HA HB HE a1 a2 a3 b0 b1 b2 b3
    go_wp2_with (first
      | (refine tm_store HS2.out rfl _ _ rfl tm0 rfl rfl ?_)
      | (refine tm_store2 HS2.out tm0 rfl _ _ rfl 2 2 none 0 0 rfl rfl ?_))
    try simp only [Exit.inBlock, Exit.then]
    exact tm_end rfl _ w W _ HS2.out tm0 2 2 none 0 0 (.bool false) rfl rfl rfl rfl (fun hb => by rw [HJ.out]; exact ToldT.no w _ 2 hb)
  have e1 : (t.as_ != n) = false := by simpa using h1
  by_cases h2 : t.id_ = m.id_
  case pos =>
    have HJ : Hid (agreeR m t n = .error (3, [])) := Lib.hid (by unfold agreeR; rw [if_neg (fun k => k h1), if_pos h2])
    have e2 : (t.id_ == m.id_) = true := by simpa using h2
    clear h1 h2
    go_enter Tryd.func19, Tryd.ntmps19
    go_wp2_with fail
    refine (fault_is _ 3 none 0 0).mono ?_
    rintro e W ⟨rfl, hB⟩
    have HS2 := Lib.hid (HS.out.below hB)
    clear hB HS HA HB HE a1 a2 a3 b0 b1 b2 b3
    go_wp2_with (first
      | (refine tm_store HS2.out rfl _ _ rfl tm0 rfl rfl ?_)
      | (refine tm_store2 HS2.out tm0 rfl _ _ rfl 2 3 none 0 0 rfl rfl ?_))
    try simp only [Exit.inBlock, Exit.then]
    exact tm_end rfl _ w W _ HS2.out tm0 2 3 none 0 0 (.bool false) rfl rfl rfl rfl (fun hb => by rw [HJ.out]; exact ToldT.no w _ 3 hb)
  have e2 : (t.id_ == m.id_) = false := by simpa using h2
  by_cases h3 : (m.ev && t.ev) = false
  case pos =>
    have HJ : Hid (agreeR m t n = .error (7, [1, 4, 0, 25, 0, 70])) := Lib.hid (by unfold agreeR; rw [if_neg (fun k => k h1), if_neg h2, if_pos h3])
    have hor : m.ev = false ∨ (m.ev = true ∧ t.ev = false) := (show ∀ p q : Bool, (p && q) = false → p = false ∨ (p = true ∧ q = false) by decide) _ _ h3
    have HF := Lib.hid (fun W (E : EnvF W) => family_is W E)
    have HEnd : Hid (∀ W Av cv, TmS w W (w.heap.size + 1 + 1) → BodyX w W Av [1, 4, 0, 25, 0, 70] → 6 ≤ cv → Below w.heap.size w ((W.setRow (w.heap.size + 1 + 1) (tmc tm0).toArray).setRow (w.heap.size + 1 + 1 + 1) #[.int .i64 2, .int .i64 7, .slice Av 6 cv]) → ToldT w (agreeR m t n) (.returned (.tuple #[.agg (tmc tm0).toArray, .agg #[.int .i64 2, .int .i64 7, .slice Av 6 cv], .bool false])) ((W.setRow (w.heap.size + 1 + 1) (tmc tm0).toArray).setRow (w.heap.size + 1 + 1 + 1) #[.int .i64 2, .int .i64 7, .slice Av 6 cv])) := Lib.hid (by
      intro W Av cv hS hx hcv hB
      rw [HJ.out]
      exact ⟨hB, Av, 6, cv, rfl, hcv, hx.far hS _ _⟩)
    clear h1 h2 h3
    rcases hor with h | ⟨h, h'⟩
    · rw [h] at a3
      go_enter Tryd.func19, Tryd.ntmps19
      go_wp2_with fail
      refine (HF.out _ HE.out).mono ?_
      generalize ((((w.alloc (.cells (hlc m).toArray 24)).alloc (.cells (hlc t).toArray 24)).alloc (.cells #[.int .u32 0, .int .u32 0, .int .i64 0, .int .i64 0, .bool false] 40)).alloc (.cells #[.int .i64 0, .int .i64 0, .slice none 0 0] 34)) = w1 at *
      rintro e W2 ⟨rfl, hby, hB⟩
      have HS2 := Lib.hid (HS.out.below hB)
      have HD2 := Lib.hid (hby.rd_all fam_oct hby.lt)
      clear hby hB HS HA HB HE a1 a2 a3 b0 b1 b2 b3
      go_wp2_with fail
      refine (part_is W2 1 (by omega) _ 4 4 fam HD2.out (by omega)).mono ?_
      rintro e W3 ⟨v, rfl, hO, hB⟩
      have hx := hO.bodyX (w := w) HS2.out.low.size
      obtain ⟨Av, cv, rfl, hcv, _, _⟩ := hO.at_
      have HS3 := Lib.hid (HS2.out.below hB)
      have HX3 := Lib.hid (hx Av _ cv rfl)
      clear hx hO hB HS2 HD2
      simp only [List.length_cons, List.length_nil, Nat.zero_add, Nat.reduceAdd] at hcv ⊢
      go_wp2_with fail
      refine (fault_is W3 7 Av 6 cv).mono ?_
      rintro e W4 ⟨rfl, hB⟩
      have HS4 := Lib.hid (HS3.out.below hB)
      have HX4 := Lib.hid (HX3.out.below hB)
      clear hB HS3 HX3
      go_wp2_with (first
        | (refine tm_store HS4.out rfl _ _ rfl tm0 rfl rfl ?_)
        | (refine tm_store2 HS4.out tm0 rfl _ _ rfl 2 7 Av 6 cv rfl rfl ?_))
      try simp only [Exit.inBlock, Exit.then]
      exact tm_end rfl _ w W4 _ HS4.out tm0 2 7 Av 6 cv (.bool false) rfl rfl rfl rfl (fun hb => HEnd.out W4 Av cv HS4.out HX4.out hcv hb)
    · rw [h] at a3
      rw [h'] at b3
      go_enter Tryd.func19, Tryd.ntmps19
      go_wp2_with fail
      refine (HF.out _ HE.out).mono ?_
      generalize ((((w.alloc (.cells (hlc m).toArray 24)).alloc (.cells (hlc t).toArray 24)).alloc (.cells #[.int .u32 0, .int .u32 0, .int .i64 0, .int .i64 0, .bool false] 40)).alloc (.cells #[.int .i64 0, .int .i64 0, .slice none 0 0] 34)) = w1 at *
      rintro e W2 ⟨rfl, hby, hB⟩
      have HS2 := Lib.hid (HS.out.below hB)
      have HD2 := Lib.hid (hby.rd_all fam_oct hby.lt)
      clear hby hB HS HA HB HE a1 a2 a3 b0 b1 b2 b3
      go_wp2_with fail
      refine (part_is W2 1 (by omega) _ 4 4 fam HD2.out (by omega)).mono ?_
      rintro e W3 ⟨v, rfl, hO, hB⟩
      have hx := hO.bodyX (w := w) HS2.out.low.size
      obtain ⟨Av, cv, rfl, hcv, _, _⟩ := hO.at_
      have HS3 := Lib.hid (HS2.out.below hB)
      have HX3 := Lib.hid (hx Av _ cv rfl)
      clear hx hO hB HS2 HD2
      simp only [List.length_cons, List.length_nil, Nat.zero_add, Nat.reduceAdd] at hcv ⊢
      go_wp2_with fail
      refine (fault_is W3 7 Av 6 cv).mono ?_
      rintro e W4 ⟨rfl, hB⟩
      have HS4 := Lib.hid (HS3.out.below hB)
      have HX4 := Lib.hid (HX3.out.below hB)
      clear hB HS3 HX3
      go_wp2_with (first
        | (refine tm_store HS4.out rfl _ _ rfl tm0 rfl rfl ?_)
        | (refine tm_store2 HS4.out tm0 rfl _ _ rfl 2 7 Av 6 cv rfl rfl ?_))
      try simp only [Exit.inBlock, Exit.then]
      exact tm_end rfl _ w W4 _ HS4.out tm0 2 7 Av 6 cv (.bool false) rfl rfl rfl rfl (fun hb => HEnd.out W4 Av cv HS4.out HX4.out hcv hb)
  have HJ : Hid (agreeR m t n = .ok ⟨t.as_, t.id_, min m.hold t.hold, thd (min m.hold t.hold), m.rf && t.rf⟩) := Lib.hid (by unfold agreeR; rw [if_neg (fun k => k h1), if_neg h2, if_neg h3])
  obtain ⟨hx, hy⟩ : m.ev = true ∧ t.ev = true := (show ∀ p q : Bool, ¬ (p && q) = false → p = true ∧ q = true by decide) _ _ h3
  rw [hx] at a3
  rw [hy] at b3
  have bm := hm.hold
  have bt := ht.hold
  clear h1 h2 h3 hx hy
  by_cases hle : m.hold ≤ t.hold
  case pos =>
    have HMin : Hid (min m.hold t.hold = m.hold) := Lib.hid (by omega)
    have HBd : Hid (-9223372036854775808 ≤ m.hold ∧ m.hold < 9223372036854775808) := Lib.hid bm
    cases hrf : m.rf with
    | true =>
      have HOk : Hid (agreeR m t n = .ok ⟨t.as_, t.id_, m.hold, thd m.hold, t.rf⟩) := Lib.hid (by rw [HJ.out, HMin.out, hrf]; rfl)
      have HRf := Lib.hid hrf
      clear hrf HJ
      go_enter Tryd.func19, Tryd.ntmps19
      go_wp2_with fail
      refine wp_region_held_drew (S := fun W => TmS w W (w.heap.size + 1 + 1) ∧ HlAt W w.heap.size m ∧ HlAt W (w.heap.size + 1) t) (by kernel_rfl) (⟨HS.out.below (below_drew8 _), HA.out.below (below_drew8 _) HA.out.lt, HB.out.below (below_drew8 _) HB.out.lt⟩) (fun hS => ?_)
      refine wpAnyH_take (i := 0) (oi := ⟨some 43, _, _, _, _, _⟩) (v := ?_) rfl (by kernel_rfl) (by kernel_rfl) (by kernel_rfl) (fun _ _ _ h => h) (Or.inl ⟨by rfl, ?_⟩) hS ?_
      rotate_left
      · intro wq hq
        first | (go_simp; done) | (go_simp; rfl)
      try simp only [Act.put, List.setIfInBounds_toArray, List.set_cons_zero, List.set_cons_succ]
      refine wpAnyH_take (i := 1) (oi := ⟨some 44, _, _, _, _, _⟩) (v := ?_) rfl (by kernel_rfl) (by kernel_rfl) (by kernel_rfl) (fun _ _ _ h => h) (Or.inl ⟨by rfl, ?_⟩) hS ?_
      rotate_left
      · intro wq hq
        have c0 : wq.cell? ⟨w.heap.size + 1, 0, none⟩ = some (.int .u32 t.as_) := hq.2.2.cell 0
        first | (go_simp; done) | (go_simp; rfl)
      try simp only [Act.put, List.setIfInBounds_toArray, List.set_cons_zero, List.set_cons_succ]
      refine wpAnyH_take (i := 2) (oi := ⟨some 45, _, _, _, _, _⟩) (v := ?_) rfl (by kernel_rfl) (by kernel_rfl) (by kernel_rfl) (fun _ _ _ h => h) (Or.inl ⟨by rfl, ?_⟩) hS ?_
      rotate_left
      · intro wq hq
        first | (go_simp; done) | (go_simp; rfl)
      try simp only [Act.put, List.setIfInBounds_toArray, List.set_cons_zero, List.set_cons_succ]
      refine wpAnyH_take (i := 3) (oi := ⟨some 46, _, _, _, _, _⟩) (v := ?_) rfl (by kernel_rfl) (by kernel_rfl) (by kernel_rfl) (fun _ _ _ h => h) (Or.inl ⟨by rfl, ?_⟩) hS ?_
      rotate_left
      · intro wq hq
        have c0 : wq.cell? ⟨w.heap.size + 1, 2, none⟩ = some (.int .u32 t.id_) := hq.2.2.cell 2
        first | (go_simp; done) | (go_simp; rfl)
      try simp only [Act.put, List.setIfInBounds_toArray, List.set_cons_zero, List.set_cons_succ]
      refine wpAnyH_take (i := 4) (oi := ⟨some 47, _, _, _, _, _⟩) (v := ?_) rfl (by kernel_rfl) (by kernel_rfl) (by kernel_rfl) (fun _ _ _ h => h) (Or.inl ⟨by rfl, ?_⟩) hS ?_
      rotate_left
      · intro wq hq
        first | (go_simp; done) | (go_simp; rfl)
      try simp only [Act.put, List.setIfInBounds_toArray, List.set_cons_zero, List.set_cons_succ]
      refine wpAnyH_take (i := 5) (oi := ⟨some 48, _, _, _, _, _⟩) (v := ?_) rfl (by kernel_rfl) (by kernel_rfl) (by kernel_rfl) (fun _ _ _ h => h) (Or.inl ⟨by rfl, ?_⟩) hS ?_
      rotate_left
      · intro wq hq
        first | (go_simp; done) | (go_simp; rfl)
      try simp only [Act.put, List.setIfInBounds_toArray, List.set_cons_zero, List.set_cons_succ]
      refine wpAnyH_take (i := 7) (oi := ⟨some 50, _, _, _, _, _⟩) (v := ?_) rfl (by kernel_rfl) (by kernel_rfl) (by kernel_rfl) (fun _ _ _ h => h) (Or.inl ⟨by rfl, ?_⟩) hS ?_
      rotate_left
      · intro wq hq
        first | (go_simp; done) | (go_simp; rfl)
      try simp only [Act.put, List.setIfInBounds_toArray, List.set_cons_zero, List.set_cons_succ]
      refine wpAnyH_take (i := 8) (oi := ⟨some 51, _, _, _, _, _⟩) (v := ?_) rfl (by kernel_rfl) (by kernel_rfl) (by kernel_rfl) (fun _ _ _ h => h) (Or.inl ⟨by rfl, ?_⟩) hS ?_
      rotate_left
      · intro wq hq
        have c0 : wq.cell? ⟨w.heap.size, 5, none⟩ = some (.bool true) := by rw [← HRf.out]; exact hq.2.1.cell 5
        first | (go_simp; done) | (go_simp; rfl)
      try simp only [Act.put, List.setIfInBounds_toArray, List.set_cons_zero, List.set_cons_succ]
      refine wpAnyH_take (i := 14) (oi := ⟨some 57, _, _, _, _, _⟩) (v := ?_) rfl (by kernel_rfl) (by kernel_rfl) (by kernel_rfl) (fun _ _ _ h => h) (Or.inl ⟨by rfl, ?_⟩) hS ?_
      rotate_left
      · intro wq hq
        first | (go_simp; done) | (go_simp; rfl)
      try simp only [Act.put, List.setIfInBounds_toArray, List.set_cons_zero, List.set_cons_succ]
      generalize (((((w.alloc (.cells (hlc m).toArray 24)).alloc (.cells (hlc t).toArray 24)).alloc (.cells #[.int .u32 0, .int .u32 0, .int .i64 0, .int .i64 0, .bool false] 40)).alloc (.cells #[.int .i64 0, .int .i64 0, .slice none 0 0] 34))).drew = W0 at *
      clear HS HA HB HE a1 a2 a3 b0 b1 b2 b3
      have HS0 := Lib.hid hS.1
      refine wpAnyH_ready (rs := [6]) (by kernel_rfl) (by simp) ?_
      refine AllReadyH.cons (o := ⟨some 49, _, _, _, _, _⟩) rfl (fun K hK => ?_) AllReadyH.nil
      rw [if_pos (by rfl)]
      go_wp2_with fail
      refine (third_is W0 m.hold HBd.out).mono ?_
      rintro e W1 ⟨rfl, rfl⟩
      refine hK.out _ _ (hS) (fun hS => ?_)
      clear hK K
      try simp only [Act.put, List.setIfInBounds_toArray, List.set_cons_zero, List.set_cons_succ]
      refine wpAnyH_take (i := 9) (oi := ⟨some 52, _, _, _, _, _⟩) (v := ?_) rfl (by kernel_rfl) (by kernel_rfl) (by kernel_rfl) (fun _ _ _ h => h) (Or.inl ⟨by rfl, ?_⟩) hS ?_
      rotate_left
      · intro wq hq
        first | (go_simp; done) | (go_simp; rfl)
      try simp only [Act.put, List.setIfInBounds_toArray, List.set_cons_zero, List.set_cons_succ]
      refine wpAnyH_take (i := 10) (oi := ⟨some 53, _, _, _, _, _⟩) (v := ?_) rfl (by kernel_rfl) (by kernel_rfl) (by kernel_rfl) (fun _ _ _ h => h) (Or.inl ⟨by rfl, ?_⟩) hS ?_
      rotate_left
      · intro wq hq
        first | (go_simp; done) | (go_simp; rfl)
      try simp only [Act.put, List.setIfInBounds_toArray, List.set_cons_zero, List.set_cons_succ]
      refine wpAnyH_take (i := 11) (oi := ⟨some 54, _, _, _, _, _⟩) (v := ?_) rfl (by kernel_rfl) (by kernel_rfl) (by kernel_rfl) (fun _ _ _ h => h) (Or.inl ⟨by rfl, ?_⟩) hS ?_
      rotate_left
      · intro wq hq
        have c0 : wq.cell? ⟨w.heap.size + 1, 5, none⟩ = some (.bool t.rf) := hq.2.2.cell 5
        first | (go_simp; done) | (go_simp; rfl)
      try simp only [Act.put, List.setIfInBounds_toArray, List.set_cons_zero, List.set_cons_succ]
      refine wpAnyH_take (i := 12) (oi := ⟨some 55, _, _, _, _, _⟩) (v := ?_) rfl (by kernel_rfl) (by kernel_rfl) (by kernel_rfl) (fun _ _ _ h => h) (Or.inl ⟨by rfl, ?_⟩) hS ?_
      rotate_left
      · intro wq hq
        first | (go_simp; done) | (go_simp; rfl)
      try simp only [Act.put, List.setIfInBounds_toArray, List.set_cons_zero, List.set_cons_succ]
      refine wpAnyH_take (i := 13) (oi := ⟨some 56, _, _, _, _, _⟩) (v := ?_) rfl (by kernel_rfl) (by kernel_rfl) (by kernel_rfl) (fun _ _ _ h => h) (Or.inl ⟨by rfl, ?_⟩) hS ?_
      rotate_left
      · intro wq hq
        first | (go_simp; done) | (go_simp; rfl)
      try simp only [Act.put, List.setIfInBounds_toArray, List.set_cons_zero, List.set_cons_succ]
      obtain ⟨o1, k1, z1⟩ := hS.1.hb
      obtain ⟨o2, k2, z2⟩ := hS.1.fb
      refine wpAnyH_ready (rs := [15]) (by kernel_rfl) (by simp) ?_
      refine AllReadyH.cons (o := ⟨none, _, _, _, _, _⟩) rfl (fun K hK => ?_) AllReadyH.nil
      rw [if_pos (by rfl)]
      refine wp_store_row 40 _ _ rfl (w.heap.size + 1 + 1) (tmc ⟨t.as_, t.id_, m.hold, thd m.hold, t.rf⟩).toArray rfl rfl 40 _ k1 tsz (by rw [z1]; rfl) (tmc_one _) ?_
      refine hK.out _ _ ⟨hS.1.own1 (tmc ⟨t.as_, t.id_, m.hold, thd m.hold, t.rf⟩).toArray rfl, hS.2.1.setRow_other8 (by omega) _, hS.2.2.setRow_other8 (by omega) _⟩ (fun hS => ?_)
      clear hK K
      try simp only [Act.put, List.setIfInBounds_toArray, List.set_cons_zero, List.set_cons_succ]
      refine wpAnyH_ready (rs := [16]) (by kernel_rfl) (by simp) ?_
      refine AllReadyH.cons (o := ⟨none, _, _, _, _, _⟩) rfl (fun K hK => ?_) AllReadyH.nil
      rw [if_pos (by rfl)]
      refine wp_store_row 34 _ _ rfl (w.heap.size + 1 + 1 + 1) #[.int .i64 0, .int .i64 0, .slice none 0 0] rfl rfl 34 _ (k2.setRow_other8 (by omega) _) fsz (by rw [z2]; rfl) (by kernel_rfl) ?_
      refine hK.out _ _ ⟨hS.1.own2 #[.int .i64 0, .int .i64 0, .slice none 0 0] rfl, hS.2.1.setRow_other8 (by omega) _, hS.2.2.setRow_other8 (by omega) _⟩ (fun hS => ?_)
      clear hK K
      try simp only [Act.put, List.setIfInBounds_toArray, List.set_cons_zero, List.set_cons_succ]
      refine wpAnyH_take (i := 17) (oi := ⟨some 8, _, _, _, _, _⟩) (v := ?_) rfl (by kernel_rfl) (by kernel_rfl) (by kernel_rfl) (fun _ _ _ h => h) (Or.inl ⟨by rfl, ?_⟩) hS ?_
      rotate_left
      · intro wq hq
        first | (go_simp; done) | (go_simp; rfl)
      try simp only [Act.put, List.setIfInBounds_toArray, List.set_cons_zero, List.set_cons_succ]
      refine wpAnyH_done (by kernel_rfl) ?_ _
      clear hS k1 k2
      go_wp2
      try simp only [Exit.inBlock, Exit.then]
      exact tm_end rfl _ w W0 _ HS0.out ⟨t.as_, t.id_, m.hold, thd m.hold, t.rf⟩ 0 0 none 0 0 (.bool true) rfl rfl rfl rfl (fun hb => by rw [HOk.out]; exact ⟨hb, rfl⟩)
    | false =>
      have HOk : Hid (agreeR m t n = .ok ⟨t.as_, t.id_, m.hold, thd m.hold, false⟩) := Lib.hid (by rw [HJ.out, HMin.out, hrf]; rfl)
      have HRf := Lib.hid hrf
      clear hrf HJ
      go_enter Tryd.func19, Tryd.ntmps19
      go_wp2_with fail
      refine wp_region_held_drew (S := fun W => TmS w W (w.heap.size + 1 + 1) ∧ HlAt W w.heap.size m ∧ HlAt W (w.heap.size + 1) t) (by kernel_rfl) (⟨HS.out.below (below_drew8 _), HA.out.below (below_drew8 _) HA.out.lt, HB.out.below (below_drew8 _) HB.out.lt⟩) (fun hS => ?_)
      refine wpAnyH_take (i := 0) (oi := ⟨some 43, _, _, _, _, _⟩) (v := ?_) rfl (by kernel_rfl) (by kernel_rfl) (by kernel_rfl) (fun _ _ _ h => h) (Or.inl ⟨by rfl, ?_⟩) hS ?_
      rotate_left
      · intro wq hq
        first | (go_simp; done) | (go_simp; rfl)
      try simp only [Act.put, List.setIfInBounds_toArray, List.set_cons_zero, List.set_cons_succ]
      refine wpAnyH_take (i := 1) (oi := ⟨some 44, _, _, _, _, _⟩) (v := ?_) rfl (by kernel_rfl) (by kernel_rfl) (by kernel_rfl) (fun _ _ _ h => h) (Or.inl ⟨by rfl, ?_⟩) hS ?_
      rotate_left
      · intro wq hq
        have c0 : wq.cell? ⟨w.heap.size + 1, 0, none⟩ = some (.int .u32 t.as_) := hq.2.2.cell 0
        first | (go_simp; done) | (go_simp; rfl)
      try simp only [Act.put, List.setIfInBounds_toArray, List.set_cons_zero, List.set_cons_succ]
      refine wpAnyH_take (i := 2) (oi := ⟨some 45, _, _, _, _, _⟩) (v := ?_) rfl (by kernel_rfl) (by kernel_rfl) (by kernel_rfl) (fun _ _ _ h => h) (Or.inl ⟨by rfl, ?_⟩) hS ?_
      rotate_left
      · intro wq hq
        first | (go_simp; done) | (go_simp; rfl)
      try simp only [Act.put, List.setIfInBounds_toArray, List.set_cons_zero, List.set_cons_succ]
      refine wpAnyH_take (i := 3) (oi := ⟨some 46, _, _, _, _, _⟩) (v := ?_) rfl (by kernel_rfl) (by kernel_rfl) (by kernel_rfl) (fun _ _ _ h => h) (Or.inl ⟨by rfl, ?_⟩) hS ?_
      rotate_left
      · intro wq hq
        have c0 : wq.cell? ⟨w.heap.size + 1, 2, none⟩ = some (.int .u32 t.id_) := hq.2.2.cell 2
        first | (go_simp; done) | (go_simp; rfl)
      try simp only [Act.put, List.setIfInBounds_toArray, List.set_cons_zero, List.set_cons_succ]
      refine wpAnyH_take (i := 4) (oi := ⟨some 47, _, _, _, _, _⟩) (v := ?_) rfl (by kernel_rfl) (by kernel_rfl) (by kernel_rfl) (fun _ _ _ h => h) (Or.inl ⟨by rfl, ?_⟩) hS ?_
      rotate_left
      · intro wq hq
        first | (go_simp; done) | (go_simp; rfl)
      try simp only [Act.put, List.setIfInBounds_toArray, List.set_cons_zero, List.set_cons_succ]
      refine wpAnyH_take (i := 5) (oi := ⟨some 48, _, _, _, _, _⟩) (v := ?_) rfl (by kernel_rfl) (by kernel_rfl) (by kernel_rfl) (fun _ _ _ h => h) (Or.inl ⟨by rfl, ?_⟩) hS ?_
      rotate_left
      · intro wq hq
        first | (go_simp; done) | (go_simp; rfl)
      try simp only [Act.put, List.setIfInBounds_toArray, List.set_cons_zero, List.set_cons_succ]
      refine wpAnyH_take (i := 7) (oi := ⟨some 50, _, _, _, _, _⟩) (v := ?_) rfl (by kernel_rfl) (by kernel_rfl) (by kernel_rfl) (fun _ _ _ h => h) (Or.inl ⟨by rfl, ?_⟩) hS ?_
      rotate_left
      · intro wq hq
        first | (go_simp; done) | (go_simp; rfl)
      try simp only [Act.put, List.setIfInBounds_toArray, List.set_cons_zero, List.set_cons_succ]
      refine wpAnyH_take (i := 8) (oi := ⟨some 51, _, _, _, _, _⟩) (v := ?_) rfl (by kernel_rfl) (by kernel_rfl) (by kernel_rfl) (fun _ _ _ h => h) (Or.inl ⟨by rfl, ?_⟩) hS ?_
      rotate_left
      · intro wq hq
        have c0 : wq.cell? ⟨w.heap.size, 5, none⟩ = some (.bool false) := by rw [← HRf.out]; exact hq.2.1.cell 5
        first | (go_simp; done) | (go_simp; rfl)
      try simp only [Act.put, List.setIfInBounds_toArray, List.set_cons_zero, List.set_cons_succ]
      refine wpAnyH_take (i := 14) (oi := ⟨some 57, _, _, _, _, _⟩) (v := ?_) rfl (by kernel_rfl) (by kernel_rfl) (by kernel_rfl) (fun _ _ _ h => h) (Or.inl ⟨by rfl, ?_⟩) hS ?_
      rotate_left
      · intro wq hq
        first | (go_simp; done) | (go_simp; rfl)
      try simp only [Act.put, List.setIfInBounds_toArray, List.set_cons_zero, List.set_cons_succ]
      generalize (((((w.alloc (.cells (hlc m).toArray 24)).alloc (.cells (hlc t).toArray 24)).alloc (.cells #[.int .u32 0, .int .u32 0, .int .i64 0, .int .i64 0, .bool false] 40)).alloc (.cells #[.int .i64 0, .int .i64 0, .slice none 0 0] 34))).drew = W0 at *
      clear HS HA HB HE a1 a2 a3 b0 b1 b2 b3
      have HS0 := Lib.hid hS.1
      refine wpAnyH_ready (rs := [6]) (by kernel_rfl) (by simp) ?_
      refine AllReadyH.cons (o := ⟨some 49, _, _, _, _, _⟩) rfl (fun K hK => ?_) AllReadyH.nil
      rw [if_pos (by rfl)]
      go_wp2_with fail
      refine (third_is W0 m.hold HBd.out).mono ?_
      rintro e W1 ⟨rfl, rfl⟩
      refine hK.out _ _ (hS) (fun hS => ?_)
      clear hK K
      try simp only [Act.put, List.setIfInBounds_toArray, List.set_cons_zero, List.set_cons_succ]
      refine wpAnyH_take (i := 9) (oi := ⟨some 52, _, _, _, _, _⟩) (v := ?_) rfl (by kernel_rfl) (by kernel_rfl) (by kernel_rfl) (fun _ _ _ h => h) (Or.inl ⟨by rfl, ?_⟩) hS ?_
      rotate_left
      · intro wq hq
        first | (go_simp; done) | (go_simp; rfl)
      try simp only [Act.put, List.setIfInBounds_toArray, List.set_cons_zero, List.set_cons_succ]
      refine wpAnyH_take (i := 10) (oi := ⟨some 53, _, _, _, _, _⟩) (v := undef) rfl (by kernel_rfl) (by kernel_rfl) (by kernel_rfl) (fun _ _ _ h => h) (Or.inr ⟨by rfl, rfl⟩) hS ?_
      try simp only [Act.put, List.setIfInBounds_toArray, List.set_cons_zero, List.set_cons_succ]
      refine wpAnyH_take (i := 11) (oi := ⟨some 54, _, _, _, _, _⟩) (v := undef) rfl (by kernel_rfl) (by kernel_rfl) (by kernel_rfl) (fun _ _ _ h => h) (Or.inr ⟨by rfl, rfl⟩) hS ?_
      try simp only [Act.put, List.setIfInBounds_toArray, List.set_cons_zero, List.set_cons_succ]
      refine wpAnyH_take (i := 12) (oi := ⟨some 55, _, _, _, _, _⟩) (v := ?_) rfl (by kernel_rfl) (by kernel_rfl) (by kernel_rfl) (fun _ _ _ h => h) (Or.inl ⟨by rfl, ?_⟩) hS ?_
      rotate_left
      · intro wq hq
        first | (go_simp; done) | (go_simp; rfl)
      try simp only [Act.put, List.setIfInBounds_toArray, List.set_cons_zero, List.set_cons_succ]
      refine wpAnyH_take (i := 13) (oi := ⟨some 56, _, _, _, _, _⟩) (v := ?_) rfl (by kernel_rfl) (by kernel_rfl) (by kernel_rfl) (fun _ _ _ h => h) (Or.inl ⟨by rfl, ?_⟩) hS ?_
      rotate_left
      · intro wq hq
        first | (go_simp; done) | (go_simp; rfl)
      try simp only [Act.put, List.setIfInBounds_toArray, List.set_cons_zero, List.set_cons_succ]
      obtain ⟨o1, k1, z1⟩ := hS.1.hb
      obtain ⟨o2, k2, z2⟩ := hS.1.fb
      refine wpAnyH_ready (rs := [15]) (by kernel_rfl) (by simp) ?_
      refine AllReadyH.cons (o := ⟨none, _, _, _, _, _⟩) rfl (fun K hK => ?_) AllReadyH.nil
      rw [if_pos (by rfl)]
      refine wp_store_row 40 _ _ rfl (w.heap.size + 1 + 1) (tmc ⟨t.as_, t.id_, m.hold, thd m.hold, false⟩).toArray rfl rfl 40 _ k1 tsz (by rw [z1]; rfl) (tmc_one _) ?_
      refine hK.out _ _ ⟨hS.1.own1 (tmc ⟨t.as_, t.id_, m.hold, thd m.hold, false⟩).toArray rfl, hS.2.1.setRow_other8 (by omega) _, hS.2.2.setRow_other8 (by omega) _⟩ (fun hS => ?_)
      clear hK K
      try simp only [Act.put, List.setIfInBounds_toArray, List.set_cons_zero, List.set_cons_succ]
      refine wpAnyH_ready (rs := [16]) (by kernel_rfl) (by simp) ?_
      refine AllReadyH.cons (o := ⟨none, _, _, _, _, _⟩) rfl (fun K hK => ?_) AllReadyH.nil
      rw [if_pos (by rfl)]
      refine wp_store_row 34 _ _ rfl (w.heap.size + 1 + 1 + 1) #[.int .i64 0, .int .i64 0, .slice none 0 0] rfl rfl 34 _ (k2.setRow_other8 (by omega) _) fsz (by rw [z2]; rfl) (by kernel_rfl) ?_
      refine hK.out _ _ ⟨hS.1.own2 #[.int .i64 0, .int .i64 0, .slice none 0 0] rfl, hS.2.1.setRow_other8 (by omega) _, hS.2.2.setRow_other8 (by omega) _⟩ (fun hS => ?_)
      clear hK K
      try simp only [Act.put, List.setIfInBounds_toArray, List.set_cons_zero, List.set_cons_succ]
      refine wpAnyH_take (i := 17) (oi := ⟨some 8, _, _, _, _, _⟩) (v := ?_) rfl (by kernel_rfl) (by kernel_rfl) (by kernel_rfl) (fun _ _ _ h => h) (Or.inl ⟨by rfl, ?_⟩) hS ?_
      rotate_left
      · intro wq hq
        first | (go_simp; done) | (go_simp; rfl)
      try simp only [Act.put, List.setIfInBounds_toArray, List.set_cons_zero, List.set_cons_succ]
      refine wpAnyH_done (by kernel_rfl) ?_ _
      clear hS k1 k2
      go_wp2
      try simp only [Exit.inBlock, Exit.then]
      exact tm_end rfl _ w W0 _ HS0.out ⟨t.as_, t.id_, m.hold, thd m.hold, false⟩ 0 0 none 0 0 (.bool true) rfl rfl rfl rfl (fun hb => by rw [HOk.out]; exact ⟨hb, rfl⟩)
  have hgt : t.hold < m.hold := by omega
  have HMin : Hid (min m.hold t.hold = t.hold) := Lib.hid (by omega)
  clear hle
  have HBd : Hid (-9223372036854775808 ≤ t.hold ∧ t.hold < 9223372036854775808) := Lib.hid bt
  cases hrf : m.rf with
  | true =>
    have HOk : Hid (agreeR m t n = .ok ⟨t.as_, t.id_, t.hold, thd t.hold, t.rf⟩) := Lib.hid (by rw [HJ.out, HMin.out, hrf]; rfl)
    have HRf := Lib.hid hrf
    clear hrf HJ
    go_enter Tryd.func19, Tryd.ntmps19
    go_wp2_with fail
    refine wp_region_held_drew (S := fun W => TmS w W (w.heap.size + 1 + 1) ∧ HlAt W w.heap.size m ∧ HlAt W (w.heap.size + 1) t) (by kernel_rfl) (⟨HS.out.below (below_drew8 _), HA.out.below (below_drew8 _) HA.out.lt, HB.out.below (below_drew8 _) HB.out.lt⟩) (fun hS => ?_)
    refine wpAnyH_take (i := 0) (oi := ⟨some 43, _, _, _, _, _⟩) (v := ?_) rfl (by kernel_rfl) (by kernel_rfl) (by kernel_rfl) (fun _ _ _ h => h) (Or.inl ⟨by rfl, ?_⟩) hS ?_
    rotate_left
    · intro wq hq
      first | (go_simp; done) | (go_simp; rfl)
    try simp only [Act.put, List.setIfInBounds_toArray, List.set_cons_zero, List.set_cons_succ]
    refine wpAnyH_take (i := 1) (oi := ⟨some 44, _, _, _, _, _⟩) (v := ?_) rfl (by kernel_rfl) (by kernel_rfl) (by kernel_rfl) (fun _ _ _ h => h) (Or.inl ⟨by rfl, ?_⟩) hS ?_
    rotate_left
    · intro wq hq
      have c0 : wq.cell? ⟨w.heap.size + 1, 0, none⟩ = some (.int .u32 t.as_) := hq.2.2.cell 0
      first | (go_simp; done) | (go_simp; rfl)
    try simp only [Act.put, List.setIfInBounds_toArray, List.set_cons_zero, List.set_cons_succ]
    refine wpAnyH_take (i := 2) (oi := ⟨some 45, _, _, _, _, _⟩) (v := ?_) rfl (by kernel_rfl) (by kernel_rfl) (by kernel_rfl) (fun _ _ _ h => h) (Or.inl ⟨by rfl, ?_⟩) hS ?_
    rotate_left
    · intro wq hq
      first | (go_simp; done) | (go_simp; rfl)
    try simp only [Act.put, List.setIfInBounds_toArray, List.set_cons_zero, List.set_cons_succ]
    refine wpAnyH_take (i := 3) (oi := ⟨some 46, _, _, _, _, _⟩) (v := ?_) rfl (by kernel_rfl) (by kernel_rfl) (by kernel_rfl) (fun _ _ _ h => h) (Or.inl ⟨by rfl, ?_⟩) hS ?_
    rotate_left
    · intro wq hq
      have c0 : wq.cell? ⟨w.heap.size + 1, 2, none⟩ = some (.int .u32 t.id_) := hq.2.2.cell 2
      first | (go_simp; done) | (go_simp; rfl)
    try simp only [Act.put, List.setIfInBounds_toArray, List.set_cons_zero, List.set_cons_succ]
    refine wpAnyH_take (i := 4) (oi := ⟨some 47, _, _, _, _, _⟩) (v := ?_) rfl (by kernel_rfl) (by kernel_rfl) (by kernel_rfl) (fun _ _ _ h => h) (Or.inl ⟨by rfl, ?_⟩) hS ?_
    rotate_left
    · intro wq hq
      first | (go_simp; done) | (go_simp; rfl)
    try simp only [Act.put, List.setIfInBounds_toArray, List.set_cons_zero, List.set_cons_succ]
    refine wpAnyH_take (i := 5) (oi := ⟨some 48, _, _, _, _, _⟩) (v := ?_) rfl (by kernel_rfl) (by kernel_rfl) (by kernel_rfl) (fun _ _ _ h => h) (Or.inl ⟨by rfl, ?_⟩) hS ?_
    rotate_left
    · intro wq hq
      first | (go_simp; done) | (go_simp; rfl)
    try simp only [Act.put, List.setIfInBounds_toArray, List.set_cons_zero, List.set_cons_succ]
    refine wpAnyH_take (i := 7) (oi := ⟨some 50, _, _, _, _, _⟩) (v := ?_) rfl (by kernel_rfl) (by kernel_rfl) (by kernel_rfl) (fun _ _ _ h => h) (Or.inl ⟨by rfl, ?_⟩) hS ?_
    rotate_left
    · intro wq hq
      first | (go_simp; done) | (go_simp; rfl)
    try simp only [Act.put, List.setIfInBounds_toArray, List.set_cons_zero, List.set_cons_succ]
    refine wpAnyH_take (i := 8) (oi := ⟨some 51, _, _, _, _, _⟩) (v := ?_) rfl (by kernel_rfl) (by kernel_rfl) (by kernel_rfl) (fun _ _ _ h => h) (Or.inl ⟨by rfl, ?_⟩) hS ?_
    rotate_left
    · intro wq hq
      have c0 : wq.cell? ⟨w.heap.size, 5, none⟩ = some (.bool true) := by rw [← HRf.out]; exact hq.2.1.cell 5
      first | (go_simp; done) | (go_simp; rfl)
    try simp only [Act.put, List.setIfInBounds_toArray, List.set_cons_zero, List.set_cons_succ]
    refine wpAnyH_take (i := 14) (oi := ⟨some 57, _, _, _, _, _⟩) (v := ?_) rfl (by kernel_rfl) (by kernel_rfl) (by kernel_rfl) (fun _ _ _ h => h) (Or.inl ⟨by rfl, ?_⟩) hS ?_
    rotate_left
    · intro wq hq
      first | (go_simp; done) | (go_simp; rfl)
    try simp only [Act.put, List.setIfInBounds_toArray, List.set_cons_zero, List.set_cons_succ]
    generalize (((((w.alloc (.cells (hlc m).toArray 24)).alloc (.cells (hlc t).toArray 24)).alloc (.cells #[.int .u32 0, .int .u32 0, .int .i64 0, .int .i64 0, .bool false] 40)).alloc (.cells #[.int .i64 0, .int .i64 0, .slice none 0 0] 34))).drew = W0 at *
    clear HS HA HB HE a1 a2 a3 b0 b1 b2 b3
    have HS0 := Lib.hid hS.1
    refine wpAnyH_ready (rs := [6]) (by kernel_rfl) (by simp) ?_
    refine AllReadyH.cons (o := ⟨some 49, _, _, _, _, _⟩) rfl (fun K hK => ?_) AllReadyH.nil
    rw [if_pos (by rfl)]
    go_wp2_with fail
    refine (third_is W0 t.hold HBd.out).mono ?_
    rintro e W1 ⟨rfl, rfl⟩
    refine hK.out _ _ (hS) (fun hS => ?_)
    clear hK K
    try simp only [Act.put, List.setIfInBounds_toArray, List.set_cons_zero, List.set_cons_succ]
    refine wpAnyH_take (i := 9) (oi := ⟨some 52, _, _, _, _, _⟩) (v := ?_) rfl (by kernel_rfl) (by kernel_rfl) (by kernel_rfl) (fun _ _ _ h => h) (Or.inl ⟨by rfl, ?_⟩) hS ?_
    rotate_left
    · intro wq hq
      first | (go_simp; done) | (go_simp; rfl)
    try simp only [Act.put, List.setIfInBounds_toArray, List.set_cons_zero, List.set_cons_succ]
    refine wpAnyH_take (i := 10) (oi := ⟨some 53, _, _, _, _, _⟩) (v := ?_) rfl (by kernel_rfl) (by kernel_rfl) (by kernel_rfl) (fun _ _ _ h => h) (Or.inl ⟨by rfl, ?_⟩) hS ?_
    rotate_left
    · intro wq hq
      first | (go_simp; done) | (go_simp; rfl)
    try simp only [Act.put, List.setIfInBounds_toArray, List.set_cons_zero, List.set_cons_succ]
    refine wpAnyH_take (i := 11) (oi := ⟨some 54, _, _, _, _, _⟩) (v := ?_) rfl (by kernel_rfl) (by kernel_rfl) (by kernel_rfl) (fun _ _ _ h => h) (Or.inl ⟨by rfl, ?_⟩) hS ?_
    rotate_left
    · intro wq hq
      have c0 : wq.cell? ⟨w.heap.size + 1, 5, none⟩ = some (.bool t.rf) := hq.2.2.cell 5
      first | (go_simp; done) | (go_simp; rfl)
    try simp only [Act.put, List.setIfInBounds_toArray, List.set_cons_zero, List.set_cons_succ]
    refine wpAnyH_take (i := 12) (oi := ⟨some 55, _, _, _, _, _⟩) (v := ?_) rfl (by kernel_rfl) (by kernel_rfl) (by kernel_rfl) (fun _ _ _ h => h) (Or.inl ⟨by rfl, ?_⟩) hS ?_
    rotate_left
    · intro wq hq
      first | (go_simp; done) | (go_simp; rfl)
    try simp only [Act.put, List.setIfInBounds_toArray, List.set_cons_zero, List.set_cons_succ]
    refine wpAnyH_take (i := 13) (oi := ⟨some 56, _, _, _, _, _⟩) (v := ?_) rfl (by kernel_rfl) (by kernel_rfl) (by kernel_rfl) (fun _ _ _ h => h) (Or.inl ⟨by rfl, ?_⟩) hS ?_
    rotate_left
    · intro wq hq
      first | (go_simp; done) | (go_simp; rfl)
    try simp only [Act.put, List.setIfInBounds_toArray, List.set_cons_zero, List.set_cons_succ]
    obtain ⟨o1, k1, z1⟩ := hS.1.hb
    obtain ⟨o2, k2, z2⟩ := hS.1.fb
    refine wpAnyH_ready (rs := [15]) (by kernel_rfl) (by simp) ?_
    refine AllReadyH.cons (o := ⟨none, _, _, _, _, _⟩) rfl (fun K hK => ?_) AllReadyH.nil
    rw [if_pos (by rfl)]
    refine wp_store_row 40 _ _ rfl (w.heap.size + 1 + 1) (tmc ⟨t.as_, t.id_, t.hold, thd t.hold, t.rf⟩).toArray rfl rfl 40 _ k1 tsz (by rw [z1]; rfl) (tmc_one _) ?_
    refine hK.out _ _ ⟨hS.1.own1 (tmc ⟨t.as_, t.id_, t.hold, thd t.hold, t.rf⟩).toArray rfl, hS.2.1.setRow_other8 (by omega) _, hS.2.2.setRow_other8 (by omega) _⟩ (fun hS => ?_)
    clear hK K
    try simp only [Act.put, List.setIfInBounds_toArray, List.set_cons_zero, List.set_cons_succ]
    refine wpAnyH_ready (rs := [16]) (by kernel_rfl) (by simp) ?_
    refine AllReadyH.cons (o := ⟨none, _, _, _, _, _⟩) rfl (fun K hK => ?_) AllReadyH.nil
    rw [if_pos (by rfl)]
    refine wp_store_row 34 _ _ rfl (w.heap.size + 1 + 1 + 1) #[.int .i64 0, .int .i64 0, .slice none 0 0] rfl rfl 34 _ (k2.setRow_other8 (by omega) _) fsz (by rw [z2]; rfl) (by kernel_rfl) ?_
    refine hK.out _ _ ⟨hS.1.own2 #[.int .i64 0, .int .i64 0, .slice none 0 0] rfl, hS.2.1.setRow_other8 (by omega) _, hS.2.2.setRow_other8 (by omega) _⟩ (fun hS => ?_)
    clear hK K
    try simp only [Act.put, List.setIfInBounds_toArray, List.set_cons_zero, List.set_cons_succ]
    refine wpAnyH_take (i := 17) (oi := ⟨some 8, _, _, _, _, _⟩) (v := ?_) rfl (by kernel_rfl) (by kernel_rfl) (by kernel_rfl) (fun _ _ _ h => h) (Or.inl ⟨by rfl, ?_⟩) hS ?_
    rotate_left
    · intro wq hq
      first | (go_simp; done) | (go_simp; rfl)
    try simp only [Act.put, List.setIfInBounds_toArray, List.set_cons_zero, List.set_cons_succ]
    refine wpAnyH_done (by kernel_rfl) ?_ _
    clear hS k1 k2
    go_wp2
    try simp only [Exit.inBlock, Exit.then]
    exact tm_end rfl _ w W0 _ HS0.out ⟨t.as_, t.id_, t.hold, thd t.hold, t.rf⟩ 0 0 none 0 0 (.bool true) rfl rfl rfl rfl (fun hb => by rw [HOk.out]; exact ⟨hb, rfl⟩)
  | false =>
    have HOk : Hid (agreeR m t n = .ok ⟨t.as_, t.id_, t.hold, thd t.hold, false⟩) := Lib.hid (by rw [HJ.out, HMin.out, hrf]; rfl)
    have HRf := Lib.hid hrf
    clear hrf HJ
    go_enter Tryd.func19, Tryd.ntmps19
    go_wp2_with fail
    refine wp_region_held_drew (S := fun W => TmS w W (w.heap.size + 1 + 1) ∧ HlAt W w.heap.size m ∧ HlAt W (w.heap.size + 1) t) (by kernel_rfl) (⟨HS.out.below (below_drew8 _), HA.out.below (below_drew8 _) HA.out.lt, HB.out.below (below_drew8 _) HB.out.lt⟩) (fun hS => ?_)
    refine wpAnyH_take (i := 0) (oi := ⟨some 43, _, _, _, _, _⟩) (v := ?_) rfl (by kernel_rfl) (by kernel_rfl) (by kernel_rfl) (fun _ _ _ h => h) (Or.inl ⟨by rfl, ?_⟩) hS ?_
    rotate_left
    · intro wq hq
      first | (go_simp; done) | (go_simp; rfl)
    try simp only [Act.put, List.setIfInBounds_toArray, List.set_cons_zero, List.set_cons_succ]
    refine wpAnyH_take (i := 1) (oi := ⟨some 44, _, _, _, _, _⟩) (v := ?_) rfl (by kernel_rfl) (by kernel_rfl) (by kernel_rfl) (fun _ _ _ h => h) (Or.inl ⟨by rfl, ?_⟩) hS ?_
    rotate_left
    · intro wq hq
      have c0 : wq.cell? ⟨w.heap.size + 1, 0, none⟩ = some (.int .u32 t.as_) := hq.2.2.cell 0
      first | (go_simp; done) | (go_simp; rfl)
    try simp only [Act.put, List.setIfInBounds_toArray, List.set_cons_zero, List.set_cons_succ]
    refine wpAnyH_take (i := 2) (oi := ⟨some 45, _, _, _, _, _⟩) (v := ?_) rfl (by kernel_rfl) (by kernel_rfl) (by kernel_rfl) (fun _ _ _ h => h) (Or.inl ⟨by rfl, ?_⟩) hS ?_
    rotate_left
    · intro wq hq
      first | (go_simp; done) | (go_simp; rfl)
    try simp only [Act.put, List.setIfInBounds_toArray, List.set_cons_zero, List.set_cons_succ]
    refine wpAnyH_take (i := 3) (oi := ⟨some 46, _, _, _, _, _⟩) (v := ?_) rfl (by kernel_rfl) (by kernel_rfl) (by kernel_rfl) (fun _ _ _ h => h) (Or.inl ⟨by rfl, ?_⟩) hS ?_
    rotate_left
    · intro wq hq
      have c0 : wq.cell? ⟨w.heap.size + 1, 2, none⟩ = some (.int .u32 t.id_) := hq.2.2.cell 2
      first | (go_simp; done) | (go_simp; rfl)
    try simp only [Act.put, List.setIfInBounds_toArray, List.set_cons_zero, List.set_cons_succ]
    refine wpAnyH_take (i := 4) (oi := ⟨some 47, _, _, _, _, _⟩) (v := ?_) rfl (by kernel_rfl) (by kernel_rfl) (by kernel_rfl) (fun _ _ _ h => h) (Or.inl ⟨by rfl, ?_⟩) hS ?_
    rotate_left
    · intro wq hq
      first | (go_simp; done) | (go_simp; rfl)
    try simp only [Act.put, List.setIfInBounds_toArray, List.set_cons_zero, List.set_cons_succ]
    refine wpAnyH_take (i := 5) (oi := ⟨some 48, _, _, _, _, _⟩) (v := ?_) rfl (by kernel_rfl) (by kernel_rfl) (by kernel_rfl) (fun _ _ _ h => h) (Or.inl ⟨by rfl, ?_⟩) hS ?_
    rotate_left
    · intro wq hq
      first | (go_simp; done) | (go_simp; rfl)
    try simp only [Act.put, List.setIfInBounds_toArray, List.set_cons_zero, List.set_cons_succ]
    refine wpAnyH_take (i := 7) (oi := ⟨some 50, _, _, _, _, _⟩) (v := ?_) rfl (by kernel_rfl) (by kernel_rfl) (by kernel_rfl) (fun _ _ _ h => h) (Or.inl ⟨by rfl, ?_⟩) hS ?_
    rotate_left
    · intro wq hq
      first | (go_simp; done) | (go_simp; rfl)
    try simp only [Act.put, List.setIfInBounds_toArray, List.set_cons_zero, List.set_cons_succ]
    refine wpAnyH_take (i := 8) (oi := ⟨some 51, _, _, _, _, _⟩) (v := ?_) rfl (by kernel_rfl) (by kernel_rfl) (by kernel_rfl) (fun _ _ _ h => h) (Or.inl ⟨by rfl, ?_⟩) hS ?_
    rotate_left
    · intro wq hq
      have c0 : wq.cell? ⟨w.heap.size, 5, none⟩ = some (.bool false) := by rw [← HRf.out]; exact hq.2.1.cell 5
      first | (go_simp; done) | (go_simp; rfl)
    try simp only [Act.put, List.setIfInBounds_toArray, List.set_cons_zero, List.set_cons_succ]
    refine wpAnyH_take (i := 14) (oi := ⟨some 57, _, _, _, _, _⟩) (v := ?_) rfl (by kernel_rfl) (by kernel_rfl) (by kernel_rfl) (fun _ _ _ h => h) (Or.inl ⟨by rfl, ?_⟩) hS ?_
    rotate_left
    · intro wq hq
      first | (go_simp; done) | (go_simp; rfl)
    try simp only [Act.put, List.setIfInBounds_toArray, List.set_cons_zero, List.set_cons_succ]
    generalize (((((w.alloc (.cells (hlc m).toArray 24)).alloc (.cells (hlc t).toArray 24)).alloc (.cells #[.int .u32 0, .int .u32 0, .int .i64 0, .int .i64 0, .bool false] 40)).alloc (.cells #[.int .i64 0, .int .i64 0, .slice none 0 0] 34))).drew = W0 at *
    clear HS HA HB HE a1 a2 a3 b0 b1 b2 b3
    have HS0 := Lib.hid hS.1
    refine wpAnyH_ready (rs := [6]) (by kernel_rfl) (by simp) ?_
    refine AllReadyH.cons (o := ⟨some 49, _, _, _, _, _⟩) rfl (fun K hK => ?_) AllReadyH.nil
    rw [if_pos (by rfl)]
    go_wp2_with fail
    refine (third_is W0 t.hold HBd.out).mono ?_
    rintro e W1 ⟨rfl, rfl⟩
    refine hK.out _ _ (hS) (fun hS => ?_)
    clear hK K
    try simp only [Act.put, List.setIfInBounds_toArray, List.set_cons_zero, List.set_cons_succ]
    refine wpAnyH_take (i := 9) (oi := ⟨some 52, _, _, _, _, _⟩) (v := ?_) rfl (by kernel_rfl) (by kernel_rfl) (by kernel_rfl) (fun _ _ _ h => h) (Or.inl ⟨by rfl, ?_⟩) hS ?_
    rotate_left
    · intro wq hq
      first | (go_simp; done) | (go_simp; rfl)
    try simp only [Act.put, List.setIfInBounds_toArray, List.set_cons_zero, List.set_cons_succ]
    refine wpAnyH_take (i := 10) (oi := ⟨some 53, _, _, _, _, _⟩) (v := undef) rfl (by kernel_rfl) (by kernel_rfl) (by kernel_rfl) (fun _ _ _ h => h) (Or.inr ⟨by rfl, rfl⟩) hS ?_
    try simp only [Act.put, List.setIfInBounds_toArray, List.set_cons_zero, List.set_cons_succ]
    refine wpAnyH_take (i := 11) (oi := ⟨some 54, _, _, _, _, _⟩) (v := undef) rfl (by kernel_rfl) (by kernel_rfl) (by kernel_rfl) (fun _ _ _ h => h) (Or.inr ⟨by rfl, rfl⟩) hS ?_
    try simp only [Act.put, List.setIfInBounds_toArray, List.set_cons_zero, List.set_cons_succ]
    refine wpAnyH_take (i := 12) (oi := ⟨some 55, _, _, _, _, _⟩) (v := ?_) rfl (by kernel_rfl) (by kernel_rfl) (by kernel_rfl) (fun _ _ _ h => h) (Or.inl ⟨by rfl, ?_⟩) hS ?_
    rotate_left
    · intro wq hq
      first | (go_simp; done) | (go_simp; rfl)
    try simp only [Act.put, List.setIfInBounds_toArray, List.set_cons_zero, List.set_cons_succ]
    refine wpAnyH_take (i := 13) (oi := ⟨some 56, _, _, _, _, _⟩) (v := ?_) rfl (by kernel_rfl) (by kernel_rfl) (by kernel_rfl) (fun _ _ _ h => h) (Or.inl ⟨by rfl, ?_⟩) hS ?_
    rotate_left
    · intro wq hq
      first | (go_simp; done) | (go_simp; rfl)
    try simp only [Act.put, List.setIfInBounds_toArray, List.set_cons_zero, List.set_cons_succ]
    obtain ⟨o1, k1, z1⟩ := hS.1.hb
    obtain ⟨o2, k2, z2⟩ := hS.1.fb
    refine wpAnyH_ready (rs := [15]) (by kernel_rfl) (by simp) ?_
    refine AllReadyH.cons (o := ⟨none, _, _, _, _, _⟩) rfl (fun K hK => ?_) AllReadyH.nil
    rw [if_pos (by rfl)]
    refine wp_store_row 40 _ _ rfl (w.heap.size + 1 + 1) (tmc ⟨t.as_, t.id_, t.hold, thd t.hold, false⟩).toArray rfl rfl 40 _ k1 tsz (by rw [z1]; rfl) (tmc_one _) ?_
    refine hK.out _ _ ⟨hS.1.own1 (tmc ⟨t.as_, t.id_, t.hold, thd t.hold, false⟩).toArray rfl, hS.2.1.setRow_other8 (by omega) _, hS.2.2.setRow_other8 (by omega) _⟩ (fun hS => ?_)
    clear hK K
    try simp only [Act.put, List.setIfInBounds_toArray, List.set_cons_zero, List.set_cons_succ]
    refine wpAnyH_ready (rs := [16]) (by kernel_rfl) (by simp) ?_
    refine AllReadyH.cons (o := ⟨none, _, _, _, _, _⟩) rfl (fun K hK => ?_) AllReadyH.nil
    rw [if_pos (by rfl)]
    refine wp_store_row 34 _ _ rfl (w.heap.size + 1 + 1 + 1) #[.int .i64 0, .int .i64 0, .slice none 0 0] rfl rfl 34 _ (k2.setRow_other8 (by omega) _) fsz (by rw [z2]; rfl) (by kernel_rfl) ?_
    refine hK.out _ _ ⟨hS.1.own2 #[.int .i64 0, .int .i64 0, .slice none 0 0] rfl, hS.2.1.setRow_other8 (by omega) _, hS.2.2.setRow_other8 (by omega) _⟩ (fun hS => ?_)
    clear hK K
    try simp only [Act.put, List.setIfInBounds_toArray, List.set_cons_zero, List.set_cons_succ]
    refine wpAnyH_take (i := 17) (oi := ⟨some 8, _, _, _, _, _⟩) (v := ?_) rfl (by kernel_rfl) (by kernel_rfl) (by kernel_rfl) (fun _ _ _ h => h) (Or.inl ⟨by rfl, ?_⟩) hS ?_
    rotate_left
    · intro wq hq
      first | (go_simp; done) | (go_simp; rfl)
    try simp only [Act.put, List.setIfInBounds_toArray, List.set_cons_zero, List.set_cons_succ]
    refine wpAnyH_done (by kernel_rfl) ?_ _
    clear hS k1 k2
    go_wp2
    try simp only [Exit.inBlock, Exit.then]
    exact tm_end rfl _ w W0 _ HS0.out ⟨t.as_, t.id_, t.hold, thd t.hold, false⟩ 0 0 none 0 0 (.bool true) rfl rfl rfl rfl (fun hb => by rw [HOk.out]; exact ⟨hb, rfl⟩)
end Go.Proofs.YtgfjjkckamppoaaDoor
