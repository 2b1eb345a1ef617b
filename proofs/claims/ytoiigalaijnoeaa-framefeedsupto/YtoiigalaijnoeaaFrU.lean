/-
  The document's answer, layer 3: words for its streams; New, Waits; appends from whatever source.
-/
import Derived.Test.YtoiigalaijnoeaaFrT
import Derived.Test.YtoiigalaijnoeaaFrQ
namespace Go.Proofs.Ytoiigalaijnoeaa
open Go.RowKit
set_option linter.unusedSimpArgs false
set_option linter.unusedVariables false

def RStrB (w : World) (g : Nat) (bv : Value) (code sub : Int) (dv : Value) (br : Bool) : Prop := Blk w g 61 #[bv, .int .i64 code, .int .i64 sub, dv, .bool br]
structure RWait (w : World) (g : Nat) (q : Option Nat) (c : List Int) : Prop where
  ex : ∃ bv code sub dv, RStrB w g bv code sub dv false ∧ w.ownsRow 0 5 1 bv c.length (u8s c) ∧ bv.ownBlock = q
  quiet : Quiet c
  oct : Oct c
def RBad (w : World) (g : Nat) (q : Option Nat) (f : Flt) : Prop :=
  ∃ A n, RStrB w g (.slice none 0 0) f.code f.sub (.slice A n n) true ∧ Oct f.data ∧ f.data.length = n ∧ (n = 0 ∨ ∃ i, A = some ⟨i, 0, none⟩ ∧ q = some i ∧ Byt w i 5 f.data) ∧ ∀ i, q = some i → i < w.heap.size
def RIsS (w : World) (g : Nat) (q : Option Nat) : St → Prop
  | .wait c => RWait w g q c
  | .bad f => RBad w g q f
theorem RIsS.kept {w w' : World} {g : Nat} {q : Option Nat} {st : St} (h : RIsS w g q st) (hs : w.heap.size ≤ w'.heap.size) (hk : ∀ i, i < w.heap.size → (i = g ∨ q = some i) → w'.heap[i]? = w.heap[i]?) : RIsS w' g q st := by
  cases st with
  | wait c =>
    obtain ⟨cv, code, sub, dv, hS, hO, hB⟩ := h.ex
    exact ⟨⟨cv, code, sub, dv, (hk g (Blk.lt hS) (.inl rfl)).trans hS, own_keep hO fun i c hi _ hv => hk i (Array.getElem?_eq_some_iff.1 hi).1 (.inr (hB.symm.trans hv)), hB⟩, h.quiet, h.oct⟩
  | bad f =>
    obtain ⟨A, n, hS, h1, h2, h3, h4⟩ := h
    exact ⟨A, n, (hk g (Blk.lt hS) (.inl rfl)).trans hS, h1, h2, h3.imp id fun ⟨i, a, b, c⟩ => ⟨i, a, b, (hk i c.lt (.inr b)).trans c⟩, fun i e => Nat.lt_of_lt_of_le (h4 i e) hs⟩
theorem RIsS.below {w w' : World} {g : Nat} {q : Option Nat} {st : St} (h : RIsS w g q st) (hb : Below w.heap.size w w') : RIsS w' g q st := h.kept hb.size fun i hi _ => hb.block i hi
theorem RIsS.lt {w : World} {g : Nat} {q : Option Nat} {st : St} (h : RIsS w g q st) : g < w.heap.size ∧ ∀ i, q = some i → i < w.heap.size := by
  cases st with
  | wait c =>
    obtain ⟨cv, _, _, _, hS, hO, hB⟩ := h.ex
    exact ⟨Blk.lt hS, fun i e => (hO.lt i (hB.trans e)).2⟩
  | bad f =>
    obtain ⟨_, _, hS, _, _, _, h4⟩ := h
    exact ⟨Blk.lt hS, h4⟩

def RNew (w : World) (e : Ending) (w' : World) : Prop :=
  e = .returned (.pointer (some ⟨w.heap.size, 0, none⟩)) ∧ RWait w' w.heap.size none [] ∧ Below w.heap.size w w' ∧ w'.heap.size = w.heap.size + 1
theorem rnew_is (w : World) : Calls Try.prog 19 #[] w (RNew w) := by
  go_enter Try.func19, Try.ntmps19
  go_wp2
  go_ret
  exact ⟨rfl, ⟨⟨_, 0, 0, _, Blk.new w _ _, World.ownsRow_nil _ _ _ _, rfl⟩, Quiet.nil_, oct_nil⟩, (Below.refl _ _).alloc (Nat.le_refl _) _, by simp⟩
theorem rwaits_is (w : World) (g : Nat) (A : Option Addr) (n c : Nat) (code sub : Int) (dv : Value) (br : Bool) (h : RStrB w g (.slice A n c) code sub dv br) :
    Calls Try.prog 27 #[.pointer (some ⟨g, 0, none⟩)] w fun e w' => e = .returned (.int .i64 n) ∧ w = w' := by
  have c0 : w.cell? ⟨g, 0, none⟩ = some (.slice A n c) := Blk.cell h 0
  clear h
  go_enter Try.func27, Try.ntmps27
  go_wp2
  go_ret
  exact ⟨rfl, rfl⟩
theorem rwaits_any (w : World) (g : Nat) (q : Option Nat) (st : St) (h : RIsS w g q st) : Calls Try.prog 27 #[.pointer (some ⟨g, 0, none⟩)] w fun e w' => e = .returned (.int .i64 (waitsN st)) ∧ w = w' := by
  cases st with
  | wait c =>
    obtain ⟨cv, code, sub, dv, hS, hO, _⟩ := h.ex
    obtain ⟨A, k, rfl, _⟩ := own_at hO h.oct
    exact rwaits_is w g A c.length k code sub dv false hS
  | bad f =>
    obtain ⟨A, n, hS, _⟩ := h
    exact rwaits_is w g none 0 0 _ _ _ true hS

/-- append of bytes out of whatever source onto a row of the call's own. -/
theorem run_app_any (w : World) (lo : Nat) (ty : TypeId) (v : Value) (P : List Int) (h : w.ownsRow lo 5 1 v P.length (u8s P)) (hlo : lo ≤ w.heap.size) (A : Option Addr) (m c : Nat) (news : List Int) (hr : Rd w w.heap.size A m news) (hlen : P.length + m ≤ 140737488355328) :
    ∃ v' w', (Builtin.append_ #[22, 22] ty #[v, .slice A m c]).run Try.prog w = .ok v' w' ∧ w'.ownsRow lo 5 1 v' (P ++ news).length (u8s (P ++ news)) ∧ w.grownBy w' v.ownBlock ∧ (v'.ownBlock = v.ownBlock ∨ v'.ownBlock = some w.heap.size) := by
  obtain ⟨i, hi, hz0, hz1, hz2⟩ := info_parts info_byte
  have hl := hr.len
  cases A with
  | none =>
    have hm : m = 0 := by
      rcases Nat.eq_zero_or_pos m with h0 | h0
      · exact h0
      · obtain ⟨_, _, e, _⟩ := hr.at_ h0
        cases e
    subst hm
    obtain rfl : news = [] := List.eq_nil_of_length_eq_zero hl
    refine ⟨v, w, ?_, by rw [List.append_nil]; exact h, only_refl w _, .inl rfl⟩
    rcases h.2 with ⟨rfl, hn⟩ | ⟨g, cap, cur, rfl, _, _, hnc, _⟩
    · simp [Builtin.append_, run_underlying Try.underlying22, sizeOf, typeInfo, hi, Builtin.lenOf, Builtin.firstCells]
    · simp [Builtin.append_, run_underlying Try.underlying22, sizeOf, typeInfo, hi, Builtin.lenOf, Builtin.firstCells, hnc, storeCells]
  | some ad =>
    have hsrc : ∀ j y, (u8s news)[j]? = some y → w.cell? (ad.add j) = some y := by
      rcases Nat.eq_zero_or_pos m with h0 | h0
      · subst h0
        obtain rfl : news = [] := List.eq_nil_of_length_eq_zero hl
        intro j y hy
        simp at hy
      · obtain ⟨b0, off, e, hb, hc⟩ := hr.at_ h0
        injection e with e
        subst e
        exact src_u8 hl hc
    subst hl
    obtain ⟨v', w', hrun, h2, h3, _, h5⟩ := run_append_own_at (P := Try.prog) w lo 22 ty 5 i (.int .u8 0) 1 1 Try.underlying22 hi hz0 hz1 hz2 rfl (by decide) v P.length (u8s P) h ad news.length c (u8s news) (by simp) hsrc (one_u8 news)
      (by unfold maxLen; omega) (by omega) hlo
    refine ⟨v', w', hrun, ?_, h3, h5⟩
    rw [List.length_append, show u8s (P ++ news) = u8s P ++ u8s news from List.map_append]
    exact h2
theorem app_any_wp {o : Oper} {a : Act} {K : Act → World → Prop} {Q : Exit → Act → World → Prop} (s x : Operand) (ho : o.op = .call { callee := .builtin .append, args := #[s, x], argTypes := #[22, 22] })
    {lo : Nat} {w : World} {v : Value} {P : List Int} (h : w.ownsRow lo 5 1 v P.length (u8s P)) (hlo : lo ≤ w.heap.size) {A : Option Addr} {m c : Nat} {news : List Int} (hr : Rd w w.heap.size A m news) (hlen : P.length + m ≤ 140737488355328)
    (hs : a.eval s = v) (hx : a.eval x = .slice A m c)
    (hk : ∀ v' w', w'.ownsRow lo 5 1 v' (P ++ news).length (u8s (P ++ news)) → w.grownBy w' v.ownBlock → (v'.ownBlock = v.ownBlock ∨ v'.ownBlock = some w.heap.size) → K (a.put o.dst v') w') : o.wp Try.prog a w K Q := by
  obtain ⟨v', w', hrun, h2, h3, h5⟩ := run_app_any w lo o.type v P h hlo A m c news hr hlen
  unfold Oper.wp execOp
  simp only [ho, resolve, invoke, builtin, Sem.run_bind, Sem.run_pure, Result.andThen_ok, List.map_toArray, List.map_cons, List.map_nil, hs, hx, hrun]
  exact hk v' w' h2 h3 h5
theorem app_any {ops : Array Oper} {rest : List Oper} {o : Oper} {a : Act} {Q : Exit → Act → World → Prop} (hgd : o.guard = none) (s x : Operand) (ho : o.op = .call { callee := .builtin .append, args := #[s, x], argTypes := #[22, 22] })
    {lo : Nat} {w : World} {v : Value} {P : List Int} (h : w.ownsRow lo 5 1 v P.length (u8s P)) (hlo : lo ≤ w.heap.size) {A : Option Addr} {m c : Nat} {news : List Int} (hr : Rd w w.heap.size A m news) (hlen : P.length + m ≤ 140737488355328)
    (hs : a.eval s = v) (hx : a.eval x = .slice A m c)
    (hk : ∀ v' w', w'.ownsRow lo 5 1 v' (P ++ news).length (u8s (P ++ news)) → w.grownBy w' v.ownBlock → (v'.ownBlock = v.ownBlock ∨ v'.ownBlock = some w.heap.size) → wpList Try.prog ops Q rest (a.put o.dst v') w') : wpList Try.prog ops Q (o :: rest) a w :=
  wpList_plain hgd fun _ hK => app_any_wp s x ho h hlo hr hlen hs hx fun v' w' h2 h3 h5 => hK _ _ (hk v' w' h2 h3 h5)

/-- An empty slice in a block of its own. -/
theorem own_empty (w : World) (lo : Nat) (hlo : lo ≤ w.heap.size) : (w.alloc (.cells #[] 5)).ownsRow lo 5 1 (.slice (some ⟨w.heap.size, 0, none⟩) 0 0) ([] : List Int).length (u8s []) :=
  World.ownsRow_made w #[] 0 hlo (by unfold maxLen; omega) rfl
theorem grown_below {w w' : World} {lo : Nat} {r : Option Nat} (h : w.grownBy w' r) (hlo : lo ≤ w.heap.size) (hr : ∀ i, r = some i → lo ≤ i) : Below lo w w' := (Below.refl lo w).grown h hlo hr

set_option maxHeartbeats 1000000 in
theorem rfault_wait (w : World) (g : Nat) (q : Option Nat) (c : List Int) (h : RWait w g q c) : Calls Try.prog 23 #[.pointer (some ⟨g, 0, none⟩)] w (Faulted w (.wait c)) := by
  obtain ⟨cv, code, sub, dv, hS, hO, _⟩ := h.ex
  have c4 : w.cell? ⟨g, 4, none⟩ = some (.bool false) := Blk.cell hS 4
  have hg := Blk.lt hS
  clear hS hO h
  go_enter Try.func23, Try.ntmps23
  go_wp2
  refine bodyPost_ret (v := .tuple #[.agg #[.int .i64 0, .int .i64 0, .slice none 0 0], .bool false]) (by simp [results, Try.results23, go_sem]) rfl ⟨_, _, rfl, Fresh.none_, ?_⟩
  exact (Below.refl _ _).alloc (Nat.le_refl _) _

/-- A fault with its data somewhere. -/
def RFaulted (w : World) (st : St) (e : Ending) (w' : World) : Prop :=
  ∃ A n c, e = .returned (.tuple #[.agg #[.int .i64 (fltOf st).code, .int .i64 (fltOf st).sub, .slice A n c], .bool (badB st)]) ∧ Rd w' w'.heap.size A n (fltOf st).data ∧ Below w.heap.size w w'
set_option maxHeartbeats 2000000 in
set_option maxRecDepth 100000 in
theorem rfault_bad (w : World) (g : Nat) (q : Option Nat) (f : Flt) (h : RBad w g q f) (hl : f.data.length ≤ 2) : Calls Try.prog 23 #[.pointer (some ⟨g, 0, none⟩)] w (RFaulted w (.bad f)) := by
  obtain ⟨A, n, hS, ho, hn, hd, _⟩ := h
  have hrd : Rd w w.heap.size A n f.data := by
    rcases hd with rfl | ⟨i, rfl, _, hb⟩
    · obtain h0 : f.data = [] := List.eq_nil_of_length_eq_zero hn
      rw [h0]
      exact Rd.nil_ A
    · subst hn
      exact hb.rd_all ho hb.lt
  have c4 : w.cell? ⟨g, 4, none⟩ = some (.bool true) := Blk.cell hS 4
  have HS := Lib.hid hS
  have hg := Blk.lt hS
  have HN := Lib.hid hn
  have HRd := Lib.hid hrd
  have HO := Lib.hid ho
  have hn2 : n ≤ 2 := by omega
  clear hS hd hrd hn ho
  have HW1 : Hid (Below w.heap.size w (w.alloc (.cells flt0 43))) := Lib.hid ((Below.refl _ _).alloc (Nat.le_refl _) _)
  have HB1 : Hid (Blk (w.alloc (.cells flt0 43)) w.heap.size 43 flt0) := Lib.hid (Blk.new w _ _)
  have hsz : w.heap.size < (w.alloc (.cells flt0 43)).heap.size := by simp
  go_enter Try.func23, Try.ntmps23
  go_wp2
  generalize w.alloc (.cells flt0 43) = w1 at *
  have HC : Hid (∀ W, Below w.heap.size w W → (W.cell? ⟨g, 1, none⟩ = some (.int .i64 f.code) ∧ W.cell? ⟨g, 2, none⟩ = some (.int .i64 f.sub) ∧ W.cell? ⟨g, 3, none⟩ = some (.slice A n n))) := Lib.hid fun W hW => by
    have h1 : RStrB W g (.slice none 0 0) f.code f.sub (.slice A n n) true := Blk.below HS.out hW hg
    exact ⟨Blk.cell h1 1, Blk.cell h1 2, Blk.cell h1 3⟩
  clear c4
  refine wp_region_held_drew (S := fun W => Below w.heap.size w W) (by kernel_rfl) (below_drewN HW1.out 1) (fun hS => ?_)
  refine wpAnyH_take (i := 0) (oi := ⟨some 14, _, _, _, _, _⟩) (v := ?_) rfl (by kernel_rfl) (by kernel_rfl) (by kernel_rfl) (fun _ _ _ h => h) (Or.inl ⟨by rfl, ?_⟩) hS ?_
  rotate_left
  · intro wq hq
    first | (go_simp; done) | (go_simp; rfl)
  try simp only [Act.put, List.setIfInBounds_toArray, List.set_cons_zero, List.set_cons_succ]
  refine wpAnyH_take (i := 1) (oi := ⟨some 15, _, _, _, _, _⟩) (v := ?_) rfl (by kernel_rfl) (by kernel_rfl) (by kernel_rfl) (fun _ _ _ h => h) (Or.inl ⟨by rfl, ?_⟩) hS ?_
  rotate_left
  · intro wq hq
    first | (go_simp; done) | (go_simp; rfl)
  try simp only [Act.put, List.setIfInBounds_toArray, List.set_cons_zero, List.set_cons_succ]
  refine wpAnyH_take (i := 2) (oi := ⟨some 16, _, _, _, _, _⟩) (v := ?_) rfl (by kernel_rfl) (by kernel_rfl) (by kernel_rfl) (fun _ _ _ h => h) (Or.inl ⟨by rfl, ?_⟩) hS ?_
  rotate_left
  · intro wq hq
    first | (go_simp; done) | (go_simp; rfl)
  try simp only [Act.put, List.setIfInBounds_toArray, List.set_cons_zero, List.set_cons_succ]
  refine wpAnyH_take (i := 3) (oi := ⟨some 17, _, _, _, _, _⟩) (v := ?_) rfl (by kernel_rfl) (by kernel_rfl) (by kernel_rfl) (fun _ _ _ h => h) (Or.inl ⟨by rfl, ?_⟩) hS ?_
  rotate_left
  · intro wq hq
    first | (go_simp; done) | (go_simp; rfl)
  try simp only [Act.put, List.setIfInBounds_toArray, List.set_cons_zero, List.set_cons_succ]
  refine wpAnyH_take (i := 4) (oi := ⟨some 18, _, _, _, _, _⟩) (v := ?_) rfl (by kernel_rfl) (by kernel_rfl) (by kernel_rfl) (fun _ _ _ h => h) (Or.inl ⟨by rfl, ?_⟩) hS ?_
  rotate_left
  · intro wq hq
    have hc := (HC.out wq hq).1
    first | (go_simp; done) | (go_simp; rfl)
  try simp only [Act.put, List.setIfInBounds_toArray, List.set_cons_zero, List.set_cons_succ]
  refine wpAnyH_take (i := 5) (oi := ⟨some 19, _, _, _, _, _⟩) (v := ?_) rfl (by kernel_rfl) (by kernel_rfl) (by kernel_rfl) (fun _ _ _ h => h) (Or.inl ⟨by rfl, ?_⟩) hS ?_
  rotate_left
  · intro wq hq
    first | (go_simp; done) | (go_simp; rfl)
  try simp only [Act.put, List.setIfInBounds_toArray, List.set_cons_zero, List.set_cons_succ]
  refine wpAnyH_take (i := 6) (oi := ⟨some 20, _, _, _, _, _⟩) (v := ?_) rfl (by kernel_rfl) (by kernel_rfl) (by kernel_rfl) (fun _ _ _ h => h) (Or.inl ⟨by rfl, ?_⟩) hS ?_
  rotate_left
  · intro wq hq
    first | (go_simp; done) | (go_simp; rfl)
  try simp only [Act.put, List.setIfInBounds_toArray, List.set_cons_zero, List.set_cons_succ]
  refine wpAnyH_take (i := 7) (oi := ⟨some 21, _, _, _, _, _⟩) (v := ?_) rfl (by kernel_rfl) (by kernel_rfl) (by kernel_rfl) (fun _ _ _ h => h) (Or.inl ⟨by rfl, ?_⟩) hS ?_
  rotate_left
  · intro wq hq
    first | (go_simp; done) | (go_simp; rfl)
  try simp only [Act.put, List.setIfInBounds_toArray, List.set_cons_zero, List.set_cons_succ]
  refine wpAnyH_take (i := 8) (oi := ⟨some 22, _, _, _, _, _⟩) (v := ?_) rfl (by kernel_rfl) (by kernel_rfl) (by kernel_rfl) (fun _ _ _ h => h) (Or.inl ⟨by rfl, ?_⟩) hS ?_
  rotate_left
  · intro wq hq
    first | (go_simp; done) | (go_simp; rfl)
  try simp only [Act.put, List.setIfInBounds_toArray, List.set_cons_zero, List.set_cons_succ]
  refine wpAnyH_take (i := 9) (oi := ⟨some 23, _, _, _, _, _⟩) (v := ?_) rfl (by kernel_rfl) (by kernel_rfl) (by kernel_rfl) (fun _ _ _ h => h) (Or.inl ⟨by rfl, ?_⟩) hS ?_
  rotate_left
  · intro wq hq
    have hc := (HC.out wq hq).2.1
    first | (go_simp; done) | (go_simp; rfl)
  try simp only [Act.put, List.setIfInBounds_toArray, List.set_cons_zero, List.set_cons_succ]
  refine wpAnyH_take (i := 11) (oi := ⟨some 25, _, _, _, _, _⟩) (v := ?_) rfl (by kernel_rfl) (by kernel_rfl) (by kernel_rfl) (fun _ _ _ h => h) (Or.inl ⟨by rfl, ?_⟩) hS ?_
  rotate_left
  · intro wq hq
    first | (go_simp; done) | (go_simp; rfl)
  try simp only [Act.put, List.setIfInBounds_toArray, List.set_cons_zero, List.set_cons_succ]
  refine wpAnyH_take (i := 12) (oi := ⟨some 26, _, _, _, _, _⟩) (v := ?_) rfl (by kernel_rfl) (by kernel_rfl) (by kernel_rfl) (fun _ _ _ h => h) (Or.inl ⟨by rfl, ?_⟩) hS ?_
  rotate_left
  · intro wq hq
    first | (go_simp; done) | (go_simp; rfl)
  try simp only [Act.put, List.setIfInBounds_toArray, List.set_cons_zero, List.set_cons_succ]
  refine wpAnyH_take (i := 13) (oi := ⟨some 27, _, _, _, _, _⟩) (v := ?_) rfl (by kernel_rfl) (by kernel_rfl) (by kernel_rfl) (fun _ _ _ h => h) (Or.inl ⟨by rfl, ?_⟩) hS ?_
  rotate_left
  · intro wq hq
    first | (go_simp; done) | (go_simp; rfl)
  try simp only [Act.put, List.setIfInBounds_toArray, List.set_cons_zero, List.set_cons_succ]
  refine wpAnyH_take (i := 14) (oi := ⟨some 28, _, _, _, _, _⟩) (v := ?_) rfl (by kernel_rfl) (by kernel_rfl) (by kernel_rfl) (fun _ _ _ h => h) (Or.inl ⟨by rfl, ?_⟩) hS ?_
  rotate_left
  · intro wq hq
    first | (go_simp; done) | (go_simp; rfl)
  try simp only [Act.put, List.setIfInBounds_toArray, List.set_cons_zero, List.set_cons_succ]
  refine wpAnyH_take (i := 15) (oi := ⟨some 29, _, _, _, _, _⟩) (v := ?_) rfl (by kernel_rfl) (by kernel_rfl) (by kernel_rfl) (fun _ _ _ h => h) (Or.inl ⟨by rfl, ?_⟩) hS ?_
  rotate_left
  · intro wq hq
    have hc := (HC.out wq hq).2.2
    first | (go_simp; done) | (go_simp; rfl)
  try simp only [Act.put, List.setIfInBounds_toArray, List.set_cons_zero, List.set_cons_succ]
  refine wpAnyH_ready (rs := [10]) (by kernel_rfl) (by simp) ?_
  refine AllReadyH.cons (o := ⟨some 24, _, _, _, _, _⟩) rfl (fun K hK => ?_) AllReadyH.nil
  rw [if_pos (by rfl)]
  go_wp2
  have HW2 : Hid (Below w.heap.size w ((w1.drew).alloc (.cells #[] 5))) := Lib.hid (hS.alloc hS.size _)
  have HE2 := Lib.hid (own_empty w1.drew w1.heap.size (Nat.le_refl _))
  have HB2 : Hid (Blk ((w1.drew).alloc (.cells #[] 5)) w.heap.size 43 flt0) := Lib.hid (Blk.alloc (w := w1.drew) HB1.out _)
  refine hK.out _ _ HW2.out (fun hS => ?_)
  clear hK K
  try simp only [Act.put, List.setIfInBounds_toArray, List.set_cons_zero, List.set_cons_succ]
  refine wpAnyH_ready (rs := [16]) (by kernel_rfl) (by simp) ?_
  refine AllReadyH.cons (o := ⟨some 30, _, _, _, _, _⟩) rfl (fun K hK => ?_) AllReadyH.nil
  rw [if_pos (by rfl)]
  refine app_any_wp (lo := w1.heap.size) (w := (w1.drew).alloc (.cells #[] 5)) (P := []) (A := A) (m := n) (c := n) (news := f.data) _ _ rfl HE2.out (by simp) ((HRd.out.below HW2.out).more HW2.out.size) (by simp; omega) rfl rfl ?_
  intro v3 w3 ho3 hg3 _
  rw [List.nil_append] at ho3
  obtain ⟨A3, k3, rfl, _, hr3, _⟩ := own_at ⟨ho3.1, ho3.2.imp id fun ⟨g, cap, cur, h1, _, h3⟩ => ⟨g, cap, cur, h1, Nat.zero_le _, h3⟩⟩ HO.out
  have hlo3 : ∀ i, Value.ownBlock (.slice (some ⟨w1.heap.size, 0, none⟩) 0 0) = some i → w1.heap.size ≤ i := by
    intro i e
    simp [Value.ownBlock] at e
    omega
  have hW3 : Below w.heap.size w w3 := HW2.out.grown hg3 HW2.out.size (fun i e => by have := hlo3 i e; omega)
  have hB3 : Blk w3 w.heap.size 43 flt0 := HB2.out.grown hg3 (fun e => by have := hlo3 _ e.symm; omega)
  have r0 : w3.cell? ⟨w.heap.size, 0, none⟩ = some (.int .i64 0) := hB3.cell 0
  have r1 : w3.cell? ⟨w.heap.size, 1, none⟩ = some (.int .i64 0) := hB3.cell 1
  have r2 : w3.cell? ⟨w.heap.size, 2, none⟩ = some (.slice none 0 0) := hB3.cell 2
  have s0 : w3.frozen? ⟨w.heap.size, 0, none⟩ = false := hB3.frozen 0
  have s1 : w3.frozen? ⟨w.heap.size, 1, none⟩ = false := hB3.frozen 1
  have s2 : w3.frozen? ⟨w.heap.size, 2, none⟩ = false := hB3.frozen 2
  have HR3 := Lib.hid hr3
  have HW3 := Lib.hid hW3
  have HO3 := Lib.hid ho3
  refine hK.out _ _ hW3 (fun hS => ?_)
  clear hK K hr3 hg3 ho3 hB3 hW3
  try simp only [Act.put, List.setIfInBounds_toArray, List.set_cons_zero, List.set_cons_succ]
  refine wpAnyH_take (i := 17) (oi := ⟨some 31, _, _, _, _, _⟩) (v := ?_) rfl (by kernel_rfl) (by kernel_rfl) (by kernel_rfl) (fun _ _ _ h => h) (Or.inl ⟨by rfl, ?_⟩) hS ?_
  rotate_left
  · intro wq hq
    first | (go_simp; done) | (go_simp; rfl)
  try simp only [Act.put, List.setIfInBounds_toArray, List.set_cons_zero, List.set_cons_succ]
  refine wpAnyH_ready (rs := [18]) (by kernel_rfl) (by simp) ?_
  refine AllReadyH.cons (o := ⟨none, _, _, _, _, _⟩) rfl (fun K hK => ?_) AllReadyH.nil
  rw [if_pos (by rfl)]
  go_wp2
  have HW4 : Hid (Below w.heap.size w (((w3.setCell ⟨w.heap.size, 0, none⟩ (.int .i64 f.code)).setCell ⟨w.heap.size, 1, none⟩ (.int .i64 f.sub)).setCell ⟨w.heap.size, 2, none⟩ (.slice A3 f.data.length k3))) := Lib.hid (((HW3.out.setCell (p := ⟨w.heap.size, 0, none⟩) (Nat.le_refl _) _).setCell (p := ⟨w.heap.size, 1, none⟩) (Nat.le_refl _) _).setCell (p := ⟨w.heap.size, 2, none⟩) (Nat.le_refl _) _)
  refine hK.out _ _ HW4.out (fun hS => ?_)
  clear hK K
  try simp only [Act.put, List.setIfInBounds_toArray, List.set_cons_zero, List.set_cons_succ]
  refine wpAnyH_take (i := 19) (oi := ⟨some 3, _, _, _, _, _⟩) (v := ?_) rfl (by kernel_rfl) (by kernel_rfl) (by kernel_rfl) (fun _ _ _ h => h) (Or.inl ⟨by rfl, ?_⟩) hS ?_
  rotate_left
  · intro wq hq
    first | (go_simp; done) | (go_simp; rfl)
  try simp only [Act.put, List.setIfInBounds_toArray, List.set_cons_zero, List.set_cons_succ]
  refine wpAnyH_done (by kernel_rfl) ?_ _
  go_wp2
  refine bodyPost_ret (v := .tuple #[.agg #[.int .i64 f.code, .int .i64 f.sub, .slice A3 f.data.length k3], .bool true]) (by simp [results, Try.results23, go_sem, r0, r1, r2]) rfl ?_
  refine ⟨A3, f.data.length, k3, rfl, ⟨rfl, HO.out, fun hp => ?_⟩, HW4.out⟩
  obtain ⟨b3, off3, e3, hb3, hc3⟩ := HR3.out.at_ hp
  refine ⟨b3, off3, e3, by simpa [World.setCell] using hb3, fun i hi => ?_⟩
  have hne : b3 ≠ w.heap.size := by
    subst e3
    have := (HO3.out.lt b3 rfl).1
    omega
  rw [World.cell?_of_block (w := w3) (a := ⟨b3, off3 + i, none⟩) (heap_far3 _ _ _ hne _ _ _)]
  exact hc3 i hi

theorem rfault_any (w : World) (g : Nat) (q : Option Nat) (st : St) (h : RIsS w g q st) (hf : Fine st) : Calls Try.prog 23 #[.pointer (some ⟨g, 0, none⟩)] w (RFaulted w st) := by
  cases st with
  | wait c =>
    refine (rfault_wait w g q c h).mono ?_
    rintro e w' ⟨A, n, rfl, h1, h2⟩
    exact ⟨A, n, n, rfl, h1.rd, h2⟩
  | bad f => exact rfault_bad w g q f h hf.2.1
end Go.Proofs.Ytoiigalaijnoeaa
