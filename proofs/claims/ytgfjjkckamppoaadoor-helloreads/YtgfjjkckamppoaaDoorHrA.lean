/-
  Words for slices of attributes, freed of layer 5 (the text is that of AtR).
-/
import Derived.Test.YtgfjjkckamppoaaDoorHeF
import Derived.Test.YtgfjjkckamppoaaDoorOctI
import Derived.Maps.AppendAt
import Derived.OwnWalk
import Derived.Laws.AppendOwnNone
namespace Go.Proofs.YtgfjjkckamppoaaDoor
open Go.RowKit
set_option maxRecDepth 100000
set_option linter.unusedSimpArgs false
set_option linter.unusedVariables false

/-- An attribute: flags, kind, value. -/
abbrev Raw := Int × Int × List Int
theorem info_raw : (Tryd.prog.info? 77).map (fun i => (i.zero, i.size, i.bytes)) = some (some (.agg #[.int .i64 0, .int .i64 0, .slice none 0 0]), 3, 40) := by kernel_rfl
theorem row_ne {w : World} {i j : Nat} {t u : TypeId} {a b : Array Value} (h : w.heap[i]? = some (.cells a t (0, 0))) (k : w.heap[j]? = some (.cells b u (0, 0))) (hne : t ≠ u) : i ≠ j := by
  rintro rfl
  rw [h] at k
  injection k with k
  injection k with _ k
  exact hne k
theorem rsz : (Tryd.prog.info? 77).map (·.size) = some 3 := by kernel_rfl
theorem raw_store {ops : Array Oper} {rest : List Oper} {o : Oper} {a : Act} {w : World} {Q : Exit → Act → World → Prop} (hgd : o.guard = none) (x y : Operand) (ho : o.op = .store 77 x y) (g : Nat) (f k : Int) (A : Option Addr) (n c : Nat)
    (hx : a.eval x = .pointer (some ⟨g, 0, none⟩)) (hy : a.eval y = .agg #[.int .i64 f, .int .i64 k, .slice A n c]) (t : TypeId) (old : Array Value) (hg : Blk w g t old) (hold : old.size = 3)
    (h : wpList Tryd.prog ops Q rest (a.put o.dst undef) (w.setRow g #[.int .i64 f, .int .i64 k, .slice A n c])) : wpList Tryd.prog ops Q (o :: rest) a w :=
  wpList_store_row hgd 77 x y ho g _ hx hy t old hg rsz (by rw [hold]; rfl) (by kernel_rfl) h
theorem raw_fetch {ops : Array Oper} {rest : List Oper} {op : Oper} {a : Act} {w : World} {Q : Exit → Act → World → Prop} (hw : Region.wanted op (yielded ops a.tmps) = true) (x : Operand) (ho : op.op = .load 77 x) (b o : Nat) (f k : Int) (A : Option Addr) (n c : Nat)
    (hx : a.eval x = .pointer (some ⟨b, o, none⟩)) (h0 : w.cell? ⟨b, o, none⟩ = some (.int .i64 f)) (h1 : w.cell? ⟨b, o + 1, none⟩ = some (.int .i64 k)) (h2 : w.cell? ⟨b, o + 2, none⟩ = some (.slice A n c))
    (h : wpList Tryd.prog ops Q rest (a.put op.dst (.agg #[.int .i64 f, .int .i64 k, .slice A n c])) w) : wpList Tryd.prog ops Q (op :: rest) a w :=
  BigFrame.wpList_want hw fun _ hK => wp_load_mid 77 x ho b o hx [.int .i64 f, .int .i64 k, .slice A n c] _ (fun j v hv => by
    match j, hv with
    | 0, hv => injection hv with hv; subst hv; exact h0
    | 1, hv => injection hv with hv; subst hv; exact h1
    | 2, hv => injection hv with hv; subst hv; exact h2
    | j + 3, hv => simp at hv) Tryd.underlying77 rfl rsz (hK _ _ h)

/-- The cells of attributes; Bd says how a value lies. -/
structure Rs (Bd : Option Addr → Nat → List Int → Prop) (cs : List Value) (rs : List Raw) : Prop where
  len : cs.length = rs.length * 3
  at_ : ∀ i (h : i < rs.length), cs[i * 3]? = some (.int .i64 rs[i].1) ∧ cs[i * 3 + 1]? = some (.int .i64 rs[i].2.1) ∧ ∃ A n c, cs[i * 3 + 2]? = some (.slice A n c) ∧ Bd A n rs[i].2.2
section
variable {Bd Bd' : Option Addr → Nat → List Int → Prop} {cs cs' : List Value} {rs rs' : List Raw}
theorem Rs.nil_ : Rs Bd [] [] := ⟨rfl, fun i h => absurd h (by simp)⟩
theorem Rs.imp (h : Rs Bd cs rs) (k : ∀ A n l, Bd A n l → Bd' A n l) : Rs Bd' cs rs :=
  ⟨h.len, fun i hi => by
    obtain ⟨h0, h1, A, n, c, h2, h3⟩ := h.at_ i hi
    exact ⟨h0, h1, A, n, c, h2, k _ _ _ h3⟩⟩
theorem Rs.app (h : Rs Bd cs rs) (h' : Rs Bd cs' rs') : Rs Bd (cs ++ cs') (rs ++ rs') := by
  refine ⟨by rw [List.length_append, List.length_append, h.len, h'.len, Nat.add_mul], fun i hi => ?_⟩
  have hl := h.len
  rcases Nat.lt_or_ge i rs.length with hlt | hge
  · obtain ⟨h0, h1, A, n, c, h2, h3⟩ := h.at_ i hlt
    refine ⟨by rw [List.getElem?_append_left (by omega), List.getElem_append_left hlt]; exact h0, by rw [List.getElem?_append_left (by omega), List.getElem_append_left hlt]; exact h1, A, n, c, by rw [List.getElem?_append_left (by omega)]; exact h2, by rw [List.getElem_append_left hlt]; exact h3⟩
  · have hi' : i - rs.length < rs'.length := by rw [List.length_append] at hi; omega
    obtain ⟨h0, h1, A, n, c, h2, h3⟩ := h'.at_ (i - rs.length) hi'
    refine ⟨by rw [List.getElem?_append_right (by omega), List.getElem_append_right hge, ← h0]; congr 1; omega, by rw [List.getElem?_append_right (by omega), List.getElem_append_right hge, ← h1]; congr 1; omega, A, n, c, by rw [List.getElem?_append_right (by omega), ← h2]; congr 1; omega, by rw [List.getElem_append_right hge]; exact h3⟩
theorem Rs.one {f k : Int} {A : Option Addr} {n c : Nat} {b : List Int} (h : Bd A n b) : Rs Bd [.int .i64 f, .int .i64 k, .slice A n c] [(f, k, b)] :=
  ⟨rfl, fun i hi => by
    obtain rfl : i = 0 := by simp at hi; omega
    exact ⟨rfl, rfl, A, n, c, rfl, h⟩⟩
end

/-- A value in new memory (more may stand behind it in its block). -/
def BodyN (lo : Nat) (w : World) (A : Option Addr) (n : Nat) (l : List Int) : Prop :=
  Oct l ∧ l.length = n ∧ (n = 0 ∨ ∃ i e, A = some ⟨i, 0, none⟩ ∧ lo ≤ i ∧ Byt w i 5 (l ++ e) ∧ Oct e)
theorem BodyN.keep {lo : Nat} {w w' : World} {A : Option Addr} {n : Nat} {l : List Int} (h : BodyN lo w A n l) (hk : ∀ i c, w.heap[i]? = some (.cells c 5 (0, 0)) → lo ≤ i → w'.heap[i]? = w.heap[i]?) : BodyN lo w' A n l :=
  ⟨h.1, h.2.1, h.2.2.imp id fun ⟨i, e, a, b, d, f⟩ => ⟨i, e, a, b, (hk i _ d b).trans d, f⟩⟩
theorem BodyN.rd {lo : Nat} {w : World} {A : Option Addr} {n : Nat} {l : List Int} (h : BodyN lo w A n l) : Rd w w.heap.size A n l := by
  obtain ⟨ho, hl, rfl | ⟨g, e, rfl, _, hb, he⟩⟩ := h
  · obtain rfl : l = [] := List.eq_nil_of_length_eq_zero hl
    exact Rd.nil_ A
  · have := hb.rd (fun x hx => (List.mem_append.1 hx).elim (ho x) (he x)) (k := n) (by simp; omega) hb.lt
    rwa [List.take_append_of_le_length (by omega), List.take_of_length_le (by omega)] at this
theorem New.body {lo : Nat} {w w' : World} {A : Option Addr} {n : Nat} {l : List Int} (h : New 5 w w' A n l) (hl : lo ≤ w.heap.size) : BodyN lo w' A n l :=
  ⟨h.1, h.2.1, h.2.2.imp id fun ⟨g, a, b, c⟩ => ⟨g, [], a, by omega, by rw [List.append_nil]; exact c, fun x h => by cases h⟩⟩

/-- Attributes in new memory. -/
def OwnR (lo : Nat) (w : World) (v : Value) (rs : List Raw) : Prop := ∃ cs, w.ownsRow lo 77 3 v rs.length cs ∧ Rs (BodyN lo w) cs rs
theorem OwnR.nil_ (lo : Nat) (w : World) : OwnR lo w (.slice none 0 0) [] := ⟨[], World.ownsRow_nil _ _ _ _, Rs.nil_⟩
theorem OwnR.keep {lo : Nat} {w w' : World} {v : Value} {rs : List Raw} (h : OwnR lo w v rs) (hk : ∀ i c t, w.heap[i]? = some (.cells c t (0, 0)) → lo ≤ i → (t = 77 ∨ t = 5) → w'.heap[i]? = w.heap[i]?) : OwnR lo w' v rs := by
  obtain ⟨cs, h1, h2⟩ := h
  exact ⟨cs, own_keep h1 fun i c hi hb _ => hk i c _ hi hb (.inl rfl), h2.imp fun A n l hb => hb.keep fun i c hi hlo => hk i c _ hi hlo (.inr rfl)⟩
theorem OwnR.below {lo : Nat} {w w' : World} {v : Value} {rs : List Raw} (h : OwnR lo w v rs) (hb : Below w.heap.size w w') : OwnR lo w' v rs :=
  h.keep fun i c t hi _ _ => hb.block i (Array.getElem?_eq_some_iff.1 hi).1
theorem OwnR.low {lo lo' : Nat} {w : World} {v : Value} {rs : List Raw} (h : OwnR lo w v rs) (hl : lo' ≤ lo) : OwnR lo' w v rs := by
  obtain ⟨cs, h1, h2⟩ := h
  exact ⟨cs, own_low h1 hl, h2.imp fun A n l hb => ⟨hb.1, hb.2.1, hb.2.2.imp id fun ⟨i, e, a, b, d⟩ => ⟨i, e, a, by omega, d⟩⟩⟩

/-- A slice of attributes that reads as rs. -/
structure RdR (w : World) (B : Nat) (A : Option Addr) (n : Nat) (rs : List Raw) : Prop where
  len : rs.length = n
  at_ : 0 < n → ∃ b off, A = some ⟨b, off, none⟩ ∧ b < B ∧ ∀ i (h : i < rs.length), ∃ A1 n1 c1, w.cell? ⟨b, off + i * 3, none⟩ = some (.int .i64 rs[i].1) ∧ w.cell? ⟨b, off + i * 3 + 1, none⟩ = some (.int .i64 rs[i].2.1) ∧ w.cell? ⟨b, off + i * 3 + 2, none⟩ = some (.slice A1 n1 c1) ∧ Rd w B A1 n1 rs[i].2.2
theorem RdR.nil_ {w : World} {B : Nat} (A : Option Addr) : RdR w B A 0 [] := ⟨rfl, fun h => absurd h (by omega)⟩
theorem RdR.below {w w' : World} {B n : Nat} {A : Option Addr} {rs : List Raw} (h : RdR w B A n rs) (hb : Below B w w') : RdR w' B A n rs :=
  ⟨h.len, fun hn => by
    obtain ⟨b, off, e, hlt, hc⟩ := h.at_ hn
    refine ⟨b, off, e, hlt, fun i hi => ?_⟩
    obtain ⟨A1, n1, c1, h0, h1, h2, h3⟩ := hc i hi
    exact ⟨A1, n1, c1, (hb.cell (p := ⟨b, off + i * 3, none⟩) hlt).trans h0, (hb.cell (p := ⟨b, off + i * 3 + 1, none⟩) hlt).trans h1, (hb.cell (p := ⟨b, off + i * 3 + 2, none⟩) hlt).trans h2, h3.below hb⟩⟩
theorem RdR.more {w : World} {B B' n : Nat} {A : Option Addr} {rs : List Raw} (h : RdR w B A n rs) (hb : B ≤ B') : RdR w B' A n rs :=
  ⟨h.len, fun hn => by
    obtain ⟨b, off, e, hlt, hc⟩ := h.at_ hn
    refine ⟨b, off, e, by omega, fun i hi => ?_⟩
    obtain ⟨A1, n1, c1, h0, h1, h2, h3⟩ := hc i hi
    exact ⟨A1, n1, c1, h0, h1, h2, h3.more hb⟩⟩
theorem OwnR.rd {lo : Nat} {w : World} {v : Value} {rs : List Raw} (h : OwnR lo w v rs) : ∃ A c, v = .slice A rs.length c ∧ RdR w w.heap.size A rs.length rs := by
  obtain ⟨cs, h1, h2⟩ := h
  rcases h1.2 with ⟨rfl, hn⟩ | ⟨g, cap, cur, rfl, hb, hg, hnc, hcm, hcs, hx⟩
  · exact ⟨none, 0, by rw [hn], ⟨rfl, fun hp => by omega⟩⟩
  · refine ⟨_, cap, rfl, ⟨rfl, fun _ => ⟨g, 0, rfl, (Array.getElem?_eq_some_iff.1 hg).1, fun i hi => ?_⟩⟩⟩
    have hcell : ∀ j u, cs[j]? = some u → w.cell? ⟨g, j, none⟩ = some u := by
      intro j u hu
      rw [← hx, List.getElem?_take] at hu
      split at hu
      · simp only [World.cell?, hg]
        rw [← Array.getElem?_toList]
        exact hu
      · cases hu
    obtain ⟨k0, k1, A1, n1, c1, k2, k3⟩ := h2.at_ i hi
    refine ⟨A1, n1, c1, ?_, ?_, ?_, k3.rd⟩
    · rw [Nat.zero_add]; exact hcell _ _ k0
    · rw [Nat.zero_add]; exact hcell _ _ k1
    · rw [Nat.zero_add]; exact hcell _ _ k2

/-- append of one attribute (its value in new memory). -/
theorem app_raw_wp {o : Oper} {a : Act} {K : Act → World → Prop} {Q : Exit → Act → World → Prop} (s x : Operand)
    (ho : o.op = .call { callee := .builtin .append, args := #[s, x], argTypes := #[73, 73] }) {lo : Nat} {w : World} {v : Value} {T : List Raw} (h : OwnR lo w v T) (hlo : lo ≤ w.heap.size) (hlen : T.length ≤ 3000000000000)
    {f k : Int} {A : Option Addr} {n c : Nat} {body : List Int} (hb : BodyN lo w A n body) (hs : a.eval s = v) (hx : a.eval x = .slice (some ⟨w.heap.size, 0, none⟩) 1 1)
    (hk : ∀ v' w', OwnR lo w' v' (T ++ [(f, k, body)]) → w.grownBy w' v.ownBlock → (∀ i, v.ownBlock = some i → lo ≤ i ∧ ∃ c, w.heap[i]? = some (.cells c 77 (0, 0))) → K (a.put o.dst v') w') :
    o.wp Tryd.prog a (w.alloc (.cells #[.int .i64 f, .int .i64 k, .slice A n c] 77)) K Q := by
  obtain ⟨i, hi, hz0, hz1, hz2⟩ := info_parts info_raw
  obtain ⟨cs, h1, h2⟩ := h
  have hB := Blk.new w 77 #[.int .i64 f, .int .i64 k, .slice A n c]
  obtain ⟨v', w', hrun, hown, hgr, _, _⟩ := run_append_own_at (P := Tryd.prog) (w.alloc (.cells #[.int .i64 f, .int .i64 k, .slice A n c] 77)) lo 73 o.type 77 i _ 3 40 Tryd.underlying73 hi hz0 hz1 hz2 rfl (by decide) v T.length cs (h1.alloc _) ⟨w.heap.size, 0, none⟩ 1 1 [.int .i64 f, .int .i64 k, .slice A n c] rfl (by
      intro j u hu
      rw [show ((⟨w.heap.size, 0, none⟩ : Addr).add j) = ⟨w.heap.size, j, none⟩ from by unfold Addr.add; split <;> simp_all, hB.cell]
      simpa using hu) (by
      intro u hu
      simp only [List.mem_cons, List.mem_nil_iff, or_false] at hu
      rcases hu with rfl | rfl | rfl <;> rfl) (by unfold maxLen; omega) (by omega) (by simp; omega)
  have hold : ∀ i, v.ownBlock = some i → lo ≤ i ∧ ∃ c, w.heap[i]? = some (.cells c 77 (0, 0)) := fun i hi => ⟨(h1.lt i hi).1, own_heap h1 hi⟩
  have hg2 : w.grownBy w' v.ownBlock := ⟨hgr.os, hgr.tape, hgr.output, Nat.le_trans (by simp) hgr.size, fun j hj hne => (hgr.block j (by simp; omega) hne).trans (Below.heap_alloc _ _ _ hj)⟩
  have hkeep : ∀ A n l, BodyN lo w A n l → BodyN lo w' A n l := fun A n l hb => hb.keep fun j c hj _ => hg2.block j (Array.getElem?_eq_some_iff.1 hj).1 (fun e => by
    obtain ⟨_, c', hc'⟩ := hold j e.symm
    exact row_ne hj hc' (by decide) rfl)
  unfold Oper.wp execOp
  simp only [ho, resolve, invoke, builtin, Sem.run_bind, Sem.run_pure, Result.andThen_ok, List.map_toArray, List.map_cons, List.map_nil, hs, hx, hrun]
  exact hk v' w' ⟨_, by simpa using hown, (h2.imp hkeep).app (Rs.one (hkeep _ _ _ hb))⟩ hg2 hold
theorem app_raw {ops : Array Oper} {rest : List Oper} {o : Oper} {a : Act} {Q : Exit → Act → World → Prop} (hgd : o.guard = none) (s x : Operand)
    (ho : o.op = .call { callee := .builtin .append, args := #[s, x], argTypes := #[73, 73] }) {lo : Nat} {w : World} {v : Value} {T : List Raw} (h : OwnR lo w v T) (hlo : lo ≤ w.heap.size) (hlen : T.length ≤ 3000000000000)
    {f k : Int} {A : Option Addr} {n c : Nat} {body : List Int} (hb : BodyN lo w A n body) (hs : a.eval s = v) (hx : a.eval x = .slice (some ⟨w.heap.size, 0, none⟩) 1 1)
    (hk : ∀ v' w', OwnR lo w' v' (T ++ [(f, k, body)]) → w.grownBy w' v.ownBlock → (∀ i, v.ownBlock = some i → lo ≤ i ∧ ∃ c, w.heap[i]? = some (.cells c 77 (0, 0))) → wpList Tryd.prog ops Q rest (a.put o.dst v') w') :
    wpList Tryd.prog ops Q (o :: rest) a (w.alloc (.cells #[.int .i64 f, .int .i64 k, .slice A n c] 77)) :=
  wpList_plain hgd fun _ hK => app_raw_wp s x ho h hlo hlen hb hs hx fun v' w' h1 h2 h3 => hK _ _ (hk v' w' h1 h2 h3)
end Go.Proofs.YtgfjjkckamppoaaDoor
