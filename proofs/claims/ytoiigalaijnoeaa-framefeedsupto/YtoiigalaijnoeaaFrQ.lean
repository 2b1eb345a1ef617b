/-
  Layer 3: bytes that come in pieces: what a loop over pieces carries on.
-/
import Derived.Test.YtoiigalaijnoeaaFrJ
namespace Go.Proofs.Ytoiigalaijnoeaa
open Go.RowKit
set_option linter.unusedSimpArgs false
set_option linter.unusedVariables false

/-- Block q, if there is one, is a row of bytes. -/
def QT (w : World) (q : Option Nat) : Prop := ∀ i, q = some i → ∃ c, w.heap[i]? = some (.cells c 5 (0, 0))

theorem Told.less {lo : Nat} {w : World} {q : Option Nat} {v : Value} {T : List Msg} (h : Told lo w q v T) : Told lo w none v T := by
  obtain ⟨cs, h1, h2⟩ := h
  exact ⟨cs, h1, h2.imp fun A n l hb => ⟨hb.1, hb.2.1, hb.2.2.imp id fun ⟨i, a, b, _, d⟩ => ⟨i, a, b, by simp, d⟩⟩⟩
theorem Told.low {lo lo' : Nat} {w : World} {q : Option Nat} {v : Value} {T : List Msg} (h : Told lo w q v T) (hl : lo' ≤ lo) : Told lo' w q v T := by
  obtain ⟨cs, h1, h2⟩ := h
  refine ⟨cs, ⟨h1.1, h1.2.imp id ?_⟩, h2.imp fun A n l hb => ⟨hb.1, hb.2.1, hb.2.2.imp id fun ⟨i, a, b, c, d⟩ => ⟨i, a, by omega, c, d⟩⟩⟩
  rintro ⟨i, cap, cur, hv, hb, rest⟩
  exact ⟨i, cap, cur, hv, by omega, rest⟩
/-- Told, kept: rows of messages and of bytes stay but for block q. -/
theorem Told.kept {lo : Nat} {w w' : World} {q q' : Option Nat} {v : Value} {T : List Msg} (h : Told lo w q v T)
    (hk : ∀ i c t, w.heap[i]? = some (.cells c t (0, 0)) → lo ≤ i → (t = 24 ∨ (t = 5 ∧ some i ≠ q)) → w'.heap[i]? = w.heap[i]? ∧ (t = 5 → some i ≠ q')) : Told lo w' q' v T := by
  obtain ⟨cs, h1, h2⟩ := h
  refine ⟨cs, own_keep h1 fun i c hi hb hv => (hk i c _ hi hb (.inl rfl)).1, h2.imp fun A n l hb => ⟨hb.1, hb.2.1, hb.2.2.imp id ?_⟩⟩
  rintro ⟨i, a, b, c, d⟩
  have := hk i _ _ d b (.inr ⟨rfl, c⟩)
  exact ⟨i, a, b, this.2 rfl, this.1.trans d⟩
/-- A stream, kept: its rows of bytes and its own block stay. -/
theorem IsS.keptT {w w' : World} {g : Nat} {q d : Option Nat} {st : St} (h : IsS w g q d st) (hk : ∀ i c t, w.heap[i]? = some (.cells c t (0, 0)) → (t = 59 ∧ i = g) ∨ (t = 5 ∧ (q = some i ∨ d = some i)) → w'.heap[i]? = w.heap[i]?) : IsS w' g q d st := by
  cases st with
  | wait c =>
    obtain ⟨cv, code, sub, dv, hS, hO, hB⟩ := h.ex
    exact ⟨⟨cv, code, sub, dv, (hk g _ _ hS (.inl ⟨rfl, rfl⟩)).trans hS, own_keep hO fun i c hi _ hv => hk i c _ hi (.inr ⟨rfl, .inl (hB.symm.trans hv)⟩), hB⟩, h.quiet, h.oct⟩
  | bad f =>
    obtain ⟨A, n, hS, h1, h2, h3⟩ := h
    exact ⟨A, n, (hk g _ _ hS (.inl ⟨rfl, rfl⟩)).trans hS, h1, h2, h3.imp id fun ⟨i, a, b, c⟩ => ⟨i, a, b, (hk i _ _ c (.inr ⟨rfl, .inr b⟩)).trans c⟩⟩
theorem IsS.qt {w : World} {g : Nat} {q d : Option Nat} {C : List Int} (h : IsS w g q d (.wait C)) : QT w q := by
  obtain ⟨cv, code, sub, dv, hS, hO, rfl⟩ := h.ex
  exact fun i hi => own_heap hO hi

/-- What Feed answers, with all that a loop wants. -/
def FedT (w : World) (g : Nat) (q d : Option Nat) (st : St) (b : List Int) (e : Ending) (w' : World) : Prop :=
  ∃ (v : Value) (q' d' : Option Nat), e = .returned v ∧ Told w.heap.size w' q' v (feed st b).1 ∧ IsS w' g q' d' (feed st b).2 ∧ QT w' q' ∧ At w.heap.size q q' ∧ At w.heap.size d d' ∧ Fr g q w w'
set_option maxHeartbeats 1000000 in
set_option maxRecDepth 100000 in
theorem feed_zero (w : World) (g : Nat) (A : Option Addr) (c : Nat) : Calls Try.prog 20 #[.pointer (some ⟨g, 0, none⟩), .slice A 0 c] w fun e w' => e = .returned (.slice none 0 0) ∧ w = w' := by
  go_enter Try.func20, Try.ntmps20
  go_wp2
  refine wp_loop_rounds 1 ?_
  rw [rounds_succ]
  go_wp2
  go_ret
  exact ⟨rfl, rfl⟩
theorem fedT_of {w w' : World} {g : Nat} {q d : Option Nat} {st : St} {b : List Int} {e : Ending} (h : FedS w g q d st b e w') : FedT w g q d st b e w' := by
  obtain ⟨v, q', d', rfl, h1, h2, h3, h4, h5⟩ := h
  cases hs : (feed st b).2 with
  | wait C =>
    rw [hs] at h2
    exact ⟨v, q', d', rfl, h1, by rw [hs]; exact h2, h2.qt, h3, h4, h5⟩
  | bad f =>
    rw [hs] at h2
    exact ⟨v, none, d', rfl, h1.less, by rw [hs]; exact h2, (fun i e => by cases e), .inr (.inl rfl), h4, h5⟩
theorem feed_all (w : World) (g : Nat) (q d : Option Nat) (st : St) (b : List Int) (A : Option Addr) (n c : Nat) (hn : b.length = n) (h : IsS w g q d st) (hF : Fine st) (hr : Rd w w.heap.size A n b) (hc : n ≤ c) (hA : 0 < n → ∀ i off, A = some ⟨i, off, none⟩ → i ≠ g ∧ some i ≠ q) (hm : n ≤ 4000000000000) :
    Calls Try.prog 20 #[.pointer (some ⟨g, 0, none⟩), .slice A n c] w (FedT w g q d st b) := by
  subst hn
  rcases Nat.eq_zero_or_pos b.length with h0 | h0
  · obtain rfl : b = [] := List.eq_nil_of_length_eq_zero h0
    refine (feed_zero w g A c).mono ?_
    rintro e w' ⟨rfl, rfl⟩
    refine fedT_of ⟨_, q, d, rfl, ?_, ?_, .inl rfl, .inl rfl, Fr.refl _ _ _⟩
    · rw [feed_nil hF]; exact ⟨[], World.ownsRow_nil _ _ _ _, Ms.nil_⟩
    · rw [feed_nil hF]; exact h
  · refine (feed_any w g q d st b A c h hr hc (hA h0) hm).mono ?_
    exact fun e w' h => fedT_of h

/-- append of what was told onto what was told before. -/
theorem app_two {ops : Array Oper} {rest : List Oper} {o : Oper} {a : Act} {Q : Exit → Act → World → Prop} (hgd : o.guard = none) (s x : Operand)
    (ho : o.op = .call { callee := .builtin .append, args := #[s, x], argTypes := #[40, 40] }) {lo lo2 : Nat} {w : World} {q : Option Nat} {v u : Value} {T U : List Msg} (h : Told lo w q v T) (h2 : Told lo2 w q u U) (hl : lo ≤ lo2) (hlw : lo ≤ w.heap.size)
    (hlen : T.length + U.length ≤ 4000000000000) (hs : a.eval s = v) (hx : a.eval x = u)
    (hk : ∀ v' w', Told lo w' q v' (T ++ U) → w.grownBy w' v.ownBlock → (∀ i, v.ownBlock = some i → lo ≤ i ∧ ∃ c, w.heap[i]? = some (.cells c 24 (0, 0))) → wpList Try.prog ops Q rest (a.put o.dst v') w') :
    wpList Try.prog ops Q (o :: rest) a w := by
  obtain ⟨i, hi, hz0, hz1, hz2⟩ := info_parts info_msg
  obtain ⟨cs, h1, hM⟩ := h
  obtain ⟨cs2, h3, hM2⟩ := h2.low hl
  have hold : ∀ i, v.ownBlock = some i → lo ≤ i ∧ ∃ c, w.heap[i]? = some (.cells c 24 (0, 0)) := fun i hi => ⟨(h1.lt i hi).1, own_heap h1 hi⟩
  rcases h3.2 with ⟨rfl, hn⟩ | ⟨g2, cap, cur, rfl, hb2, hg2, hnc, hcm, hcs, hx2⟩
  · obtain rfl : U = [] := List.eq_nil_of_length_eq_zero hn
    refine wpList_append_own_none hgd s x 40 ho lo 24 i 2 Try.underlying40 hi v T.length cs hs h1 hx (hk v w (by rw [List.append_nil]; exact ⟨cs, h1, hM⟩) (only_refl w _) hold)
  · have hsrc : ∀ j y, cs2[j]? = some y → w.cell? ((⟨g2, 0, none⟩ : Addr).add j) = some y := h3.cells (g := g2) rfl
    refine wpList_append_own_at _ hgd s x 40 ho lo 24 i _ 2 32 Try.underlying40 hi hz0 hz1 hz2 rfl (by decide) v T.length cs hs h1 ⟨g2, 0, none⟩ U.length cap cs2 hx h3.1 hsrc hM2.cells_one (by unfold maxLen; omega) (by omega) hlw ?_
    intro v' w' hown hgr _ _
    refine hk v' w' ⟨_, by simpa using hown, ?_⟩ hgr hold
    have hkeep : ∀ A n l, BodyAt lo w q A n l → BodyAt lo w' q A n l := fun A n l hb => ⟨hb.1, hb.2.1, hb.2.2.imp id fun ⟨j, a1, a2, a3, a4⟩ => ⟨j, a1, a2, a3, (hgr.block j a4.lt (fun e => by
      obtain ⟨_, c, hc⟩ := hold j e.symm
      exact row_ne a4 hc (by decide) rfl)).trans a4⟩⟩
    exact (hM.imp hkeep).app (hM2.imp hkeep)

/-- A stream to which the first m bytes of b have come in pieces; what it told lies in y. -/
def PcRel (w3 : World) (g : Nat) (b : List Int) (m : Nat) (y : Value) (wr : World) : Prop :=
  ∃ Y qr dr st, IsS wr g qr dr st ∧ Fine st ∧ QT wr qr ∧ Told w3.heap.size wr qr y Y ∧ Fr g none w3 wr ∧ At w3.heap.size none qr ∧ At w3.heap.size none dr ∧ feed (.wait []) (b.take m) = (Y, st)

theorem At.trans {lo lo2 : Nat} {q q' q'' : Option Nat} (h : At lo q q') (k : At lo2 q' q'') (hl : lo ≤ lo2) : At lo q q'' := by
  rcases k with rfl | rfl | ⟨i, rfl, hi⟩
  · exact h
  · exact .inr (.inl rfl)
  · exact .inr (.inr ⟨i, rfl, by omega⟩)
theorem At.ge {lo : Nat} {q : Option Nat} (h : At lo none q) : ∀ i, q = some i → lo ≤ i := by
  rcases h with rfl | rfl | ⟨j, rfl, hj⟩
  · intro i e; cases e
  · intro i e; cases e
  · intro i e; injection e with e; omega

theorem pc_start {w3 : World} {g : Nat} {b : List Int} (h : Waiting w3 g none []) : PcRel w3 g b 0 (.slice none 0 0) w3 :=
  ⟨[], none, none, .wait [], h, ⟨Quiet.nil_, oct_nil⟩, (fun i e => by cases e), ⟨[], World.ownsRow_nil _ _ _ _, Ms.nil_⟩, Fr.refl _ _ _, .inl rfl, .inl rfl, by rw [List.take_zero]; exact feed_nil ⟨Quiet.nil_, oct_nil⟩⟩

/-- Behind the Feed of a piece: both rows of messages, the stream, the frame. -/
structure PcMid (w3 : World) (g : Nat) (b : List Int) (m n : Nat) (y v : Value) (wr w' : World) : Prop where
  ex : ∃ Y U q d st, feed (.wait []) (b.take (m + n)) = (Y ++ U, st) ∧ Told w3.heap.size w' q y Y ∧ Told wr.heap.size w' q v U ∧ IsS w' g q d st ∧ Fine st ∧ QT w' q ∧ At w3.heap.size none q ∧ At w3.heap.size none d ∧ Fr g none w3 w' ∧ Y.length + U.length ≤ b.length

theorem pc_fed {w3 wr w' : World} {g : Nat} {b : List Int} {m n : Nat} {y v : Value} {Y : List Msg} {qr dr q' d' : Option Nat} {st : St} (hg3 : g < w3.heap.size) (hob : Oct b)
    (hI : IsS wr g qr dr st) (hF : Fine st) (hQ : QT wr qr) (hT : Told w3.heap.size wr qr y Y) (hFr : Fr g none w3 wr) (hq : At w3.heap.size none qr) (hd : At w3.heap.size none dr) (hp : feed (.wait []) (b.take m) = (Y, st))
    (h1 : Told wr.heap.size w' q' v (feed st ((b.drop m).take n)).1) (h2 : IsS w' g q' d' (feed st ((b.drop m).take n)).2) (h3 : QT w' q') (h4 : At wr.heap.size qr q') (h5 : At wr.heap.size dr d') (h6 : Fr g qr wr w') : PcMid w3 g b m n y v wr w' := by
  have hpiece : feed (.wait []) (b.take (m + n)) = (Y ++ (feed st ((b.drop m).take n)).1, (feed st ((b.drop m).take n)).2) := by
    rw [List.take_add, feed_app, hp]
  have hq3 := hq.ge
  have hcount : Y.length + (feed st ((b.drop m).take n)).1.length ≤ b.length := by
    have h := parse_count (b.take (m + n))
    have e : (parse (b.take (m + n))).1 = Y ++ (feed st ((b.drop m).take n)).1 := congrArg Prod.fst hpiece
    rw [e, List.length_append] at h
    have : (b.take (m + n)).length ≤ b.length := List.length_take_le' _ _
    omega
  refine ⟨Y, _, q', d', _, hpiece, ?_, h1, h2, (feed_fine hF (oct_take (oct_drop hob m) n)).1, h3, hq.trans h4 hFr.size, hd.trans h5 hFr.size, ?_, hcount⟩
  · refine hT.kept fun i c t hi hlo ht => ?_
    have hlt : i < wr.heap.size := (Array.getElem?_eq_some_iff.1 hi).1
    have hne : some i ≠ qr := by
      rcases ht with rfl | ⟨_, h⟩
      · intro e
        obtain ⟨c', hc'⟩ := hQ i e.symm
        exact row_ne hi hc' (by decide) rfl
      · exact h
    refine ⟨h6.block i hlt (by omega) hne, fun _ => ?_⟩
    rcases h4 with rfl | rfl | ⟨j, rfl, hj⟩
    · exact hne
    · simp
    · intro e; injection e with e; omega
  · refine ⟨h6.os.trans hFr.os, h6.tape.trans hFr.tape, h6.output.trans hFr.output, Nat.le_trans hFr.size h6.size, fun i hi hg hn => ?_⟩
    exact (h6.block i (Nat.lt_of_lt_of_le hi hFr.size) hg (fun e => by have := hq3 i e.symm; omega)).trans (hFr.block i hi hg hn)

theorem pc_app {w3 w' w'' : World} {g : Nat} {b : List Int} {m n : Nat} {y y' : Value} {Y U : List Msg} {q d : Option Nat} {st : St} (hg3 : g < w3.heap.size)
    (hp : feed (.wait []) (b.take (m + n)) = (Y ++ U, st)) (hI : IsS w' g q d st) (hF : Fine st) (hQ : QT w' q) (hq : At w3.heap.size none q) (hd : At w3.heap.size none d) (hFr : Fr g none w3 w')
    (ht : Told w3.heap.size w'' q y' (Y ++ U)) (hgr : w'.grownBy w'' y.ownBlock) (hold : ∀ i, y.ownBlock = some i → w3.heap.size ≤ i ∧ ∃ c, w'.heap[i]? = some (.cells c 24 (0, 0))) : PcRel w3 g b (m + n) y' w'' := by
  have hne : ∀ (i : Nat) (c : Array Value) (t : TypeId), w'.heap[i]? = some (Obj.cells c t (0, 0)) → t ≠ 24 → w''.heap[i]? = w'.heap[i]? := fun i c t hi ht => hgr.block i (Array.getElem?_eq_some_iff.1 hi).1 (fun e => by
    obtain ⟨_, c', hc'⟩ := hold i e.symm
    exact row_ne hi hc' ht rfl)
  refine ⟨Y ++ U, q, d, st, hI.keptT fun i c t hi ht => hne i c t hi ?_, hF, fun i e => ?_, ht, ?_, hq, hd, hp⟩
  · rcases ht with ⟨rfl, _⟩ | ⟨rfl, _⟩ <;> decide
  · obtain ⟨c, hc⟩ := hQ i e
    exact ⟨c, (hne i c _ hc (by decide)).trans hc⟩
  · refine ⟨hgr.os.trans hFr.os, hgr.tape.trans hFr.tape, hgr.output.trans hFr.output, Nat.le_trans hFr.size hgr.size, fun i hi hg hn => ?_⟩
    exact (hgr.block i (Nat.lt_of_lt_of_le hi hFr.size) (fun e => by have := (hold i e.symm).1; omega)).trans (hFr.block i hi hg hn)
end Go.Proofs.Ytoiigalaijnoeaa
