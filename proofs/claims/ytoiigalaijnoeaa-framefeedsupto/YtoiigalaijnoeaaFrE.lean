/-
  Layer 3 (frame): words for streams and for slices of messages; append's steps.
-/
import Derived.Test.YtoiigalaijnoeaaFrD
import Derived.Maps.AppendAt
import Derived.OwnWalk
import Derived.Deep.RegionLaw
import Derived.Laws.AppendOwnNone
namespace Go.Proofs.Ytoiigalaijnoeaa
open Go.RowKit

abbrev u8s (l : List Int) : List Value := l.map (Value.int .u8)

theorem info_msg : (Try.prog.info? 24).map (fun i => (i.zero, i.size, i.bytes)) = some (some (.agg #[.int .i64 0, .slice none 0 0]), 2, 32) := by kernel_rfl

/-- Only block g, one block more (q) and what is new has turned. -/
structure Fr (g : Nat) (q : Option Nat) (w w' : World) : Prop where
  os : w'.os = w.os
  tape : w'.tape = w.tape
  output : w'.output = w.output
  size : w.heap.size ≤ w'.heap.size
  block : ∀ i, i < w.heap.size → i ≠ g → some i ≠ q → w'.heap[i]? = w.heap[i]?
section
variable {g : Nat} {q q' : Option Nat} {w w1 w2 : World}
theorem Fr.refl (g : Nat) (q : Option Nat) (w : World) : Fr g q w w := ⟨rfl, rfl, rfl, Nat.le_refl _, fun _ _ _ _ => rfl⟩
/-- A step that turns block g alone. -/
theorem Fr.only (h : Fr g q w w1) (k : w1.grownBy w2 (some g)) : Fr g q w w2 :=
  ⟨k.os.trans h.os, k.tape.trans h.tape, k.output.trans h.output, Nat.le_trans h.size k.size, fun i hi hg hq => (k.block i (Nat.lt_of_lt_of_le hi h.size) (fun e => hg (by injection e))).trans (h.block i hi hg hq)⟩
/-- A step that turns the one block more, or a new one. -/
theorem Fr.row (h : Fr g q w w1) (k : w1.grownBy w2 q') (hq : q' = q ∨ q' = none ∨ ∃ i, q' = some i ∧ w.heap.size ≤ i) : Fr g q w w2 :=
  ⟨k.os.trans h.os, k.tape.trans h.tape, k.output.trans h.output, Nat.le_trans h.size k.size, fun i hi hg hq' => (k.block i (Nat.lt_of_lt_of_le hi h.size) (fun e => by
    rcases hq with rfl | rfl | ⟨j, rfl, hj⟩
    · exact hq' e
    · cases e
    · injection e with e; omega)).trans (h.block i hi hg hq')⟩
theorem Fr.drewN (h : Fr g q w w1) (k : Nat) : Fr g q w (w1.drewN k) := ⟨h.os, h.tape, h.output, h.size, h.block⟩
theorem Fr.new (h : Fr g q w w1) (k : Below w1.heap.size w1 w2) : Fr g q w w2 := h.only (only_of_below k _)
theorem Fr.below {B : Nat} (h : Fr g q w w1) (hB : B ≤ w.heap.size) (hg : B ≤ g) (hq : ∀ i, q = some i → B ≤ i) : Below B w w1 :=
  ⟨h.os, h.tape, h.output, h.size, fun i hi => h.block i (by omega) (by omega) (fun e => by have := hq i e.symm; omega)⟩
theorem Fr.rd {B n : Nat} {A : Option Addr} {l : List Int} (h : Fr g q w w1) (hr : Rd w B A n l) (hB : B ≤ w.heap.size) (hA : ∀ b off, A = some ⟨b, off, none⟩ → b ≠ g ∧ some b ≠ q) : Rd w1 B A n l :=
  ⟨hr.len, hr.oct, fun hn => by
    obtain ⟨b, off, e, hb, hc⟩ := hr.at_ hn
    exact ⟨b, off, e, hb, fun i hi => (World.cell?_of_block (h.block b (by omega) (hA b off e).1 (hA b off e).2)).trans (hc i hi)⟩⟩
end

/-- The cells of messages; Bd says how a body lies. -/
structure Ms (Bd : Option Addr → Nat → List Int → Prop) (cs : List Value) (ms : List Msg) : Prop where
  len : cs.length = ms.length * 2
  at_ : ∀ i (h : i < ms.length), cs[i * 2]? = some (.int .i64 ms[i].1) ∧ ∃ A n c, cs[i * 2 + 1]? = some (.slice A n c) ∧ Bd A n ms[i].2
section
variable {Bd Bd' : Option Addr → Nat → List Int → Prop} {cs cs' : List Value} {ms ms' : List Msg}
theorem Ms.nil_ : Ms Bd [] [] := ⟨rfl, fun i h => absurd h (by simp)⟩
theorem Ms.imp (h : Ms Bd cs ms) (k : ∀ A n l, Bd A n l → Bd' A n l) : Ms Bd' cs ms :=
  ⟨h.len, fun i hi => by
    obtain ⟨h1, A, n, c, h2, h3⟩ := h.at_ i hi
    exact ⟨h1, A, n, c, h2, k _ _ _ h3⟩⟩
theorem Ms.app (h : Ms Bd cs ms) (h' : Ms Bd cs' ms') : Ms Bd (cs ++ cs') (ms ++ ms') := by
  refine ⟨by rw [List.length_append, List.length_append, h.len, h'.len, Nat.add_mul], fun i hi => ?_⟩
  rcases Nat.lt_or_ge i ms.length with hlt | hge
  · obtain ⟨h1, A, n, c, h2, h3⟩ := h.at_ i hlt
    have hl := h.len
    refine ⟨by rw [List.getElem?_append_left (by omega), List.getElem_append_left hlt]; exact h1, A, n, c, by rw [List.getElem?_append_left (by omega)]; exact h2, by rw [List.getElem_append_left hlt]; exact h3⟩
  · have hi' : i - ms.length < ms'.length := by rw [List.length_append] at hi; omega
    obtain ⟨h1, A, n, c, h2, h3⟩ := h'.at_ (i - ms.length) hi'
    have hl := h.len
    refine ⟨by rw [List.getElem?_append_right (by omega), List.getElem_append_right hge, ← h1]; congr 1; omega, A, n, c, by rw [List.getElem?_append_right (by omega), ← h2]; congr 1; omega, by rw [List.getElem_append_right hge]; exact h3⟩
theorem Ms.one {k : Int} {A : Option Addr} {n c : Nat} {b : List Int} (h : Bd A n b) : Ms Bd [.int .i64 k, .slice A n c] [(k, b)] :=
  ⟨rfl, fun i hi => by
    obtain rfl : i = 0 := by simp at hi; omega
    exact ⟨rfl, A, n, c, rfl, h⟩⟩
theorem Ms.cells_one (h : Ms Bd cs ms) : ∀ u ∈ cs, u.oneCell' = true := by
  intro u hu
  obtain ⟨j, hj, rfl⟩ := List.getElem_of_mem hu
  have hl := h.len
  obtain ⟨h1, A, n, c, h2, _⟩ := h.at_ (j / 2) (by omega)
  rcases Nat.mod_two_eq_zero_or_one j with h0 | h0
  · rw [show j / 2 * 2 = j from by omega, List.getElem?_eq_getElem hj] at h1
    injection h1 with h1
    rw [h1]
    rfl
  · rw [show j / 2 * 2 + 1 = j from by omega, List.getElem?_eq_getElem hj] at h2
    injection h2 with h2
    rw [h2]
    rfl
end

/-- A body in new memory, apart from block q. -/
def BodyAt (lo : Nat) (w : World) (q : Option Nat) (A : Option Addr) (n : Nat) (l : List Int) : Prop :=
  Oct l ∧ l.length = n ∧ (n = 0 ∨ ∃ i, A = some ⟨i, 0, none⟩ ∧ lo ≤ i ∧ some i ≠ q ∧ Byt w i 5 l)
theorem BodyAt.lt {lo : Nat} {w : World} {q : Option Nat} {A : Option Addr} {n : Nat} {l : List Int} (h : BodyAt lo w q A n l) : n = 0 ∨ ∃ i, A = some ⟨i, 0, none⟩ ∧ i < w.heap.size := h.2.2.imp id fun ⟨i, a, _, _, b⟩ => ⟨i, a, b.lt⟩
theorem BodyAt.keep {lo : Nat} {w w' : World} {q q' : Option Nat} {A : Option Addr} {n : Nat} {l : List Int} (h : BodyAt lo w q A n l) (hk : ∀ i, lo ≤ i → i < w.heap.size → some i ≠ q → w'.heap[i]? = w.heap[i]? ∧ some i ≠ q') : BodyAt lo w' q' A n l :=
  ⟨h.1, h.2.1, h.2.2.imp id fun ⟨i, a, b, c, d⟩ => ⟨i, a, b, (hk i b d.lt c).2, (hk i b d.lt c).1.trans d⟩⟩
theorem BodyAt.rd {lo : Nat} {w : World} {q : Option Nat} {A : Option Addr} {n : Nat} {l : List Int} (h : BodyAt lo w q A n l) : Rd w w.heap.size A n l := by
  obtain ⟨ho, hl, rfl | ⟨g, rfl, _, _, hb⟩⟩ := h
  · obtain rfl : l = [] := List.eq_nil_of_length_eq_zero hl
    exact Rd.nil_ A
  · subst hl
    exact hb.rd_all ho hb.lt

/-- A stream that waits, with c come; what has come lies in block q. -/
structure Waiting (w : World) (g : Nat) (q : Option Nat) (c : List Int) : Prop where
  ex : ∃ cv code sub dv, StrB w g cv (if c.length < 19 then 0 else lenI c) code sub dv false ∧ w.ownsRow 0 5 1 cv c.length (u8s c) ∧ cv.ownBlock = q
  quiet : Quiet c
  oct : Oct c
/-- A broken stream; its fault's data lies in block d. -/
def Broken (w : World) (g : Nat) (d : Option Nat) (f : Flt) : Prop :=
  ∃ A n, StrB w g (.slice none 0 0) 0 f.code f.sub (.slice A n n) true ∧ Oct f.data ∧ f.data.length = n ∧ (n = 0 ∨ ∃ i, A = some ⟨i, 0, none⟩ ∧ d = some i ∧ Byt w i 5 f.data)
def IsS (w : World) (g : Nat) (q d : Option Nat) : St → Prop
  | .wait c => Waiting w g q c
  | .bad f => Broken w g d f

theorem own_at {w : World} {v : Value} {c : List Int} (h : w.ownsRow 0 5 1 v c.length (u8s c)) (ho : Oct c) :
    ∃ A k, v = .slice A c.length k ∧ c.length ≤ k ∧ Rd w w.heap.size A c.length c ∧ (∀ b off, A = some ⟨b, off, none⟩ → v.ownBlock = some b) := by
  rcases h.2 with ⟨rfl, hn⟩ | ⟨g, cap, cur, rfl, hb, hg, hnc, hcm, hcs, hx⟩
  · exact ⟨none, 0, by rw [hn], by omega, ⟨rfl, ho, fun hp => by omega⟩, fun b off e => by cases e⟩
  · refine ⟨_, cap, rfl, hnc, ⟨rfl, ho, fun _ => ⟨g, 0, rfl, (Array.getElem?_eq_some_iff.1 hg).1, fun i hi => ?_⟩⟩, fun b off e => by injection e with e; injection e with e; subst e; rfl⟩
    rw [Nat.zero_add]
    have h1 : (u8s c)[i]? = some (.int .u8 (c.getD i 0)) := by simp [List.getD, hi]
    rw [← hx, List.getElem?_take, if_pos (by omega)] at h1
    simp only [World.cell?, hg]
    rw [← Array.getElem?_toList]
    exact h1
theorem own_ne {w : World} {base g : Nat} {e t : TypeId} {size n : Nat} {v : Value} {xs : List Value} {cs : Array Value} (h : w.ownsRow base e size v n xs) (hg : Blk w g t cs) (hne : e ≠ t) : v.ownBlock ≠ some g := by
  rcases h.2 with ⟨rfl, _⟩ | ⟨i, cap, cur, rfl, _, hh, _⟩
  · simp [Value.ownBlock]
  · intro he
    obtain rfl : i = g := by simpa [Value.ownBlock] using he
    unfold Blk at hg
    rw [hh] at hg
    injection hg with hg
    injection hg with _ ht
    exact hne ht

theorem Waiting.keep {w w' : World} {g : Nat} {q : Option Nat} {c : List Int} (h : Waiting w g q c) (hg : w'.heap[g]? = w.heap[g]?) (hq : ∀ i, q = some i → w'.heap[i]? = w.heap[i]?) : Waiting w' g q c := by
  obtain ⟨cv, code, sub, dv, hS, hO, hB⟩ := h.ex
  refine ⟨⟨cv, code, sub, dv, hg.trans hS, ⟨hO.1, ?_⟩, hB⟩, h.quiet, h.oct⟩
  rcases hO.2 with hn | ⟨i, cap, cur, rfl, hb, hi, rest⟩
  · exact .inl hn
  · exact .inr ⟨i, cap, cur, rfl, hb, (hq i (by rw [← hB]; rfl)).trans hi, rest⟩
theorem Broken.keep {w w' : World} {g : Nat} {d : Option Nat} {f : Flt} (h : Broken w g d f) (hg : w'.heap[g]? = w.heap[g]?) (hq : ∀ i, d = some i → w'.heap[i]? = w.heap[i]?) : Broken w' g d f := by
  obtain ⟨A, n, hS, h1, h2, h3⟩ := h
  exact ⟨A, n, hg.trans hS, h1, h2, h3.imp id fun ⟨i, a, b, c⟩ => ⟨i, a, b, (hq i b).trans c⟩⟩
theorem IsS.keep {w w' : World} {g : Nat} {q d : Option Nat} {st : St} (h : IsS w g q d st) (hg : w'.heap[g]? = w.heap[g]?) (hq : ∀ i, q = some i → w'.heap[i]? = w.heap[i]?) (hd : ∀ i, d = some i → w'.heap[i]? = w.heap[i]?) : IsS w' g q d st := by
  cases st with
  | wait c => exact Waiting.keep h hg hq
  | bad f => exact Broken.keep h hg hd

/-- append of bytes onto what has come, as one step of a region that draws. -/
theorem step_come {ops : Array Oper} {o : Oper} {a : Act} {w : World} {K : Act → World → Prop} {Q : Exit → Act → World → Prop} {E : Prop} (hgd : o.guard = none) (s x : Operand)
    (ho : o.op = .call { callee := .builtin .append, args := #[s, x], argTypes := #[22, 22] }) (v : Value) (C news : List Int) (hs : a.eval s = v) (hown : w.ownsRow 0 5 1 v C.length (u8s C))
    (b off m c : Nat) (hnl : news.length = m) (hx : a.eval x = .slice (some ⟨b, off, none⟩) m c) (hr : ∀ i, i < news.length → w.cell? ⟨b, off + i, none⟩ = some (.int .u8 (news.getD i 0))) (hlen : C.length + news.length ≤ 5000)
    (h : ∀ v' w', w'.ownsRow 0 5 1 v' (C ++ news).length (u8s (C ++ news)) → w.grownBy w' v.ownBlock → (v'.ownBlock = v.ownBlock ∨ v'.ownBlock = some w.heap.size) → K (a.put o.dst v') w') :
    if Region.wanted o (yielded ops a.tmps) = true then Oper.wp Try.prog o a w K Q else E := by
  subst hnl
  have hw : Region.wanted o (yielded ops a.tmps) = true := by simp [Region.wanted, hgd]
  rw [if_pos hw]
  obtain ⟨i, hi, hz0, hz1, hz2⟩ := info_parts info_byte
  obtain ⟨v', w', hrun, h2, h3, _, h5⟩ := run_append_own_at (P := Try.prog) w 0 22 o.type 5 i (.int .u8 0) 1 1 Try.underlying22 hi hz0 hz1 hz2 rfl (by decide) v C.length (u8s C) hown ⟨b, off, none⟩ news.length c (u8s news) (by simp) (src_u8 rfl hr) (one_u8 news)
    (by unfold maxLen; omega) (by omega) (Nat.zero_le _)
  unfold Oper.wp execOp
  simp only [ho, resolve, invoke, builtin, Sem.run_bind, Sem.run_pure, Result.andThen_ok, List.map_toArray, List.map_cons, List.map_nil, hs, hx, hrun]
  refine h v' w' ?_ h3 h5
  rw [List.length_append, show u8s (C ++ news) = u8s C ++ u8s news from List.map_append]
  exact h2

/-- How much is missing of a header, or of its message. -/
def missN (c : List Int) : Nat := if c.length < 19 then 19 - c.length else lenN c - c.length
theorem missN_pos {c : List Int} (h : Quiet c) : 0 < missN c := by
  unfold missN
  rcases h with h | ⟨h, h2⟩
  · rw [if_pos h]; omega
  · have := lenN_ge c
    split <;> omega
theorem missing_is (w : World) (g : Nat) (A : Option Addr) (k : Nat) (code sub : Int) (dv : Value) (c : List Int) (h : StrB w g (.slice A c.length k) (if c.length < 19 then 0 else lenI c) code sub dv false) (hq : Quiet c) :
    Calls Try.prog 32 #[.pointer (some ⟨g, 0, none⟩)] w fun e w' => e = .returned (.int .i64 (missN c : Nat)) ∧ ∃ k, w' = w.drewN k := by
  have hsm := hq.small
  unfold missN
  by_cases h19 : c.length < 19
  · rw [if_pos h19] at h ⊢
    rw [show ((19 - c.length : Nat) : Int) = 19 - (c.length : Int) from by omega]
    exact missing_0 w g A c.length k code sub dv false h (by omega)
  · rw [if_neg h19] at h ⊢
    have hn : hdr c = none := hq.resolve_left h19 |>.1
    have hl := lenN_none hn
    have hlt : c.length < lenN c := (hq.resolve_left h19).2
    rw [show ((lenN c - c.length : Nat) : Int) = lenI c - (c.length : Int) from by omega]
    exact missing_1 w g A c.length k (lenI c) code sub dv false h (by omega) (by omega) (by omega)
end Go.Proofs.Ytoiigalaijnoeaa
