/-
  Layer 3 (frame): what Feed's round carries on.
-/
import Derived.Test.YtoiigalaijnoeaaFrE
namespace Go.Proofs.Ytoiigalaijnoeaa
open Go.RowKit

theorem row_ne {w : World} {i j : Nat} {t u : TypeId} {a b : Array Value} (h : w.heap[i]? = some (.cells a t (0, 0))) (k : w.heap[j]? = some (.cells b u (0, 0))) (hne : t ≠ u) : i ≠ j := by
  rintro rfl
  rw [h] at k
  injection k with k
  injection k with _ k
  exact hne k
theorem own_keep {w w' : World} {base : Nat} {e : TypeId} {size n : Nat} {v : Value} {xs : List Value} (h : w.ownsRow base e size v n xs) (hk : ∀ i c, w.heap[i]? = some (.cells c e (0, 0)) → base ≤ i → v.ownBlock = some i → w'.heap[i]? = w.heap[i]?) : w'.ownsRow base e size v n xs := by
  refine ⟨h.1, h.2.imp id ?_⟩
  rintro ⟨i, cap, cur, rfl, hb, hi, rest⟩
  exact ⟨i, cap, cur, rfl, hb, (hk i cur hi hb rfl).trans hi, rest⟩
theorem own_heap {w : World} {base : Nat} {e : TypeId} {size n : Nat} {v : Value} {xs : List Value} (h : w.ownsRow base e size v n xs) {j : Nat} (hj : v.ownBlock = some j) : ∃ c, w.heap[j]? = some (.cells c e (0, 0)) := by
  rcases h.2 with ⟨rfl, _⟩ | ⟨i, cap, cur, rfl, _, hh, _⟩
  · cases hj
  · injection hj with hj
    subst hj
    exact ⟨cur, hh⟩

/-- The messages told so far, in new memory, their bodies apart from block q. -/
def Told (lo : Nat) (w : World) (q : Option Nat) (v : Value) (T : List Msg) : Prop := ∃ cs, w.ownsRow lo 24 2 v T.length cs ∧ Ms (BodyAt lo w q) cs T

/-- Of what is in new memory nothing but blocks of streams, and block q, has turned. -/
theorem Told.keep {lo : Nat} {w w' : World} {q q' : Option Nat} {v cv : Value} {T : List Msg} {n : Nat} {xs : List Value} (h : Told lo w q v T) (hO : w.ownsRow 0 5 1 cv n xs) (hq : cv.ownBlock = q)
    (hk : ∀ i, lo ≤ i → i < w.heap.size → (∀ c, w.heap[i]? ≠ some (.cells c 59 (0, 0))) → some i ≠ q → w'.heap[i]? = w.heap[i]? ∧ some i ≠ q') : Told lo w' q' v T := by
  obtain ⟨cs, h1, h2⟩ := h
  refine ⟨cs, own_keep h1 fun i c hi hb hv => ?_, h2.imp fun A n l hb => ⟨hb.1, hb.2.1, hb.2.2.imp id ?_⟩⟩
  · refine (hk i hb (Array.getElem?_eq_some_iff.1 hi).1 (fun c' hc => row_ne hi hc (by decide) rfl) (fun e => ?_)).1
    obtain ⟨c', hc'⟩ := own_heap hO (hq.trans e.symm)
    exact row_ne hi hc' (by decide) rfl
  · rintro ⟨i, a, b, c, d⟩
    have := hk i b d.lt (fun c' hc => row_ne d hc (by decide) rfl) c
    exact ⟨i, a, b, this.2, this.1.trans d⟩

/-- Where what has come lies: where it lay, nowhere, or in new memory. -/
def At (lo : Nat) (q q' : Option Nat) : Prop := q' = q ∨ q' = none ∨ ∃ i, q' = some i ∧ lo ≤ i

/-- Behind the append and the store of a round. -/
structure Came (w : World) (g : Nat) (q : Option Nat) (told : Value) (T : List Msg) (R : List Int) (A : Option Addr) (c : Nat) (C : List Int) (L code sub : Int) (dv v : Value) (W : World) : Prop where
  str : StrB W g v L code sub dv false
  own : W.ownsRow 0 5 1 v C.length (u8s C)
  told : Told w.heap.size W v.ownBlock told T
  fr : Fr g q w W
  at_ : At w.heap.size q v.ownBlock
  rd : Rd W w.heap.size A R.length R

theorem came_step {w wr w5 : World} {g : Nat} {q : Option Nat} {told cv v' : Value} {T : List Msg} {R : List Int} {A : Option Addr} {c : Nat} {C news : List Int} {L code sub : Int} {dv : Value} (hg : g < w.heap.size)
    (h : Came w g q told T R A c C L code sub dv cv wr) (hA : ∀ b off, A = some ⟨b, off, none⟩ → b ≠ g ∧ some b ≠ q)
    (h5 : w5.ownsRow 0 5 1 v' (C ++ news).length (u8s (C ++ news))) (hg5 : wr.grownBy w5 cv.ownBlock) (hat : v'.ownBlock = cv.ownBlock ∨ v'.ownBlock = some wr.heap.size) :
    Came w g q told T R A c (C ++ news) L code sub dv v' (w5.setCell ⟨g, 0, none⟩ v') := by
  have hs : StrB w5 g cv L code sub dv false := Blk.grown h.str hg5 (fun e => own_ne h.own h.str (by decide) e.symm)
  have hng : v'.ownBlock ≠ some g := own_ne h5 hs (by decide)
  have hsz := h.fr.size
  refine ⟨Blk.set_ hs 0 v', own_keep h5 fun i c hi _ hv => Below.heap_setCell _ _ _ _ (fun e => hng (by rw [hv]; exact congrArg some e)), ?_, ?_, ?_, ?_⟩
  · refine h.told.keep h.own rfl fun i hi hi2 hi3 hi4 => ⟨?_, ?_⟩
    · rw [Below.heap_setCell _ _ _ _ (by show i ≠ g; omega)]
      exact hg5.block i hi2 hi4
    · rcases hat with e | e
      · rw [e]; exact hi4
      · rw [e]; intro e'; injection e' with e'; omega
  · exact (h.fr.row hg5 h.at_).only (only_set1 (only_refl w5 _) 0 v')
  · rcases hat with e | e
    · rw [e]; exact h.at_
    · exact .inr (.inr ⟨_, e, hsz⟩)
  · refine ⟨h.rd.len, h.rd.oct, fun hn => ?_⟩
    obtain ⟨b, off, e, hb, hc⟩ := h.rd.at_ hn
    obtain ⟨n1, n2⟩ := hA b off e
    refine ⟨b, off, e, hb, fun i hi => ?_⟩
    rw [← hc i hi]
    refine World.cell?_of_block ?_
    show (w5.setCell _ _).heap[b]? = _
    rw [Below.heap_setCell _ _ _ _ (by exact n1)]
    refine hg5.block b (by omega) (fun e' => ?_)
    rcases h.at_ with e2 | e2 | ⟨j, e2, hj⟩
    · exact n2 (e'.trans e2)
    · rw [e2] at e'; cases e'
    · rw [e2] at e'; injection e' with e'; omega

/-- A step that turns the stream's own block, and makes memory. -/
theorem came_only {w wr w2 : World} {g : Nat} {q : Option Nat} {told cv : Value} {T : List Msg} {R : List Int} {A : Option Addr} {c : Nat} {C : List Int} {L code sub : Int} {dv : Value} (hg : g < w.heap.size)
    (h : Came w g q told T R A c C L code sub dv cv wr) (hA : ∀ b off, A = some ⟨b, off, none⟩ → b ≠ g ∧ some b ≠ q) (k : wr.grownBy w2 (some g)) (q' : Option Nat) (hq' : q' = cv.ownBlock ∨ q' = none) :
    w2.ownsRow 0 5 1 cv C.length (u8s C) ∧ Told w.heap.size w2 q' told T ∧ Fr g q w w2 ∧ Rd w2 w.heap.size A R.length R := by
  have hng : cv.ownBlock ≠ some g := own_ne h.own h.str (by decide)
  refine ⟨own_keep h.own fun i c hi _ hv => k.block i (Array.getElem?_eq_some_iff.1 hi).1 (fun e => hng (hv.trans e)), ?_, h.fr.only k, ?_⟩
  · refine h.told.keep h.own rfl fun i hi hi2 hi3 hi4 => ⟨k.block i hi2 (fun e => by injection e with e; omega), ?_⟩
    rcases hq' with e | e
    · rw [e]; exact hi4
    · rw [e]; simp
  · exact h.rd.apart k h.fr.size (fun b off e => (hA b off e).1)

theorem Came.drewN {w W : World} {g : Nat} {q : Option Nat} {told cv : Value} {T : List Msg} {R : List Int} {A : Option Addr} {c : Nat} {C : List Int} {L code sub : Int} {dv : Value} (h : Came w g q told T R A c C L code sub dv cv W) (k : Nat) : Came w g q told T R A c C L code sub dv cv (W.drewN k) :=
  ⟨h.str, h.own, h.told.keep h.own rfl (fun _ _ _ _ h4 => ⟨rfl, h4⟩), h.fr.drewN k, h.at_, h.rd.keep fun _ _ => rfl⟩

/-- A stream leads to one block beside its own: what has come, or its fault's data. -/
def Tidy (w : World) (q d : Option Nat) : St → Prop
  | .wait _ => d = none
  | .bad _ => q = d ∧ ∀ i, d = some i → i < w.heap.size

/-- The relation of Feed's loop. -/
def FeedRel (w : World) (g : Nat) (q : Option Nat) (C0 b0 : List Int) (bv told : Value) (wr : World) : Prop :=
  ∃ (R : List Int) (T : List Msg) (A : Option Addr) (c : Nat) (q' d : Option Nat) (st : St),
    bv = .slice A R.length c ∧ R.length ≤ c ∧ Rd wr w.heap.size A R.length R ∧ (∀ b off, A = some ⟨b, off, none⟩ → b ≠ g ∧ some b ≠ q) ∧ R.length ≤ b0.length ∧
    Told w.heap.size wr q' told T ∧ IsS wr g q' d st ∧ Fine st ∧ At w.heap.size q q' ∧ (∀ i, d = some i → w.heap.size ≤ i) ∧ Fr g q w wr ∧ Tidy wr q' d st ∧
    feed (.wait C0) b0 = (T ++ (feed st R).1, (feed st R).2)

/-- What Feed answers. -/
def Fed (w : World) (g : Nat) (q : Option Nat) (st : St) (b : List Int) (e : Ending) (w' : World) : Prop :=
  ∃ (v : Value) (q' d : Option Nat), e = .returned v ∧ Told w.heap.size w' q' v (feed st b).1 ∧ IsS w' g q' d (feed st b).2 ∧ At w.heap.size q q' ∧ (∀ i, d = some i → w.heap.size ≤ i) ∧ Fr g q w w' ∧ Tidy w' q' d (feed st b).2

theorem fed_of {w wr : World} {g : Nat} {q q' d : Option Nat} {C0 b0 R : List Int} {T : List Msg} {told : Value} {st : St} (ht : Told w.heap.size wr q' told T) (hs : IsS wr g q' d st) (ha : At w.heap.size q q') (hd : ∀ i, d = some i → w.heap.size ≤ i) (hf : Fr g q w wr) (hty : Tidy wr q' d st)
    (hp : feed (.wait C0) b0 = (T ++ (feed st R).1, (feed st R).2)) (he : feed st R = ([], st)) : Fed w g q (.wait C0) b0 (.returned told) wr := by
  rw [he] at hp
  refine ⟨told, q', d, rfl, ?_, ?_, ha, hd, hf, ?_⟩
  · rw [hp]; simpa using ht
  · rw [hp]; exact hs
  · rw [hp]; exact hty

theorem feed_move (C R : List Int) (m : Nat) : feed (.wait C) R = feed (.wait (C ++ R.take m)) (R.drop m) := by
  show parse (C ++ R) = parse ((C ++ R.take m) ++ R.drop m)
  rw [List.append_assoc, List.take_append_drop]
theorem feed_bad {C : List Int} {f : Flt} (h : 19 ≤ C.length) (hf : hdr C = some f) (R : List Int) : feed (.wait C) R = ([], .bad f) := by
  show parse (C ++ R) = _
  exact parse_bad (by simp; omega) ((hdr_app R h).trans hf)
theorem feed_fin {C : List Int} (hf : hdr C = none) (hl : lenN C = C.length) (R : List Int) : feed (.wait C) R = ((kindI C, C.drop 19) :: (feed (.wait []) R).1, (feed (.wait []) R).2) := by
  have h19 : 19 ≤ C.length := by have := lenN_ge C; omega
  show parse (C ++ R) = _
  have hn : lenN (C ++ R) = C.length := (lenN_app R h19).trans hl
  rw [parse_whole ((hdr_app R h19).trans hf) (by rw [hn]; simp), hn, List.drop_left]
  have hm : msgOf (C ++ R) = (kindI C, C.drop 19) := by
    unfold msgOf
    rw [hn, kindI_app R h19, List.drop_append_of_le_length h19, List.take_append_of_le_length (by simp), List.take_of_length_le (by simp)]
  rw [hm]
  rfl
def lenOfV : Value → Nat
  | .slice _ n _ => n
  | _ => 0
theorem told_count {C0 b0 R : List Int} {T : List Msg} {st : St} (hp : feed (.wait C0) b0 = (T ++ (feed st R).1, (feed st R).2)) : T.length * 19 ≤ C0.length + b0.length := by
  have h := parse_count (C0 ++ b0)
  have e : (parse (C0 ++ b0)).1 = T ++ (feed st R).1 := congrArg Prod.fst hp
  rw [e, List.length_append, List.length_append] at h
  omega

/-- append of a message onto what was told. -/
theorem app_told {ops : Array Oper} {rest : List Oper} {o : Oper} {a : Act} {Q : Exit → Act → World → Prop} (hgd : o.guard = none) (s x : Operand)
    (ho : o.op = .call { callee := .builtin .append, args := #[s, x], argTypes := #[40, 40] }) {lo : Nat} {w : World} {q : Option Nat} {v : Value} {T : List Msg} (h : Told lo w q v T) (hlo : lo ≤ w.heap.size) (hlen : T.length ≤ 4000000000000)
    {k : Int} {A : Option Addr} {n : Nat} {body : List Int} (hb : BodyAt lo w q A n body) (hs : a.eval s = v) (hx : a.eval x = .slice (some ⟨w.heap.size, 0, none⟩) 1 1)
    (hk : ∀ v' w', Told lo w' q v' (T ++ [(k, body)]) → w.grownBy w' v.ownBlock → (∀ i, v.ownBlock = some i → lo ≤ i ∧ ∃ c, w.heap[i]? = some (.cells c 24 (0, 0))) → wpList Try.prog ops Q rest (a.put o.dst v') w') :
    wpList Try.prog ops Q (o :: rest) a (w.alloc (.cells #[.int .i64 k, .slice A n n] 24)) := by
  obtain ⟨i, hi, hz0, hz1, hz2⟩ := info_parts info_msg
  obtain ⟨cs, h1, h2⟩ := h
  have hB := Blk.new w 24 #[.int .i64 k, .slice A n n]
  refine wpList_append_own_at _ hgd s x 40 ho lo 24 i _ 2 32 Try.underlying40 hi hz0 hz1 hz2 rfl (by decide) v T.length cs hs (h1.alloc _) ⟨w.heap.size, 0, none⟩ 1 1 [.int .i64 k, .slice A n n] hx rfl ?_ ?_ (by unfold maxLen; omega) (by omega) (by simp; omega) ?_
  · intro j u hu
    rw [show ((⟨w.heap.size, 0, none⟩ : Addr).add j) = ⟨w.heap.size, j, none⟩ from by unfold Addr.add; split <;> simp_all, hB.cell]
    simpa using hu
  · intro u hu
    simp only [List.mem_cons, List.mem_nil_iff, or_false] at hu
    rcases hu with rfl | rfl <;> rfl
  · intro v' w' hown hgr _ _
    have hold : ∀ i, v.ownBlock = some i → lo ≤ i ∧ ∃ c, w.heap[i]? = some (.cells c 24 (0, 0)) := fun i hi => ⟨(h1.lt i hi).1, own_heap h1 hi⟩
    have hg2 : w.grownBy w' v.ownBlock := ⟨hgr.os, hgr.tape, hgr.output, Nat.le_trans (by simp) hgr.size, fun j hj hne => (hgr.block j (by simp; omega) hne).trans (Below.heap_alloc _ _ _ hj)⟩
    refine hk v' w' ⟨_, by simpa using hown, ?_⟩ hg2 hold
    have hkeep : ∀ A n l, BodyAt lo w q A n l → BodyAt lo w' q A n l := fun A n l hb => ⟨hb.1, hb.2.1, hb.2.2.imp id fun ⟨j, a1, a2, a3, a4⟩ => ⟨j, a1, a2, a3, (hg2.block j a4.lt (fun e => by
      obtain ⟨_, c, hc⟩ := hold j e.symm
      exact row_ne a4 hc (by decide) rfl)).trans a4⟩⟩
    exact (h2.imp hkeep).app (Ms.one (hkeep _ _ _ hb))

theorem rel_wait {w W : World} {g : Nat} {q : Option Nat} {C0 b0 R C : List Int} {T : List Msg} {told v dv : Value} {code sub L : Int} {A : Option Addr} {c : Nat} (hL : L = if C.length < 19 then 0 else lenI C) (hs : StrB W g v L code sub dv false) (ho : W.ownsRow 0 5 1 v C.length (u8s C)) (ht : Told w.heap.size W v.ownBlock told T) (hf : Fr g q w W)
    (ha : At w.heap.size q v.ownBlock) (hr : Rd W w.heap.size A R.length R) (hc : R.length ≤ c) (hA : ∀ b off, A = some ⟨b, off, none⟩ → b ≠ g ∧ some b ≠ q) (hb : R.length ≤ b0.length) (hQ : Quiet C) (hO : Oct C)
    (hp : feed (.wait C0) b0 = (T ++ (feed (.wait C) R).1, (feed (.wait C) R).2)) : FeedRel w g q C0 b0 (.slice A R.length c) told W := by
  subst hL
  exact ⟨R, T, A, c, v.ownBlock, none, .wait C, rfl, hc, hr, hA, hb, ht, ⟨⟨v, code, sub, dv, hs, ho, rfl⟩, hQ, hO⟩, ⟨hQ, hO⟩, ha, (fun i e => by cases e), hf, rfl, hp⟩

theorem broken_of {W : World} {g lo : Nat} {f : Flt} {A1 : Option Addr} {n1 : Nat} (hs : StrB W g (.slice none 0 0) 0 f.code f.sub (.slice A1 n1 n1) true) (hf : Fresh lo W A1 n1 f.data) : ∃ d, Broken W g d f ∧ ∀ i, d = some i → lo ≤ i ∧ i < W.heap.size := by
  obtain ⟨h1, h2, rfl | ⟨i, rfl, hi, hb⟩⟩ := hf
  · exact ⟨none, ⟨A1, 0, hs, h1, h2, .inl rfl⟩, fun i e => by cases e⟩
  · exact ⟨some i, ⟨_, n1, hs, h1, h2, .inr ⟨i, rfl, rfl, hb⟩⟩, fun j e => by injection e with e; have := hb.lt; omega⟩

theorem rel_bad {w W : World} {g : Nat} {q d : Option Nat} {C0 b0 R : List Int} {f : Flt} {T : List Msg} {told : Value} {A : Option Addr} {c : Nat} (hbr : Broken W g d f) (hd : ∀ i, d = some i → w.heap.size ≤ i ∧ i < W.heap.size)
    (ht : Told w.heap.size W d told T) (hf : Fr g q w W) (hr : Rd W w.heap.size A R.length R) (hc : R.length ≤ c) (hA : ∀ b off, A = some ⟨b, off, none⟩ → b ≠ g ∧ some b ≠ q) (hb : R.length ≤ b0.length) (hF : Fine (.bad f))
    (hp : feed (.wait C0) b0 = (T, .bad f)) : FeedRel w g q C0 b0 (.slice A R.length c) told W :=
  ⟨R, T, A, c, d, d, .bad f, rfl, hc, hr, hA, hb, ht, hbr, hF, (by cases hd' : d with | none => exact .inr (.inl rfl) | some i => exact .inr (.inr ⟨i, rfl, (hd i hd').1⟩)), fun i e => (hd i e).1, hf, ⟨rfl, fun i e => (hd i e).2⟩, by rw [hp]; simp [feed]⟩

theorem fresh_body {lo lo' : Nat} {w : World} {A : Option Addr} {n : Nat} {l : List Int} (h : Fresh lo' w A n l) (hl : lo ≤ lo') : BodyAt lo w none A n l :=
  ⟨h.1, h.2.1, h.2.2.imp id fun ⟨g, a, b, c⟩ => ⟨g, a, by omega, by simp, c⟩⟩

theorem rel_fin {w W W9 : World} {g : Nat} {q : Option Nat} {C0 b0 R : List Int} {T : List Msg} {told told' dv : Value} {code sub : Int} {A : Option Addr} {c : Nat} (hs : StrB W g (.slice none 0 0) 0 code sub dv false) (hf : Fr g q w W) (hr : Rd W w.heap.size A R.length R)
    (ht : Told w.heap.size W9 none told' T) (hg9 : W.grownBy W9 told.ownBlock) (hold : ∀ i, told.ownBlock = some i → w.heap.size ≤ i ∧ ∃ c, W.heap[i]? = some (.cells c 24 (0, 0)))
    (hc : R.length ≤ c) (hA : ∀ b off, A = some ⟨b, off, none⟩ → b ≠ g ∧ some b ≠ q) (hb : R.length ≤ b0.length)
    (hp : feed (.wait C0) b0 = (T ++ (feed (.wait []) R).1, (feed (.wait []) R).2)) : FeedRel w g q C0 b0 (.slice A R.length c) told' W9 := by
  have hs9 : StrB W9 g (.slice none 0 0) 0 code sub dv false := Blk.grown hs hg9 (fun e => by
    obtain ⟨_, c', hc'⟩ := hold g e.symm
    exact row_ne hc' hs (by decide) rfl)
  have hf9 : Fr g q w W9 := hf.row hg9 (by
    cases ho : told.ownBlock with
    | none => exact .inr (.inl rfl)
    | some i => exact .inr (.inr ⟨i, rfl, (hold i ho).1⟩))
  have hr9 : Rd W9 w.heap.size A R.length R := hr.grown hg9 hf.size (fun i e => (hold i e).1)
  exact ⟨R, T, A, c, none, none, .wait [], rfl, hc, hr9, hA, hb, ht, ⟨⟨_, code, sub, dv, hs9, World.ownsRow_nil _ _ _ _, rfl⟩, Quiet.nil_, oct_nil⟩, ⟨Quiet.nil_, oct_nil⟩, .inr (.inl rfl), (fun i e => by cases e), hf9, rfl, hp⟩
end Go.Proofs.Ytoiigalaijnoeaa
