/-
  The document's answer, layer 3: Feed.
-/
import Derived.Test.YtoiigalaijnoeaaFrU
namespace Go.Proofs.Ytoiigalaijnoeaa
open Go.RowKit
set_option linter.unusedSimpArgs false
set_option linter.unusedVariables false

/-- A body in a row of its own, from block lo on. -/
def RBd (lo : Nat) (w : World) (A : Option Addr) (n : Nat) (l : List Int) : Prop :=
  Oct l ∧ l.length = n ∧ (n = 0 ∨ ∃ i cap, A = some ⟨i, 0, none⟩ ∧ w.ownsRow lo 5 1 (.slice (some ⟨i, 0, none⟩) n cap) n (u8s l))
theorem RBd.keep {lo : Nat} {w w' : World} {A : Option Addr} {n : Nat} {l : List Int} (h : RBd lo w A n l) (hk : ∀ i c, w.heap[i]? = some (.cells c 5 (0, 0)) → lo ≤ i → w'.heap[i]? = w.heap[i]?) : RBd lo w' A n l :=
  ⟨h.1, h.2.1, h.2.2.imp id fun ⟨i, cap, a, b⟩ => ⟨i, cap, a, own_keep b fun j c hj hb _ => hk j c hj hb⟩⟩
theorem RBd.rd {lo : Nat} {w : World} {A : Option Addr} {n : Nat} {l : List Int} (h : RBd lo w A n l) : Rd w w.heap.size A n l := by
  obtain ⟨ho, rfl, h0 | ⟨i, cap, rfl, h2⟩⟩ := h
  · obtain rfl : l = [] := List.eq_nil_of_length_eq_zero h0
    exact Rd.nil_ A
  · obtain ⟨A', k, e, _, hr, _⟩ := own_at ⟨h2.1, h2.2.imp id fun ⟨g, cap, cur, h1, _, h3⟩ => ⟨g, cap, cur, h1, Nat.zero_le _, h3⟩⟩ ho
    injection e with e1 e2 e3
    subst e1
    exact hr
def ROut (lo : Nat) (w : World) (v : Value) (T : List Msg) : Prop := ∃ cs, w.ownsRow lo 24 2 v T.length cs ∧ Ms (RBd lo w) cs T
theorem ROut.kept {lo : Nat} {w w' : World} {v : Value} {T : List Msg} (h : ROut lo w v T) (hk : ∀ i c t, w.heap[i]? = some (.cells c t (0, 0)) → lo ≤ i → (t = 24 ∨ t = 5) → w'.heap[i]? = w.heap[i]?) : ROut lo w' v T := by
  obtain ⟨cs, h1, h2⟩ := h
  exact ⟨cs, own_keep h1 fun i c hi hb _ => hk i c _ hi hb (.inl rfl), h2.imp fun A n l hb => hb.keep fun i c hi hl => hk i c _ hi hl (.inr rfl)⟩
theorem ROut.msr {lo : Nat} {w : World} {v : Value} {ms : List Msg} (h : ROut lo w v ms) : ∃ A c, v = .slice A ms.length c ∧ MsR w A ms := by
  obtain ⟨cs, h1, h2⟩ := h
  have h3 := h2.imp (Bd' := fun A n l => Rd w w.heap.size A n l) (fun A n l hb => hb.rd)
  rcases h1.2 with ⟨rfl, hn⟩ | ⟨g, cap, cur, rfl, hb, hg, hnc, hcm, hcs, hx⟩
  · exact ⟨none, 0, by rw [hn], cs, h3, fun hp => by omega⟩
  · refine ⟨_, cap, rfl, cs, h3, fun _ => ⟨g, 0, rfl, (Array.getElem?_eq_some_iff.1 hg).1, fun j u hu => ?_⟩⟩
    rw [← hx, List.getElem?_take] at hu
    split at hu
    · rw [Nat.zero_add]
      simp only [World.cell?, hg]
      rw [← Array.getElem?_toList]
      exact hu
    · cases hu

/-- Bytes in a row of the call's own, wherever they begin. -/
structure RdT (w : World) (lo : Nat) (A : Option Addr) (n : Nat) (l : List Int) : Prop where
  len : l.length = n
  oct : Oct l
  at_ : 0 < n → ∃ b off cur, A = some ⟨b, off, none⟩ ∧ lo ≤ b ∧ w.heap[b]? = some (.cells cur 5 (0, 0)) ∧ ∀ i, i < n → w.cell? ⟨b, off + i, none⟩ = some (.int .u8 (l.getD i 0))
theorem RdT.rd {w : World} {lo n : Nat} {A : Option Addr} {l : List Int} (h : RdT w lo A n l) : Rd w w.heap.size A n l :=
  ⟨h.len, h.oct, fun hn => by
    obtain ⟨b, off, cur, e, _, hb, hc⟩ := h.at_ hn
    exact ⟨b, off, e, (Array.getElem?_eq_some_iff.1 hb).1, hc⟩⟩
theorem RdT.keep {w w' : World} {lo n : Nat} {A : Option Addr} {l : List Int} (h : RdT w lo A n l) (hk : ∀ i c, w.heap[i]? = some (.cells c 5 (0, 0)) → lo ≤ i → w'.heap[i]? = w.heap[i]?) : RdT w' lo A n l :=
  ⟨h.len, h.oct, fun hn => by
    obtain ⟨b, off, cur, e, hl, hb, hc⟩ := h.at_ hn
    have hs := hk b cur hb hl
    exact ⟨b, off, cur, e, hl, hs.trans hb, fun i hi => (World.cell?_of_block (a := ⟨b, off + i, none⟩) hs).trans (hc i hi)⟩⟩
theorem RdT.of_own {w : World} {lo : Nat} {v : Value} {l : List Int} (h : w.ownsRow lo 5 1 v l.length (u8s l)) (ho : Oct l) : ∃ A k, v = .slice A l.length k ∧ l.length ≤ k ∧ RdT w lo A l.length l := by
  obtain ⟨A, k, rfl, hk, hr, hA⟩ := own_at ⟨h.1, h.2.imp id fun ⟨g, cap, cur, h1, _, h3⟩ => ⟨g, cap, cur, h1, Nat.zero_le _, h3⟩⟩ ho
  refine ⟨A, k, rfl, hk, rfl, ho, fun hn => ?_⟩
  obtain ⟨b, off, rfl, hb, hc⟩ := hr.at_ hn
  have e := hA b off rfl
  obtain ⟨cur, hcur⟩ := own_heap h e
  exact ⟨b, off, cur, rfl, (h.lt b e).1, hcur, hc⟩
theorem RdT.cut {w : World} {lo n c k m : Nat} {A : Option Addr} {l : List Int} (h : RdT w lo A n l) (hk : k + m ≤ n) (hc : n ≤ c) :
    RdT w lo (if c = k then A else A.map (fun x => x.add k)) m ((l.drop k).take m) := by
  have hr := h.rd.cut hk hc
  refine ⟨hr.len, hr.oct, fun hm => ?_⟩
  obtain ⟨b, off, cur, rfl, hl, hb, _⟩ := h.at_ (by omega)
  obtain ⟨b2, off2, e2, _, hc2⟩ := hr.at_ hm
  rw [if_neg (by omega)] at e2 ⊢
  have e : (⟨b, off, none⟩ : Addr).add k = ⟨b, off + k, none⟩ := by unfold Addr.add; split <;> simp_all
  rw [Option.map_some, e] at e2
  injection e2 with e2
  injection e2 with e3 e4
  subst e3 e4
  exact ⟨b, off + k, cur, by rw [Option.map_some, e], hl, hb, hc2⟩

theorem app_rout_wp {o : Oper} {a : Act} {K : Act → World → Prop} {Q : Exit → Act → World → Prop} (s x : Operand) (ho : o.op = .call { callee := .builtin .append, args := #[s, x], argTypes := #[40, 40] })
    {lo : Nat} {w : World} {v : Value} {T : List Msg} (h : ROut lo w v T) (hlo : lo ≤ w.heap.size) (hlen : T.length ≤ 4000000000000) {k : Int} {A : Option Addr} {n c : Nat} {body : List Int} (hb : RBd lo w A n body) (hs : a.eval s = v) (hx : a.eval x = .slice (some ⟨w.heap.size, 0, none⟩) 1 1)
    (hk : ∀ v' w', ROut lo w' v' (T ++ [(k, body)]) → w.grownBy w' v.ownBlock → (∀ i, v.ownBlock = some i → lo ≤ i ∧ ∃ c, w.heap[i]? = some (.cells c 24 (0, 0))) → K (a.put o.dst v') w') :
    o.wp Try.prog a (w.alloc (.cells #[.int .i64 k, .slice A n c] 24)) K Q := by
  obtain ⟨i, hi, hz0, hz1, hz2⟩ := info_parts info_msg
  obtain ⟨cs, h1, h2⟩ := h
  have hB := Blk.new w 24 #[.int .i64 k, .slice A n c]
  have hsrc : ∀ j u, [Value.int .i64 k, Value.slice A n c][j]? = some u → (w.alloc (.cells #[.int .i64 k, .slice A n c] 24)).cell? ((⟨w.heap.size, 0, none⟩ : Addr).add j) = some u := by
    intro j u hu
    rw [show ((⟨w.heap.size, 0, none⟩ : Addr).add j) = ⟨w.heap.size, j, none⟩ from by unfold Addr.add; split <;> simp_all, hB.cell]
    simpa using hu
  have hone : ∀ u ∈ [Value.int .i64 k, Value.slice A n c], u.oneCell' = true := by
    intro u hu
    simp only [List.mem_cons, List.mem_nil_iff, or_false] at hu
    rcases hu with rfl | rfl <;> rfl
  obtain ⟨v', w', hrun, hown, hgr, _, _⟩ := run_append_own_at (P := Try.prog) (w.alloc (.cells #[.int .i64 k, .slice A n c] 24)) lo 40 o.type 24 i _ 2 32 Try.underlying40 hi hz0 hz1 hz2 rfl (by decide) v T.length cs (h1.alloc _) ⟨w.heap.size, 0, none⟩ 1 1 [.int .i64 k, .slice A n c] rfl hsrc hone (by unfold maxLen; omega) (by omega) (by simp; omega)
  unfold Oper.wp execOp
  simp only [ho, resolve, invoke, builtin, Sem.run_bind, Sem.run_pure, Result.andThen_ok, List.map_toArray, List.map_cons, List.map_nil, hs, hx, hrun]
  have hold : ∀ i, v.ownBlock = some i → lo ≤ i ∧ ∃ c, w.heap[i]? = some (.cells c 24 (0, 0)) := fun i hi => ⟨(h1.lt i hi).1, own_heap h1 hi⟩
  have hg2 : w.grownBy w' v.ownBlock := ⟨hgr.os, hgr.tape, hgr.output, Nat.le_trans (by simp) hgr.size, fun j hj hne => (hgr.block j (by simp; omega) hne).trans (Below.heap_alloc _ _ _ hj)⟩
  have hkeep : ∀ A n l, RBd lo w A n l → RBd lo w' A n l := fun A n l hb => hb.keep fun j c hj _ => hg2.block j (Array.getElem?_eq_some_iff.1 hj).1 (fun e => by
    obtain ⟨_, c', hc'⟩ := hold j e.symm
    exact row_ne hj hc' (by decide) rfl)
  exact hk v' w' ⟨_, by simpa using hown, (h2.imp hkeep).app (Ms.one (hkeep _ _ _ hb))⟩ hg2 hold

/-- The relation of the document's Feed. -/
def RRel (w : World) (C0 b0 : List Int) (al out : Value) (wr : World) : Prop :=
  ∃ R T A k, al = .slice A R.length k ∧ R.length ≤ k ∧ RdT wr w.heap.size A R.length R ∧ ROut w.heap.size wr out T ∧ Below w.heap.size w wr ∧ parse (C0 ++ b0) = (T ++ (parse R).1, (parse R).2) ∧ R.length ≤ C0.length + b0.length
/-- What the document's Feed answers. -/
def RFed (w : World) (g : Nat) (q : Option Nat) (st : St) (b : List Int) (e : Ending) (w' : World) : Prop :=
  ∃ v q', e = .returned v ∧ ROut w.heap.size w' v (feed st b).1 ∧ RIsS w' g q' (feed st b).2 ∧ At w.heap.size q q' ∧ w.grownBy w' (some g)

set_option maxHeartbeats 1000000 in
theorem rfeed_bad (w : World) (g : Nat) (q : Option Nat) (f : Flt) (A : Option Addr) (n c : Nat) (h : RBad w g q f) : Calls Try.prog 21 #[.pointer (some ⟨g, 0, none⟩), .slice A n c] w fun e w' => e = .returned (.slice none 0 0) ∧ w = w' := by
  obtain ⟨A1, n1, hS, _⟩ := h
  have c4 : w.cell? ⟨g, 4, none⟩ = some (.bool true) := Blk.cell hS 4
  clear hS
  go_enter Try.func21, Try.ntmps21
  go_wp2
  go_ret
  exact ⟨rfl, rfl⟩

theorem ROut.below {lo : Nat} {w w' : World} {v : Value} {T : List Msg} (h : ROut lo w v T) (hb : Below w.heap.size w w') : ROut lo w' v T := h.kept fun i c t hi _ _ => hb.block i (Array.getElem?_eq_some_iff.1 hi).1
theorem RdT.below {w w' : World} {lo n : Nat} {A : Option Addr} {l : List Int} (h : RdT w lo A n l) (hb : Below w.heap.size w w') : RdT w' lo A n l := h.keep fun i c hi _ => hb.block i (Array.getElem?_eq_some_iff.1 hi).1

/-- The end: what is left is kept. -/
theorem rfed_end {w wr w5 : World} {g : Nat} {q : Option Nat} {C0 b0 R : List Int} {T : List Msg} {out v5 bv : Value} {code sub : Int} {dv : Value} (hgl : g < w.heap.size) (hT : ROut w.heap.size wr out T) (hS : RStrB wr g bv code sub dv false) (hB : Below w.heap.size w wr) (hQ : Quiet R) (hO : Oct R)
    (hp : parse (C0 ++ b0) = (T ++ (parse R).1, (parse R).2)) (ho5 : w5.ownsRow w.heap.size 5 1 v5 R.length (u8s R)) (hg5 : (wr.alloc (.cells #[] 5)).grownBy w5 (Value.ownBlock (.slice (some ⟨wr.heap.size, 0, none⟩) 0 0))) :
    RFed w g q (.wait C0) b0 (.returned out) (w5.setCell ⟨g, 0, none⟩ v5) := by
  have hb5 : Below wr.heap.size wr w5 := ((Below.refl _ wr).alloc (Nat.le_refl _) _).grown hg5 (by simp) (fun i e => by simp [Value.ownBlock] at e; omega)
  have hS5 : RStrB w5 g bv code sub dv false := Blk.below hS hb5 (by have := hB.size; omega)
  have hne : v5.ownBlock ≠ some g := own_ne ho5 hS5 (by decide)
  have hpe : feed (.wait C0) b0 = (T, .wait R) := by
    show parse (C0 ++ b0) = _
    rw [hp, parse_quiet hQ]
    simp
  refine ⟨out, v5.ownBlock, rfl, ?_, ?_, ?_, ?_⟩
  · rw [hpe]
    exact (hT.below hb5).kept fun i c t hi _ ht => Below.heap_setCell _ _ _ _ (fun e => by
      have e' : i = g := e
      subst e'
      rcases ht with rfl | rfl
      · exact row_ne hi hS5 (by decide) rfl
      · exact row_ne hi hS5 (by decide) rfl)
  · rw [hpe]
    exact ⟨⟨v5, code, sub, dv, Blk.set_ hS5 0 v5, own_keep ⟨ho5.1, ho5.2.imp id fun ⟨g, cap, cur, h1, _, h3⟩ => ⟨g, cap, cur, h1, Nat.zero_le _, h3⟩⟩ fun i c hi _ hv => Below.heap_setCell _ _ _ _ (fun e => hne (by rw [hv]; exact congrArg some e)), rfl⟩, hQ, hO⟩
  · cases hv : v5.ownBlock with
    | none => exact .inr (.inl rfl)
    | some i => exact .inr (.inr ⟨i, rfl, (ho5.lt i hv).1⟩)
  · exact only_set1 (only_of_below (hB.trans (hb5.mono hB.size)) (some g)) 0 v5

/-- A fault: what came is dropped. -/
theorem rfed_fault {w wr wx : World} {g : Nat} {q : Option Nat} {C0 b0 R : List Int} {T : List Msg} {out bv dv : Value} {code sub : Int} {f : Flt} {A1 : Option Addr} {n1 : Nat} (hgl : g < w.heap.size) (hT : ROut w.heap.size wx out T) (hS : RStrB wx g bv code sub dv false) (hB : Below w.heap.size w wx)
    (hp : parse (C0 ++ b0) = (T, .bad f)) (hf : Fresh wr.heap.size wx A1 n1 f.data) (hsz : w.heap.size ≤ wr.heap.size) :
    RFed w g q (.wait C0) b0 (.returned out) (((((wx.setCell ⟨g, 1, none⟩ (.int .i64 f.code)).setCell ⟨g, 2, none⟩ (.int .i64 f.sub)).setCell ⟨g, 3, none⟩ (.slice A1 n1 n1)).setCell ⟨g, 4, none⟩ (.bool true)).setCell ⟨g, 0, none⟩ (.slice none 0 0)) := by
  have hpe : feed (.wait C0) b0 = (T, .bad f) := hp
  have hheap : ∀ i, i ≠ g → (((((wx.setCell ⟨g, 1, none⟩ (.int .i64 f.code)).setCell ⟨g, 2, none⟩ (.int .i64 f.sub)).setCell ⟨g, 3, none⟩ (.slice A1 n1 n1)).setCell ⟨g, 4, none⟩ (.bool true)).setCell ⟨g, 0, none⟩ (.slice none 0 0)).heap[i]? = wx.heap[i]? := fun i hi => by
    rw [Below.heap_setCell _ _ _ _ (by exact hi), Below.heap_setCell _ _ _ _ (by exact hi), Below.heap_setCell _ _ _ _ (by exact hi), Below.heap_setCell _ _ _ _ (by exact hi), Below.heap_setCell _ _ _ _ (by exact hi)]
  have hS' := Blk.set_ (Blk.set_ (Blk.set_ (Blk.set_ (Blk.set_ hS 1 (.int .i64 f.code)) 2 (.int .i64 f.sub)) 3 (.slice A1 n1 n1)) 4 (.bool true)) 0 (.slice none 0 0)
  have hout : ROut w.heap.size _ out T := hT.kept (w' := ((((wx.setCell ⟨g, 1, none⟩ (.int .i64 f.code)).setCell ⟨g, 2, none⟩ (.int .i64 f.sub)).setCell ⟨g, 3, none⟩ (.slice A1 n1 n1)).setCell ⟨g, 4, none⟩ (.bool true)).setCell ⟨g, 0, none⟩ (.slice none 0 0)) fun i c t hi _ ht => hheap i (fun e => by
    subst e
    rcases ht with rfl | rfl
    · exact row_ne hi hS (by decide) rfl
    · exact row_ne hi hS (by decide) rfl)
  have hgr : w.grownBy (((((wx.setCell ⟨g, 1, none⟩ (.int .i64 f.code)).setCell ⟨g, 2, none⟩ (.int .i64 f.sub)).setCell ⟨g, 3, none⟩ (.slice A1 n1 n1)).setCell ⟨g, 4, none⟩ (.bool true)).setCell ⟨g, 0, none⟩ (.slice none 0 0)) (some g) := only_set1 (only_set1 (only_set1 (only_set1 (only_set1 (only_of_below hB (some g)) 1 _) 2 _) 3 _) 4 _) 0 _
  obtain ⟨h1, h2, h3⟩ := hf
  rcases h3 with h0 | ⟨i, rfl, hi, hb⟩
  · exact ⟨out, none, rfl, by rw [hpe]; exact hout, by rw [hpe]; exact ⟨A1, n1, hS', h1, h2, .inl h0, fun i e => by cases e⟩, .inr (.inl rfl), hgr⟩
  · have hig : i ≠ g := by omega
    have hlt : ∀ j, some i = some j → j < (((((wx.setCell ⟨g, 1, none⟩ (.int .i64 f.code)).setCell ⟨g, 2, none⟩ (.int .i64 f.sub)).setCell ⟨g, 3, none⟩ (.slice (some ⟨i, 0, none⟩) n1 n1)).setCell ⟨g, 4, none⟩ (.bool true)).setCell ⟨g, 0, none⟩ (.slice none 0 0)).heap.size := fun j e => by
      injection e with e
      subst e
      have := hb.lt
      simpa [World.setCell] using this
    exact ⟨out, some i, rfl, by rw [hpe]; exact hout, by rw [hpe]; exact ⟨_, n1, hS', h1, h2, .inr ⟨i, rfl, rfl, (hheap i hig).trans hb⟩, hlt⟩, .inr (.inr ⟨i, rfl, by omega⟩), hgr⟩

theorem RFed.alloc {w W : World} {g : Nat} {q : Option Nat} {st : St} {b : List Int} {e : Ending} (h : RFed w g q st b e W) (o : Obj) : RFed w g q st b e (W.alloc o) := by
  obtain ⟨v, q', rfl, h1, h2, h3, h4⟩ := h
  have hb : Below W.heap.size W (W.alloc o) := (Below.refl _ _).alloc (Nat.le_refl _) _
  exact ⟨v, q', rfl, h1.below hb, h2.below hb, h3, only_alloc h4 o⟩

set_option maxHeartbeats 4000000 in
set_option maxRecDepth 100000 in
theorem rfeed_wait (w : World) (g : Nat) (q : Option Nat) (C0 b0 : List Int) (A0 : Option Addr) (n0 c0 : Nat) (hn0 : b0.length = n0) (h : RWait w g q C0) (hr : Rd w w.heap.size A0 n0 b0) (hm : n0 ≤ 4000000000000) :
    Calls Try.prog 21 #[.pointer (some ⟨g, 0, none⟩), .slice A0 n0 c0] w (RFed w g q (.wait C0) b0) := by
  obtain ⟨bv, code, sub, dv, hS, hO, hq⟩ := h.ex
  have hgl := Blk.lt hS
  have hC0 := h.quiet.small
  have hoC := h.oct
  obtain ⟨Ac, kc, rfl, hkc, hRc, hAc⟩ := own_at hO hoC
  have HQ0 := Lib.hid h.quiet
  have HO0 := Lib.hid hoC
  have c4 : w.cell? ⟨g, 4, none⟩ = some (.bool false) := Blk.cell hS 4
  have c0' : w.cell? ⟨g, 0, none⟩ = some (.slice Ac C0.length kc) := Blk.cell hS 0
  have HS := Lib.hid hS
  have HRc := Lib.hid hRc
  have HR := Lib.hid hr
  have HN := Lib.hid hn0
  have HE1 := Lib.hid (own_empty w w.heap.size (Nat.le_refl _))
  have HW1 : Hid (Below w.heap.size w (w.alloc (.cells #[] 5))) := Lib.hid ((Below.refl _ _).alloc (Nat.le_refl _) _)
  clear h hS hO hq hRc hr hn0 hoC hAc
  go_enter Try.func21, Try.ntmps21
  go_wp2_with (at_builtin; refine app_any (lo := w.heap.size) (w := w.alloc (.cells #[] 5)) (P := []) (A := Ac) (m := C0.length) (c := kc) (news := C0) rfl _ _ rfl HE1.out (by simp) ((HRc.out.below HW1.out).more HW1.out.size) (by simp; omega) rfl rfl ?_)
  intro v2 w2 ho2' hg2 hat2
  have ho2 : w2.ownsRow w.heap.size 5 1 v2 C0.length (u8s C0) := by simpa using ho2'
  clear ho2'
  have hW2 : Below w.heap.size w w2 := HW1.out.grown hg2 HW1.out.size (fun i e => by simp [Value.ownBlock] at e; omega)
  have HW2 := Lib.hid hW2
  have HO2 := Lib.hid ho2
  clear ho2 hg2 hat2 hW2 HE1 HW1
  go_wp2_with (at_builtin; refine app_any (lo := w.heap.size) (w := w2) (P := C0) (A := A0) (m := n0) (c := c0) (news := b0) rfl _ _ rfl HO2.out HW2.out.size ((HR.out.below HW2.out).more HW2.out.size) (by omega) rfl rfl ?_)
  intro v3 w3 ho3' hg3 hat3
  have ho3 : w3.ownsRow w.heap.size 5 1 v3 (C0 ++ b0).length (u8s (C0 ++ b0)) := by simpa using ho3'
  clear ho3'
  have hW3 : Below w.heap.size w w3 := HW2.out.grown hg3 HW2.out.size (fun i e => (HO2.out.lt i e).1)
  have HW3 := Lib.hid hW3
  obtain ⟨Aa, ka, rfl, hka, hra⟩ := RdT.of_own ho3 (oct_app HO0.out HR.out.oct)
  have HRa := Lib.hid hra
  have HOc := Lib.hid (oct_app HO0.out HR.out.oct)
  have HLt : Hid ((C0 ++ b0).length = C0.length + b0.length) := Lib.hid (by simp)
  clear ho3 hg3 hat3 hW3 HW2 HO2 hra c0' c4
  generalize hR0 : C0 ++ b0 = R0 at *
  have HR0 := Lib.hid hR0
  clear hR0
  go_wp2
  go_loopw [5, 6] (fun al out wr => RRel w C0 b0 al out wr) (fun al _ _ => lenOfV al)
  case atStart =>
    exact ⟨R0, [], Aa, ka, rfl, hka, HRa.out, ⟨[], World.ownsRow_nil _ _ _ _, Ms.nil_⟩, HW3.out, by rw [HR0.out]; simp, by rw [HLt.out]; omega⟩
  case round =>
    obtain ⟨R, T, A, k, rfl, hk, hRd, hT, hB, hp, hRl⟩ := hrel
    have HRd := Lib.hid hRd
    have HT := Lib.hid hT
    have HB := Lib.hid hB
    have HP := Lib.hid hp
    have hnn := HN.out
    have hRm : R.length ≤ 5000000000000 := by omega
    have HSr : Hid (RStrB wr g (.slice Ac C0.length kc) code sub dv false) := Lib.hid (Blk.below HS.out hB hgl)
    have hszr := hB.size
    clear hRd hT hB hp
    by_cases h19 : R.length < 19
    · have h19I : ¬ (R.length : Int) ≥ 19 := by omega
      have HSh := Lib.hid (parse_short h19)
      have HEw := Lib.hid (own_empty wr w.heap.size hszr)
      have HWw : Hid (Below wr.heap.size wr (wr.alloc (.cells #[] 5))) := Lib.hid ((Below.refl _ _).alloc (Nat.le_refl _) _)
      go_wp2_with (at_builtin; refine app_any (lo := w.heap.size) (w := wr.alloc (.cells #[] 5)) (P := []) (A := A) (m := R.length) (c := k) (news := R) rfl _ _ rfl HEw.out (by simp; omega) ((HRd.out.rd.below HWw.out).more HWw.out.size) (by simp; omega) rfl rfl ?_)
      intro v5 w5 ho5' hg5 hat5
      have ho5 : w5.ownsRow w.heap.size 5 1 v5 R.length (u8s R) := by simpa using ho5'
      clear ho5'
      have HFin : Hid (RFed w g q (.wait C0) b0 (.returned u6) (w5.setCell ⟨g, 0, none⟩ v5)) := Lib.hid (rfed_end hgl HT.out HSr.out HB.out (.inl h19) HRd.out.oct HP.out ho5 hg5)
      have hb5 : Below wr.heap.size wr w5 := ((Below.refl _ wr).alloc (Nat.le_refl _) _).grown hg5 (by simp) (fun i e => by simp [Value.ownBlock] at e; omega)
      have hS5 : RStrB w5 g (.slice Ac C0.length kc) code sub dv false := Blk.below HSr.out hb5 (by omega)
      have d0 : w5.cell? ⟨g, 0, none⟩ = some (.slice Ac C0.length kc) := Blk.cell hS5 0
      have f0 : w5.frozen? ⟨g, 0, none⟩ = false := Blk.frozen hS5 0
      obtain ⟨A5, k5, rfl, _⟩ := RdT.of_own ho5 HRd.out.oct
      clear ho5 hg5 hat5 hb5 hS5
      go_wp2
      go_ret
      exact HFin.out
    · have h19I : (R.length : Int) ≥ 19 := by omega
      go_wp2_with fail
      refine (rlook_is wr A R.length k R HRd.out.rd (by omega) (by omega)).mono ?_
      rintro e w1 ⟨v, rfl, ⟨A1, n1, rfl, hf1⟩, hb1⟩
      have HF1 := Lib.hid hf1
      have HB1 := Lib.hid hb1
      clear hf1 hb1
      cases hh : hdr R with
      | some f =>
        simp only [hh, Option.isSome_some, Option.getD_some, if_true] at HF1 ⊢
        have HPb : Hid (parse (C0 ++ b0) = (T, .bad f)) := Lib.hid (by rw [HP.out, parse_bad (by omega) hh]; simp)
        have hgw : g < w1.heap.size := by have := HB1.out.size; omega
        have hS1 : RStrB w1 g (.slice Ac C0.length kc) code sub dv false := Blk.below HSr.out HB1.out (by omega)
        have k0 : w1.cell? ⟨g, 0, none⟩ = some (.slice Ac C0.length kc) := Blk.cell hS1 0
        have k1 : w1.cell? ⟨g, 1, none⟩ = some (.int .i64 code) := Blk.cell hS1 1
        have k2 : w1.cell? ⟨g, 2, none⟩ = some (.int .i64 sub) := Blk.cell hS1 2
        have k3 : w1.cell? ⟨g, 3, none⟩ = some dv := Blk.cell hS1 3
        have k4 : w1.cell? ⟨g, 4, none⟩ = some (.bool false) := Blk.cell hS1 4
        have z0 : w1.frozen? ⟨g, 0, none⟩ = false := Blk.frozen hS1 0
        have z1 : w1.frozen? ⟨g, 1, none⟩ = false := Blk.frozen hS1 1
        have z2 : w1.frozen? ⟨g, 2, none⟩ = false := Blk.frozen hS1 2
        have z3 : w1.frozen? ⟨g, 3, none⟩ = false := Blk.frozen hS1 3
        have z4 : w1.frozen? ⟨g, 4, none⟩ = false := Blk.frozen hS1 4
        have HFin := Lib.hid (rfed_fault (q := q) (R := R) hgl (HT.out.below HB1.out) hS1 (HB.out.trans (HB1.out.mono hszr)) HPb.out HF1.out hszr)
        clear hh HF1 hS1
        go_wp2
        go_ret
        exact HFin.out.alloc _
      | none =>
        simp only [hh, Option.isSome_none, Option.getD_none] at HF1 ⊢
        have hl := lenN_none hh
        have HH := Lib.hid hh
        have hbx : Below wr.heap.size wr (w1.alloc (.cells #[.int .i64 0, .int .i64 0, .slice A1 n1 n1] 43)) := HB1.out.alloc HB1.out.size _
        have HTx := Lib.hid (HT.out.below hbx)
        have HSx : Hid (RStrB (w1.alloc (.cells #[.int .i64 0, .int .i64 0, .slice A1 n1 n1] 43)) g (.slice Ac C0.length kc) code sub dv false) := Lib.hid (Blk.below HSr.out hbx (by omega))
        have HBx : Hid (Below w.heap.size w (w1.alloc (.cells #[.int .i64 0, .int .i64 0, .slice A1 n1 n1] 43))) := Lib.hid (HB.out.trans (hbx.mono hszr))
        have HRx := Lib.hid (HRd.out.below hbx)
        have hszx : w.heap.size ≤ (w1.alloc (.cells #[.int .i64 0, .int .i64 0, .slice A1 n1 n1] 43)).heap.size := HBx.out.size
        have hlN := Lib.hid hl
        obtain ⟨N, hNe⟩ : ∃ N, lenN R = N := ⟨_, rfl⟩
        have HNe := Lib.hid hNe
        have hLI : lenI R = (N : Int) := by rw [← hNe]; exact hl.1.symm
        have hN19 : 19 ≤ N := by omega
        have hN4 : N ≤ 4096 := by omega
        rw [hLI]
        clear hbx hh HF1 hl hLI hNe HT HSr HB HB1 HRd
        go_upto_region 10 with fail
        generalize w1.alloc (.cells #[.int .i64 0, .int .i64 0, .slice A1 n1 n1] 43) = wx at *
        by_cases hlt : R.length < N
        · have HQ' : Hid (Quiet R) := Lib.hid (.inr ⟨HH.out, by rw [HNe.out]; exact hlt⟩)
          have HEw := Lib.hid (own_empty wx w.heap.size hszx)
          have HWw : Hid (Below wx.heap.size wx (wx.alloc (.cells #[] 5))) := Lib.hid ((Below.refl _ _).alloc (Nat.le_refl _) _)
          go_wp2_with (at_builtin; refine app_any (lo := w.heap.size) (w := wx.alloc (.cells #[] 5)) (P := []) (A := A) (m := R.length) (c := k) (news := R) rfl _ _ rfl HEw.out (by simp; omega) ((HRx.out.rd.below HWw.out).more HWw.out.size) (by simp; omega) rfl rfl ?_)
          intro v5 w5 ho5' hg5 hat5
          have ho5 : w5.ownsRow w.heap.size 5 1 v5 R.length (u8s R) := by simpa using ho5'
          clear ho5'
          have HFin : Hid (RFed w g q (.wait C0) b0 (.returned u6) (w5.setCell ⟨g, 0, none⟩ v5)) := Lib.hid (rfed_end hgl HTx.out HSx.out HBx.out HQ'.out HRx.out.oct HP.out ho5 hg5)
          have hb5 : Below wx.heap.size wx w5 := ((Below.refl _ wx).alloc (Nat.le_refl _) _).grown hg5 (by simp) (fun i e => by simp [Value.ownBlock] at e; omega)
          have hS5 : RStrB w5 g (.slice Ac C0.length kc) code sub dv false := Blk.below HSx.out hb5 (by omega)
          have d0 : w5.cell? ⟨g, 0, none⟩ = some (.slice Ac C0.length kc) := Blk.cell hS5 0
          have f0 : w5.frozen? ⟨g, 0, none⟩ = false := Blk.frozen hS5 0
          obtain ⟨A5, k5, rfl, _⟩ := RdT.of_own ho5 HRx.out.oct
          clear ho5 hg5 hat5 hb5 hS5
          go_wp2
          go_ret
          exact HFin.out
        · obtain ⟨b, off, cur, rfl, hlb, hhb, hcell⟩ := HRx.out.at_ (by omega)
          have HC18 : Hid (∀ W, RdT W w.heap.size (some ⟨b, off, none⟩) R.length R → W.cell? ⟨b, off + 18, none⟩ = some (.int .u8 (kindI R))) := Lib.hid fun W hW => by
            obtain ⟨b', off', _, e, _, _, hc⟩ := hW.at_ (by omega)
            injection e with e
            injection e with e1 e2
            subst e1 e2
            exact hc 18 (by omega)
          have hkd : 0 ≤ kindI R ∧ kindI R < 256 := HRx.out.oct.getD 18
          have w18 : IntKind.i64.wrap (kindI R) = kindI R := IntWalk.i64_in _ (by omega)
          have hkI : (18 : Int) < (R.length : Int) := by omega
          have hNI : (19 : Int) ≤ (N : Int) := by omega
          have hNk : (N : Int) ≤ (k : Int) := by omega
          obtain ⟨A7, hA7⟩ : ∃ A7, (if k = 19 then some (⟨b, off, none⟩ : Addr) else some ⟨b, off + 19, none⟩) = A7 := ⟨_, rfl⟩
          have HR7 : Hid (∀ W, RdT W w.heap.size (some ⟨b, off, none⟩) R.length R → RdT W w.heap.size A7 (N - 19) ((R.drop 19).take (N - 19))) := Lib.hid fun W hW => by
            have h := hW.cut (k := 19) (m := N - 19) (by omega) hk
            have e : (if k = 19 then some (⟨b, off, none⟩ : Addr) else (some (⟨b, off, none⟩ : Addr)).map (fun x => x.add 19)) = A7 := by
              rw [← hA7]
              split
              · rfl
              · simp [Addr.add]
            rw [e] at h
            exact h
          have HMsg : Hid (msgOf R = (kindI R, (R.drop 19).take (N - 19))) := Lib.hid (by unfold msgOf; rw [HNe.out])
          have HCnt : Hid (T.length ≤ 4000000000000) := Lib.hid (by
            have h := parse_count (C0 ++ b0)
            rw [HP.out] at h
            simp at h
            omega)
          have HBl : Hid (((R.drop 19).take (N - 19)).length = N - 19) := Lib.hid (by simp; omega)
          have HOb : Hid (Oct ((R.drop 19).take (N - 19))) := Lib.hid (oct_take (oct_drop HRx.out.oct _) _)
          clear hcell hhb hlb
          generalize (R.drop 19).take (N - 19) = bd at *
          generalize kindI R = kd at *
          go_upto_region 11 with fail
          refine wp_region_held_drew (S := fun W => Below w.heap.size w W ∧ RdT W w.heap.size (some ⟨b, off, none⟩) R.length R) (by kernel_rfl) (⟨below_drewN HBx.out 1, HRx.out.keep fun _ _ _ _ => rfl⟩) (fun hS => ?_)
          refine wpAnyH_take (i := 0) (oi := ⟨some 51, _, _, _, _, _⟩) (v := ?_) rfl (by kernel_rfl) (by kernel_rfl) (by kernel_rfl) (fun _ _ _ h => h) (Or.inl ⟨by rfl, ?_⟩) hS ?_
          rotate_left
          · intro wq hq
            first | (go_simp; done) | (go_simp; rfl)
          try simp only [Act.put, List.setIfInBounds_toArray, List.set_cons_zero, List.set_cons_succ]
          refine wpAnyH_take (i := 1) (oi := ⟨some 52, _, _, _, _, _⟩) (v := ?_) rfl (by kernel_rfl) (by kernel_rfl) (by kernel_rfl) (fun _ _ _ h => h) (Or.inl ⟨by rfl, ?_⟩) hS ?_
          rotate_left
          · intro wq hq
            first | (go_simp; done) | (go_simp; rfl)
          try simp only [Act.put, List.setIfInBounds_toArray, List.set_cons_zero, List.set_cons_succ]
          refine wpAnyH_take (i := 2) (oi := ⟨some 53, _, _, _, _, _⟩) (v := ?_) rfl (by kernel_rfl) (by kernel_rfl) (by kernel_rfl) (fun _ _ _ h => h) (Or.inl ⟨by rfl, ?_⟩) hS ?_
          rotate_left
          · intro wq hq
            first | (go_simp; done) | (go_simp; rfl)
          try simp only [Act.put, List.setIfInBounds_toArray, List.set_cons_zero, List.set_cons_succ]
          refine wpAnyH_take (i := 3) (oi := ⟨some 54, _, _, _, _, _⟩) (v := ?_) rfl (by kernel_rfl) (by kernel_rfl) (by kernel_rfl) (fun _ _ _ h => h) (Or.inl ⟨by rfl, ?_⟩) hS ?_
          rotate_left
          · intro wq hq
            have hc := HC18.out wq hq.2
            first | (go_simp; done) | (go_simp; rfl)
          try simp only [Act.put, List.setIfInBounds_toArray, List.set_cons_zero, List.set_cons_succ]
          refine wpAnyH_take (i := 4) (oi := ⟨some 55, _, _, _, _, _⟩) (v := ?_) rfl (by kernel_rfl) (by kernel_rfl) (by kernel_rfl) (fun _ _ _ h => h) (Or.inl ⟨by rfl, ?_⟩) hS ?_
          rotate_left
          · intro wq hq
            first | (go_simp; done) | (go_simp; rfl)
          try simp only [Act.put, List.setIfInBounds_toArray, List.set_cons_zero, List.set_cons_succ]
          refine wpAnyH_take (i := 6) (oi := ⟨some 57, _, _, _, _, _⟩) (v := ?_) rfl (by kernel_rfl) (by kernel_rfl) (by kernel_rfl) (fun _ _ _ h => h) (Or.inl ⟨by rfl, ?_⟩) hS ?_
          rotate_left
          · intro wq hq
            first | (go_simp; done) | (go_simp; rfl)
          try simp only [Act.put, List.setIfInBounds_toArray, List.set_cons_zero, List.set_cons_succ]
          refine wpAnyH_take (i := 7) (oi := ⟨some 58, _, _, _, _, _⟩) (v := ?_) rfl (by kernel_rfl) (by kernel_rfl) (by kernel_rfl) (fun _ _ _ h => h) (Or.inl ⟨by rfl, ?_⟩) hS ?_
          rotate_left
          · intro wq hq
            first | (go_simp; done) | (go_simp; rfl)
          try simp only [Act.put, List.setIfInBounds_toArray, List.set_cons_zero, List.set_cons_succ]
          refine wpAnyH_take (i := 8) (oi := ⟨some 59, _, _, _, _, _⟩) (v := ?_) rfl (by kernel_rfl) (by kernel_rfl) (by kernel_rfl) (fun _ _ _ h => h) (Or.inl ⟨by rfl, ?_⟩) hS ?_
          rotate_left
          · intro wq hq
            first | (go_simp; done) | (go_simp; rfl)
          try simp only [Act.put, List.setIfInBounds_toArray, List.set_cons_zero, List.set_cons_succ]
          have hSx := hS
          refine wpAnyH_ready (rs := [5]) (by kernel_rfl) (by simp) ?_
          refine AllReadyH.cons (o := ⟨some 56, _, _, _, _, _⟩) rfl (fun K hK => ?_) AllReadyH.nil
          rw [if_pos (by rfl)]
          go_wp2
          have hb8 : Below wx.heap.size wx ((wx.drew).alloc (.cells #[] 5)) := (below_drewN (Below.refl _ wx) 1).alloc (Nat.le_refl _) _
          have HW8 : Hid (Below w.heap.size w ((wx.drew).alloc (.cells #[] 5))) := Lib.hid (HBx.out.trans (hb8.mono hszx))
          have HR8 := Lib.hid (HRx.out.below hb8)
          have HT8 := Lib.hid (HTx.out.below hb8)
          have HE8 := Lib.hid (own_empty wx.drew w.heap.size hszx)
          refine hK.out _ _ ⟨HW8.out, HR8.out⟩ (fun hS => ?_)
          clear hK K hb8 hSx
          try simp only [Act.put, List.setIfInBounds_toArray, List.set_cons_zero, List.set_cons_succ]
          refine wpAnyH_ready (rs := [9]) (by kernel_rfl) (by simp) ?_
          refine AllReadyH.cons (o := ⟨some 60, _, _, _, _, _⟩) rfl (fun K hK => ?_) AllReadyH.nil
          rw [if_pos (by rfl)]
          refine app_any_wp (lo := w.heap.size) (w := (wx.drew).alloc (.cells #[] 5)) (P := []) (A := A7) (m := N - 19) (c := k - 19) (news := bd) _ _ rfl HE8.out HW8.out.size (HR7.out _ HR8.out).rd (by simp; omega) rfl rfl ?_
          intro v9 w9 ho9' hg9 _
          have ho9 : w9.ownsRow w.heap.size 5 1 v9 bd.length (u8s bd) := by simpa using ho9'
          clear ho9'
          have hlo9 : ∀ i, Value.ownBlock (.slice (some ⟨wx.heap.size, 0, none⟩) 0 0) = some i → wx.heap.size ≤ i := by
            intro i e
            simp [Value.ownBlock] at e
            omega
          have hb9 : Below wx.heap.size wx w9 := ((below_drewN (Below.refl _ wx) 1).alloc (Nat.le_refl _) (.cells #[] 5)).grown hg9 (by simp) hlo9
          have HW9 : Hid (Below w.heap.size w w9) := Lib.hid (HBx.out.trans (hb9.mono hszx))
          have HR9 := Lib.hid (HRx.out.below hb9)
          have HT9 := Lib.hid (HTx.out.below hb9)
          obtain ⟨A9, k9, rfl, _, hrt9⟩ := RdT.of_own ho9 HOb.out
          have HBd : Hid (RBd w.heap.size w9 A9 bd.length bd) := Lib.hid ⟨HOb.out, rfl, by
            rcases ho9.2 with ⟨e, _⟩ | ⟨i, cap, cu, e, _⟩
            · injection e with _ e2 _
              exact .inl e2
            · injection e with e1 e2 e3
              subst e1 e3
              exact .inr ⟨i, _, rfl, ho9⟩⟩
          refine hK.out _ _ ⟨HW9.out, HR9.out⟩ (fun hS => ?_)
          clear hK K ho9 hg9 hlo9 hb9 hrt9 HW8 HR8 HT8 HE8
          try simp only [Act.put, List.setIfInBounds_toArray, List.set_cons_zero, List.set_cons_succ]
          refine wpAnyH_take (i := 10) (oi := ⟨some 61, _, _, _, _, _⟩) (v := ?_) rfl (by kernel_rfl) (by kernel_rfl) (by kernel_rfl) (fun _ _ _ h => h) (Or.inl ⟨by rfl, ?_⟩) hS ?_
          rotate_left
          · intro wq hq
            first | (go_simp; done) | (go_simp; rfl)
          try simp only [Act.put, List.setIfInBounds_toArray, List.set_cons_zero, List.set_cons_succ]
          refine wpAnyH_ready (rs := [11]) (by kernel_rfl) (by simp) ?_
          refine AllReadyH.cons (o := ⟨some 62, _, _, _, _, _⟩) rfl (fun K hK => ?_) AllReadyH.nil
          rw [if_pos (by rfl)]
          go_wp2
          have hb10 : Below w9.heap.size w9 (w9.alloc (.cells #[.int .i64 kd, .slice A9 bd.length k9] 24)) := (Below.refl _ _).alloc (Nat.le_refl _) _
          refine hK.out _ _ ⟨HW9.out.alloc HW9.out.size _, HR9.out.below hb10⟩ (fun hS => ?_)
          clear hK K hb10
          try simp only [Act.put, List.setIfInBounds_toArray, List.set_cons_zero, List.set_cons_succ]
          refine wpAnyH_ready (rs := [12]) (by kernel_rfl) (by simp) ?_
          refine AllReadyH.cons (o := ⟨some 63, _, _, _, _, _⟩) rfl (fun K hK => ?_) AllReadyH.nil
          rw [if_pos (by rfl)]
          refine app_rout_wp (lo := w.heap.size) (w := w9) (k := kd) (A := A9) (n := bd.length) (c := k9) (body := bd) _ _ rfl HT9.out HW9.out.size HCnt.out HBd.out rfl rfl ?_
          intro v10 w10 ht10 hg10 hold10
          have HW10 : Hid (Below w.heap.size w w10) := Lib.hid (HW9.out.grown hg10 HW9.out.size (fun i e => (hold10 i e).1))
          have HR10 : Hid (RdT w10 w.heap.size (some ⟨b, off, none⟩) R.length R) := Lib.hid (HR9.out.keep fun i c hi _ => hg10.block i (Array.getElem?_eq_some_iff.1 hi).1 (fun e => by
            obtain ⟨_, c', hc'⟩ := hold10 i e.symm
            exact row_ne hi hc' (by decide) rfl))
          have HT10 := Lib.hid ht10
          refine hK.out _ _ ⟨HW10.out, HR10.out⟩ (fun hS => ?_)
          clear hK K ht10 hg10 hold10 HW9 HR9 HT9 HBd
          try simp only [Act.put, List.setIfInBounds_toArray, List.set_cons_zero, List.set_cons_succ]
          refine wpAnyH_take (i := 13) (oi := ⟨some 6, _, _, _, _, _⟩) (v := ?_) rfl (by kernel_rfl) (by kernel_rfl) (by kernel_rfl) (fun _ _ _ h => h) (Or.inl ⟨by rfl, ?_⟩) hS ?_
          rotate_left
          · intro wq hq
            first | (go_simp; done) | (go_simp; rfl)
          try simp only [Act.put, List.setIfInBounds_toArray, List.set_cons_zero, List.set_cons_succ]
          refine wpAnyH_done (by kernel_rfl) ?_ _
          clear hS
          obtain ⟨A11, hA11⟩ : ∃ A11, (if k = N then some (⟨b, off, none⟩ : Addr) else some ⟨b, off + N, none⟩) = A11 := ⟨_, rfl⟩
          have HRn : Hid (RdT w10 w.heap.size A11 (R.drop N).length (R.drop N)) := Lib.hid (by
            have h := HR10.out.cut (k := N) (m := R.length - N) (by omega) hk
            rw [List.take_of_length_le (by simp)] at h
            have e : (if k = N then some (⟨b, off, none⟩ : Addr) else (some (⟨b, off, none⟩ : Addr)).map (fun x => x.add N)) = A11 := by
              rw [← hA11]
              split
              · rfl
              · simp [Addr.add_lit]
            rw [e] at h
            rwa [List.length_drop])
          have HPn : Hid (parse (C0 ++ b0) = (T ++ [(kd, bd)] ++ (parse (R.drop N)).1, (parse (R.drop N)).2)) := Lib.hid (by
            rw [HP.out, parse_whole HH.out (by rw [HNe.out]; omega), HMsg.out, HNe.out]
            simp)
          have hdl : R.length - N = (R.drop N).length := by simp
          have hdlt : (R.drop N).length < R.length := by simp; omega
          have hdk : (R.drop N).length ≤ k - N := by simp; omega
          have hNR : (N : Int) ≤ (R.length : Int) := by omega
          generalize R.drop N = R' at *
          clear hA7
          go_wp2
          exact ⟨⟨R', _, A11, _, rfl, hdk, HRn.out, HT10.out, HW10.out, HPn.out, by omega⟩, hdlt⟩
end Go.Proofs.Ytoiigalaijnoeaa
