/-
  Layer 3: messages that are put one behind the other: words for FrameBack.
-/
import Derived.Test.YtoiigalaijnoeaaFrQ
import Derived.Test.YtoiigalaijnoeaaFrW
namespace Go.Proofs.Ytoiigalaijnoeaa
open Go.RowKit
set_option linter.unusedSimpArgs false
set_option linter.unusedVariables false

def okB (m : Msg) : Bool := decide (putErr m.1 m.2.length = 0)
def allB (ms : List Msg) : List Int := ms.flatMap fun m => putBytes m.1 m.2
def wantM (ms : List Msg) : List Msg := ms.filter okB
theorem allB_snoc (ms : List Msg) (m : Msg) : allB (ms ++ [m]) = allB ms ++ putBytes m.1 m.2 := by simp [allB]
theorem wantM_snoc (ms : List Msg) (m : Msg) : wantM (ms ++ [m]) = wantM ms ++ (if okB m then [m] else []) := by
  unfold wantM
  rw [List.filter_append]
  cases h : okB m <;> simp [h]
theorem parse_all : ∀ ms : List Msg, parse (allB ms) = (wantM ms, .wait [])
  | [] => parse_short (by simp [allB])
  | m :: ms => by
    have ih := parse_all ms
    show parse (putBytes m.1 m.2 ++ allB ms) = _
    unfold wantM
    cases h : okB m with
    | true =>
      have h0 : putErr m.1 m.2.length = 0 := of_decide_eq_true h
      rw [List.filter_cons_of_pos h, show putBytes m.1 m.2 = putL m.1 m.2 from by unfold putBytes; rw [if_pos h0], parse_put m.1 m.2 _ (putErr_zero.1 h0), ih]
      rfl
    | false =>
      have h0 : ¬ putErr m.1 m.2.length = 0 := of_decide_eq_false h
      rw [List.filter_cons_of_neg (by simp [h]), show putBytes m.1 m.2 = [] from by unfold putBytes; rw [if_neg h0], List.nil_append, ih]
      rfl
theorem putBytes_len (k : Int) (l : List Int) : (putBytes k l).length ≤ 4096 := by
  unfold putBytes
  split
  · rename_i h
    have := (putErr_zero.1 h).2.2
    have := mostI_bd k
    rw [putL_len]
    omega
  · simp
theorem putBytes_oct (k : Int) (l : List Int) (h : Oct l) : Oct (putBytes k l) := by
  unfold putBytes
  split
  · rename_i h0
    exact putL_oct k l (putErr_zero.1 h0) h
  · exact oct_nil
theorem allB_len : ∀ ms : List Msg, (allB ms).length ≤ ms.length * 4096
  | [] => by simp [allB]
  | m :: ms => by
    have ih := allB_len ms
    have h := putBytes_len m.1 m.2
    show (putBytes m.1 m.2 ++ allB ms).length ≤ _
    rw [List.length_append, List.length_cons]
    omega
theorem wantM_len (ms : List Msg) : (wantM ms).length ≤ ms.length := List.length_filter_le _ _

/-- A slice of messages as an argument. -/
structure RdM (w : World) (B : Nat) (A : Option Addr) (n : Nat) (ms : List Msg) : Prop where
  len : ms.length = n
  at_ : 0 < n → ∃ b off, A = some ⟨b, off, none⟩ ∧ b < B ∧ ∀ i (h : i < ms.length), ∃ A1 n1 c1, w.cell? ⟨b, off + i * 2, none⟩ = some (.int .i64 ms[i].1) ∧ w.cell? ⟨b, off + i * 2 + 1, none⟩ = some (.slice A1 n1 c1) ∧ Rd w B A1 n1 ms[i].2 ∧ n1 ≤ 140737488351232
theorem RdM.below {w w' : World} {B n : Nat} {A : Option Addr} {ms : List Msg} (h : RdM w B A n ms) (hb : Below B w w') : RdM w' B A n ms :=
  ⟨h.len, fun hn => by
    obtain ⟨b, off, e, hlt, hc⟩ := h.at_ hn
    refine ⟨b, off, e, hlt, fun i hi => ?_⟩
    obtain ⟨A1, n1, c1, h0, h1, h2, h3⟩ := hc i hi
    exact ⟨A1, n1, c1, (hb.cell (p := ⟨b, off + i * 2, none⟩) hlt).trans h0, (hb.cell (p := ⟨b, off + i * 2 + 1, none⟩) hlt).trans h1, h2.below hb, h3⟩⟩

/-- Messages whose bodies came in: a row of the call's own, bodies below lo. -/
def WantR (lo : Nat) (w : World) (v : Value) (T : List Msg) : Prop := ∃ cs, w.ownsRow lo 24 2 v T.length cs ∧ Ms (fun A n l => Rd w lo A n l) cs T
theorem WantR.keep {lo : Nat} {w w' : World} {v : Value} {T : List Msg} (h : WantR lo w v T) (hb : Below lo w w') (hk : ∀ i c, w.heap[i]? = some (.cells c 24 (0, 0)) → lo ≤ i → w'.heap[i]? = w.heap[i]?) : WantR lo w' v T := by
  obtain ⟨cs, h1, h2⟩ := h
  exact ⟨cs, own_keep h1 fun i c hi hb' _ => hk i c hi hb', h2.imp fun A n l hr => hr.below hb⟩
theorem WantR.msr {lo : Nat} {w : World} {v : Value} {T : List Msg} (h : WantR lo w v T) (hlo : lo ≤ w.heap.size) : ∃ A c, v = .slice A T.length c ∧ MsR w A T := by
  obtain ⟨cs, h1, h2⟩ := h
  have h3 := h2.imp (Bd' := fun A n l => Rd w w.heap.size A n l) (fun A n l hb => hb.more hlo)
  rcases h1.2 with ⟨rfl, hn⟩ | ⟨g, cap, cur, rfl, hb, hg, hnc, hcm, hcs, hx⟩
  · exact ⟨none, 0, by rw [hn], cs, h3, fun hp => by omega⟩
  · refine ⟨_, cap, rfl, cs, h3, fun _ => ⟨g, 0, rfl, (Array.getElem?_eq_some_iff.1 hg).1, fun j u hu => ?_⟩⟩
    rw [← hx, List.getElem?_take] at hu
    split at hu
    · rw [Nat.zero_add]
      simp only [World.cell?, hg]
      rw [← Array.getElem?_toList]
      exact hu
    · cases hu

theorem app_bytes {ops : Array Oper} {rest : List Oper} {o : Oper} {a : Act} {Q : Exit → Act → World → Prop} (hgd : o.guard = none) (s x : Operand)
    (ho : o.op = .call { callee := .builtin .append, args := #[s, x], argTypes := #[22, 22] }) {lo : Nat} {w : World} {v : Value} {P : List Int} (h : w.ownsRow lo 5 1 v P.length (u8s P)) (hlo : lo ≤ w.heap.size)
    {A : Option Addr} {m c : Nat} {news : List Int} (hr : Rd w w.heap.size A m news) (hm : 0 < m) (hlen : P.length + m ≤ 1000000) (hs : a.eval s = v) (hx : a.eval x = .slice A m c)
    (hk : ∀ v' w', w'.ownsRow lo 5 1 v' (P ++ news).length (u8s (P ++ news)) → w.grownBy w' v.ownBlock → (∀ i, v.ownBlock = some i → lo ≤ i ∧ ∃ c, w.heap[i]? = some (.cells c 5 (0, 0))) → wpList Try.prog ops Q rest (a.put o.dst v') w') :
    wpList Try.prog ops Q (o :: rest) a w := by
  obtain ⟨i, hi, hz0, hz1, hz2⟩ := info_parts info_byte
  obtain ⟨b, off, rfl, hb, hc⟩ := hr.at_ hm
  obtain rfl := hr.len
  refine wpList_append_own_at _ hgd s x 22 ho lo 5 i _ 1 1 Try.underlying22 hi hz0 hz1 hz2 rfl (by decide) v P.length (u8s P) hs h ⟨b, off, none⟩ news.length c (u8s news) hx (by simp) (src_u8 rfl hc) (one_u8 news) (by unfold maxLen; omega) (by omega) hlo ?_
  intro v' w' hown hgr _ _
  refine hk v' w' ?_ hgr (fun i hi => ⟨(h.lt i hi).1, own_heap h hi⟩)
  rw [List.length_append, show u8s (P ++ news) = u8s P ++ u8s news from List.map_append]
  exact hown

theorem app_want {ops : Array Oper} {rest : List Oper} {o : Oper} {a : Act} {Q : Exit → Act → World → Prop} (hgd : o.guard = none) (s x : Operand)
    (ho : o.op = .call { callee := .builtin .append, args := #[s, x], argTypes := #[40, 40] }) {lo : Nat} {w : World} {v : Value} {T : List Msg} (h : WantR lo w v T) (hlo : lo ≤ w.heap.size) (hlen : T.length ≤ 1000000)
    {k : Int} {A : Option Addr} {n c : Nat} {body : List Int} (hb : Rd w lo A n body) (hs : a.eval s = v) (hx : a.eval x = .slice (some ⟨w.heap.size, 0, none⟩) 1 1)
    (hk : ∀ v' w', WantR lo w' v' (T ++ [(k, body)]) → w.grownBy w' v.ownBlock → (∀ i, v.ownBlock = some i → lo ≤ i ∧ ∃ c, w.heap[i]? = some (.cells c 24 (0, 0))) → wpList Try.prog ops Q rest (a.put o.dst v') w') :
    wpList Try.prog ops Q (o :: rest) a (w.alloc (.cells #[.int .i64 k, .slice A n c] 24)) := by
  obtain ⟨i, hi, hz0, hz1, hz2⟩ := info_parts info_msg
  obtain ⟨cs, h1, h2⟩ := h
  have hB := Blk.new w 24 #[.int .i64 k, .slice A n c]
  refine wpList_append_own_at _ hgd s x 40 ho lo 24 i _ 2 32 Try.underlying40 hi hz0 hz1 hz2 rfl (by decide) v T.length cs hs (h1.alloc _) ⟨w.heap.size, 0, none⟩ 1 1 [.int .i64 k, .slice A n c] hx rfl ?_ ?_ (by unfold maxLen; omega) (by omega) (by simp; omega) ?_
  · intro j u hu
    rw [show ((⟨w.heap.size, 0, none⟩ : Addr).add j) = ⟨w.heap.size, j, none⟩ from by unfold Addr.add; split <;> simp_all, hB.cell]
    simpa using hu
  · intro u hu
    simp only [List.mem_cons, List.mem_nil_iff, or_false] at hu
    rcases hu with rfl | rfl <;> rfl
  · intro v' w' hown hgr _ _
    have hold : ∀ i, v.ownBlock = some i → lo ≤ i ∧ ∃ c, w.heap[i]? = some (.cells c 24 (0, 0)) := fun i hi => ⟨(h1.lt i hi).1, own_heap h1 hi⟩
    have hg2 : w.grownBy w' v.ownBlock := ⟨hgr.os, hgr.tape, hgr.output, Nat.le_trans (by simp) hgr.size, fun j hj hne => (hgr.block j (by simp; omega) hne).trans (Below.heap_alloc _ _ _ hj)⟩
    have hbel : Below lo w w' := (Below.refl lo w).grown hg2 hlo (fun i e => (hold i e).1)
    refine hk v' w' ⟨_, by simpa using hown, ?_⟩ hg2 hold
    exact (h2.imp fun A n l hr => hr.below hbel).app (Ms.one (hb.below hbel))
end Go.Proofs.Ytoiigalaijnoeaa
