/-
  Layer 6: bytes of the call's own; slices.Grow of nothing, slices.Concat.
-/
import Derived.Test.YtgfjjkckamppoaaDoorOctC
import Derived.Test.YtgfjjkckamppoaaDoorMid
import Derived.Lib.AppendZerosOnto
import Derived.Laws.MakeOwn
import Derived.Maps.AppendAt
namespace Go.Proofs.YtgfjjkckamppoaaDoor
open Go.RowKit
set_option maxRecDepth 100000
set_option linter.unusedSimpArgs false
set_option linter.unusedVariables false

theorem own_keep {w w' : World} {base : Nat} {e : TypeId} {size n : Nat} {v : Value} {xs : List Value} (h : w.ownsRow base e size v n xs) (hk : ∀ i c, w.heap[i]? = some (.cells c e (0, 0)) → base ≤ i → v.ownBlock = some i → w'.heap[i]? = w.heap[i]?) : w'.ownsRow base e size v n xs := by
  refine ⟨h.1, h.2.imp id ?_⟩
  rintro ⟨i, cap, cur, rfl, hb, hi, rest⟩
  exact ⟨i, cap, cur, rfl, hb, (hk i cur hi hb rfl).trans hi, rest⟩
theorem own_heap {w : World} {base : Nat} {e : TypeId} {size n : Nat} {v : Value} {xs : List Value} (h : w.ownsRow base e size v n xs) {j : Nat} (hj : v.ownBlock = some j) : ∃ c, w.heap[j]? = some (.cells c e (0, 0)) := by
  rcases h.2 with ⟨rfl, _⟩ | ⟨i, cap, cur, rfl, _, hh, _⟩
  · cases hj
  · injection hj with hj
    subst hj
    exact ⟨cur, hh⟩
theorem own_low {w : World} {base base' : Nat} {e : TypeId} {size n : Nat} {v : Value} {xs : List Value} (h : w.ownsRow base e size v n xs) (hb : base' ≤ base) : w.ownsRow base' e size v n xs := by
  refine ⟨h.1, h.2.imp id ?_⟩
  rintro ⟨i, cap, cur, rfl, hb', rest⟩
  exact ⟨i, cap, cur, rfl, by omega, rest⟩
/-- Bytes of the call's own. -/
structure OwnB (lo : Nat) (w : World) (v : Value) (l : List Int) : Prop where
  own : w.ownsRow lo 5 1 v l.length (u8s l)
  oct : Oct l
theorem OwnB.nil_ (lo : Nat) (w : World) : OwnB lo w (.slice none 0 0) [] := ⟨World.ownsRow_nil _ _ _ _, fun x h => by cases h⟩
theorem OwnB.keep {lo : Nat} {w w' : World} {v : Value} {l : List Int} (h : OwnB lo w v l) (hk : ∀ i c, w.heap[i]? = some (.cells c 5 (0, 0)) → lo ≤ i → v.ownBlock = some i → w'.heap[i]? = w.heap[i]?) : OwnB lo w' v l := ⟨own_keep h.own hk, h.oct⟩
theorem OwnB.below {lo : Nat} {w w' : World} {v : Value} {l : List Int} (h : OwnB lo w v l) (hb : Below w.heap.size w w') : OwnB lo w' v l :=
  h.keep fun i c hi _ _ => hb.block i (Array.getElem?_eq_some_iff.1 hi).1
theorem OwnB.low {lo lo' : Nat} {w : World} {v : Value} {l : List Int} (h : OwnB lo w v l) (hl : lo' ≤ lo) : OwnB lo' w v l := ⟨own_low h.own hl, h.oct⟩
theorem OwnB.at_ {lo : Nat} {w : World} {v : Value} {l : List Int} (h : OwnB lo w v l) :
    ∃ A c, v = .slice A l.length c ∧ l.length ≤ c ∧ Rd w w.heap.size A l.length l ∧ (0 < l.length → ∃ g, A = some ⟨g, 0, none⟩ ∧ lo ≤ g ∧ g < w.heap.size ∧ ∀ i, w.frozen? ⟨g, i, none⟩ = false) := by
  rcases h.own.2 with ⟨rfl, hn⟩ | ⟨g, cap, cur, rfl, hb, hg, hnc, hcm, hcs, hx⟩
  · exact ⟨none, 0, by rw [hn], by omega, ⟨rfl, h.oct, fun hp => by omega⟩, fun hp => by omega⟩
  · have hgl : g < w.heap.size := (Array.getElem?_eq_some_iff.1 hg).1
    refine ⟨_, cap, rfl, hnc, ⟨rfl, h.oct, fun _ => ⟨g, 0, rfl, hgl, fun i hi => ?_⟩⟩, fun _ => ⟨g, rfl, hb, hgl, fun i => by simp [World.frozen?, hg]⟩⟩
    rw [Nat.zero_add]
    have h1 : (u8s l)[i]? = some (.int .u8 (l.getD i 0)) := by simp [List.getD, hi]
    rw [← hx, List.getElem?_take, if_pos (by omega)] at h1
    simp only [World.cell?, hg]
    rw [← Array.getElem?_toList]
    exact h1

/-- append of bytes that are read, onto bytes of the call's own. -/
theorem app_bs {ops : Array Oper} {rest : List Oper} {o : Oper} {a : Act} {Q : Exit → Act → World → Prop} (hgd : o.guard = none) (s x : Operand)
    (ho : o.op = .call { callee := .builtin .append, args := #[s, x], argTypes := #[25, 25] }) {lo : Nat} {w : World} {v : Value} {P : List Int} (h : OwnB lo w v P) (hlo : lo ≤ w.heap.size)
    {A : Option Addr} {m c : Nat} {news : List Int} (hr : Rd w w.heap.size A m news) (hlen : P.length + m ≤ 140737488355328) (hs : a.eval s = v) (hx : a.eval x = .slice A m c)
    (hk : ∀ v' w', OwnB lo w' v' (P ++ news) → Below lo w w' → w.grownBy w' v.ownBlock → (∀ i, v.ownBlock = some i → lo ≤ i ∧ ∃ c, w.heap[i]? = some (.cells c 5 (0, 0))) → wpList Tryd.prog ops Q rest (a.put o.dst v') w') :
    wpList Tryd.prog ops Q (o :: rest) a w := by
  obtain ⟨i, hi, hz0, hz1, hz2⟩ := info_parts info_byte
  have hlm := hr.len
  have hold : ∀ i, v.ownBlock = some i → lo ≤ i ∧ ∃ c, w.heap[i]? = some (.cells c 5 (0, 0)) := fun i hi => ⟨(h.own.lt i hi).1, own_heap h.own hi⟩
  cases A with
  | none =>
    have hm0 : m = 0 := by
      rcases Nat.eq_zero_or_pos m with h0 | h0
      · exact h0
      · obtain ⟨_, _, e, _⟩ := hr.at_ h0
        cases e
    subst hm0
    have hn : news = [] := List.eq_nil_of_length_eq_zero hlm
    subst hn
    have hrun : (Builtin.append_ #[25, 25] o.type #[v, .slice none 0 c]).run Tryd.prog w = .ok v w := by
      rcases h.own.2 with ⟨rfl, hn⟩ | ⟨g, cap, cur, rfl, _, _, hnc, _⟩
      · simp [Builtin.append_, run_underlying Tryd.underlying25, sizeOf, typeInfo, hi, Builtin.lenOf, Builtin.firstCells]
      · simp [Builtin.append_, run_underlying Tryd.underlying25, sizeOf, typeInfo, hi, Builtin.lenOf, Builtin.firstCells, hnc, storeCells]
    refine wpList_plain hgd fun _ hK => ?_
    unfold Oper.wp execOp
    simp only [ho, resolve, invoke, builtin, Sem.run_bind, Sem.run_pure, Result.andThen_ok, List.map_toArray, List.map_cons, List.map_nil, hs, hx, hrun]
    exact hK _ _ (hk v w (by rw [List.append_nil]; exact h) (Below.refl _ _) (only_refl _ _) hold)
  | some ad =>
    have hsrc : ∀ j y, (u8s news)[j]? = some y → w.cell? (ad.add j) = some y := by
      rcases Nat.eq_zero_or_pos m with h0 | h0
      · intro j y hy
        have := (List.getElem?_eq_some_iff.1 hy).1
        simp at this
        omega
      · obtain ⟨b, off, e, _, hc⟩ := hr.at_ h0
        injection e with e
        subst e
        exact src_u8 hlm hc
    refine wpList_append_own_at _ hgd s x 25 ho lo 5 i _ 1 1 Tryd.underlying25 hi hz0 hz1 hz2 rfl (by decide) v P.length (u8s P) hs h.own ad m c (u8s news) hx (by simp [hlm]) hsrc (one_u8 news) (by unfold maxLen; omega) (by omega) hlo ?_
    intro v' w' hown hgr _ _
    refine hk v' w' ⟨?_, fun y hy => (List.mem_append.1 hy).elim (h.oct y) (hr.oct y)⟩ ((Below.refl lo w).grown hgr hlo (fun i e => (h.own.lt i e).1)) hgr hold
    rw [List.length_append, hlm, show u8s (P ++ news) = u8s P ++ u8s news from List.map_append]
    exact hown

/-- A slice of slices of bytes that reads as ls. -/
structure RdL (w : World) (B : Nat) (A : Option Addr) (n : Nat) (ls : List (List Int)) : Prop where
  len : ls.length = n
  at_ : 0 < n → ∃ b off, A = some ⟨b, off, none⟩ ∧ b < B ∧ ∀ i (h : i < ls.length), ∃ A1 n1 c1, w.cell? ⟨b, off + i, none⟩ = some (.slice A1 n1 c1) ∧ Rd w B A1 n1 ls[i]
theorem RdL.below {w w' : World} {B n : Nat} {A : Option Addr} {ls : List (List Int)} (h : RdL w B A n ls) (hb : Below B w w') : RdL w' B A n ls :=
  ⟨h.len, fun hn => by
    obtain ⟨b, off, e, hlt, hc⟩ := h.at_ hn
    refine ⟨b, off, e, hlt, fun i hi => ?_⟩
    obtain ⟨A1, n1, c1, h1, h2⟩ := hc i hi
    exact ⟨A1, n1, c1, (hb.cell (p := ⟨b, off + i, none⟩) hlt).trans h1, h2.below hb⟩⟩
theorem RdL.more {w : World} {B B' n : Nat} {A : Option Addr} {ls : List (List Int)} (h : RdL w B A n ls) (hb : B ≤ B') : RdL w B' A n ls :=
  ⟨h.len, fun hn => by
    obtain ⟨b, off, e, hlt, hc⟩ := h.at_ hn
    refine ⟨b, off, e, by omega, fun i hi => ?_⟩
    obtain ⟨A1, n1, c1, h1, h2⟩ := hc i hi
    exact ⟨A1, n1, c1, h1, h2.more hb⟩⟩
theorem RdL.get {w : World} {B : Nat} {A : Option Addr} {n : Nat} {ls : List (List Int)} (h : RdL w B A n ls) {m : Nat} (hm : m < ls.length) : ∃ b off A1 n1 c1, A = some ⟨b, off, none⟩ ∧ w.cell? ⟨b, off + m, none⟩ = some (.slice A1 n1 c1) ∧ Rd w B A1 n1 ls[m] := by
  obtain ⟨b, off, rfl, _, hc⟩ := h.at_ (by have := h.len; omega)
  obtain ⟨A1, n1, c1, h1, h2⟩ := hc m hm
  exact ⟨b, off, A1, n1, c1, rfl, h1, h2⟩
theorem flat_take (ls : List (List Int)) (m : Nat) (hm : m < ls.length) : (ls.take (m + 1)).flatten = (ls.take m).flatten ++ ls[m] := by
  rw [List.take_succ_eq_append_getElem hm, List.flatten_append]
  simp
theorem flat_take_le (ls : List (List Int)) (m : Nat) : (ls.take m).flatten.length ≤ ls.flatten.length := by
  have : ls.flatten = (ls.take m).flatten ++ (ls.drop m).flatten := by rw [← List.flatten_append, List.take_append_drop]
  rw [this, List.length_append]
  omega


theorem wpList_app_run {P : Program} {ops : Array Oper} {rest : List Oper} {o : Oper} {a : Act} {w : World} {Q : Exit → Act → World → Prop} (hgd : o.guard = none) (s x : Operand) (t1 t2 : TypeId)
    (ho : o.op = .call { callee := .builtin .append, args := #[s, x], argTypes := #[t1, t2] }) (v y : Value) (hs : a.eval s = v) (hx : a.eval x = y) (v' : Value) (w' : World) (hrun : ∀ ty, (Builtin.append_ #[t1, t2] ty #[v, y]).run P w = .ok v' w')
    (h : wpList P ops Q rest (a.put o.dst v') w') : wpList P ops Q (o :: rest) a w := by
  refine wpList_plain hgd fun _ hK => ?_
  unfold Oper.wp execOp
  simp only [ho, resolve, invoke, builtin, Sem.run_bind, Sem.run_pure, Result.andThen_ok, List.map_toArray, List.map_cons, List.map_nil, hs, hx, hrun]
  exact hK _ _ h
set_option maxHeartbeats 2000000 in
theorem grow_is (w : World) (n : Nat) (hn : n ≤ 140737488355328) : Calls Tryd.prog 62 #[.slice none 0 0, .int .i64 n] w fun e w' => ∃ v, e = .returned v ∧ OwnB w.heap.size w' v [] ∧ Below w.heap.size w w' := by
  rcases Nat.eq_zero_or_pos n with rfl | h0
  · go_enter Tryd.func62, Tryd.ntmps62
    go_wp2
    go_ret
    exact ⟨_, rfl, OwnB.nil_ _ _, Below.refl _ _⟩
  · obtain ⟨i, hi, hz0, hz1, hz2⟩ := info_parts info_byte
    have hrun := fun ty => Lib.run_append_grow_zeros (P := Tryd.prog) w 25 3 ty 5 i _ .i64 .i64 Tryd.underlying25 Tryd.underlying3 hi hz0 none 0 0 [] (run_firstCells_none w.drew i.size 0 0 0) n h0 (by rw [hz1]; decide) (by omega) (by omega) (by rw [hz2]; omega) (growslice_fits (by omega) (by rw [hz2]; omega))
    have hG := grownCap_ge w (0 + n) 0 5
    have hM := grownCap_le_maxLen w (0 + n) 0 5 (by unfold maxLen; omega)
    generalize grownCap w (0 + n) 0 5 = G at *
    simp only [Nat.zero_add] at hrun hG
    have HO : Hid (∃ W, (∀ ty, (Builtin.append_ #[25, 3] ty #[.slice none 0 0, .int .i64 n]).run Tryd.prog w = .ok (.slice (some ⟨w.heap.size, 0, none⟩) n G) W) ∧ OwnB w.heap.size W (.slice (some ⟨w.heap.size, 0, none⟩) 0 G) [] ∧ Below w.heap.size w W) := Lib.hid ⟨_, hrun, ⟨⟨rfl, Or.inr ⟨w.heap.size, G, _, rfl, Nat.le_refl _, Blk.new w.drew 5 _, Nat.zero_le _, hM, by simp [Builtin.zeroCells, Value.cells]; omega, by simp⟩⟩, fun x h => by cases h⟩, below_drewN ((Below.refl _ _).alloc (Nat.le_refl _) _) 1⟩
    clear hrun hi hz0 hz1 hz2
    obtain ⟨W, hrun, hO, hB⟩ := HO.out
    have HOO := Lib.hid hO
    have HBB := Lib.hid hB
    have h1 : ¬ ((n : Int) < 0) := by omega
    have hM2 : G ≤ 9223372036854775807 := by unfold maxLen at hM; omega
    have HRun := Lib.hid hrun
    clear HO hO hB hM hrun
    go_enter Tryd.func62, Tryd.ntmps62
    go_wp2_with (at_builtin; refine wpList_app_run rfl _ _ 25 3 rfl (.slice none 0 0) (.int .i64 n) rfl rfl _ _ HRun.out ?_)
    go_ret
    exact ⟨_, rfl, HOO.out, HBB.out⟩

set_option maxHeartbeats 2000000 in
theorem concat_is (w : World) (A : Option Addr) (n c : Nat) (ls : List (List Int)) (hr : RdL w w.heap.size A n ls) (hn : n ≤ 1000000) (hb : ls.flatten.length ≤ 140737488355328) :
    Calls Tryd.prog 35 #[.slice A n c] w fun e w' => ∃ v, e = .returned v ∧ OwnB w.heap.size w' v ls.flatten ∧ Below w.heap.size w w' := by
  have HR := Lib.hid hr
  have hlen := hr.len
  clear hr
  go_enter Tryd.func35, Tryd.ntmps35
  go_wp2
  go_loop [3, 5, 11] (fun s _ i => ∃ m : Nat, m ≤ n ∧ i = .int .i64 m ∧ s = .int .i64 ((ls.take m).flatten.length : Nat)) (fun _ _ i => n - (intOf i).toNat)
  case atStart => exact ⟨0, Nat.zero_le _, rfl, rfl⟩
  case round =>
    obtain ⟨m, hm, rfl, rfl⟩ := hrel
    by_cases hlt : m < n
    · have hml : m < ls.length := by omega
      obtain ⟨b, off, A1, n1, c1, rfl, x0, hr1⟩ := HR.out.get hml
      have HT := Lib.hid (flat_take ls m hml)
      have h1 := flat_take_le ls (m + 1)
      rw [flat_take ls m hml, List.length_append, hr1.len] at h1
      have HL := Lib.hid hr1.len
      generalize ls[m] = y at *
      generalize (ls.take m).flatten = z at *
      clear hr1
      go_wp2
      refine ⟨⟨m + 1, by omega, by go_num, ?_⟩, by simp [intOf]; omega⟩
      rw [HT.out, List.length_append, HL.out]
      go_num
    · obtain rfl : n = m := by omega
      rw [List.take_of_length_le (by omega)]
      have HFl := Lib.hid (flat_take_le ls)
      have HFt := Lib.hid (flat_take ls)
      have HG := Lib.hid (grow_is w ls.flatten.length hb)
      generalize hT : ls.flatten.length = T at *
      have HTT := Lib.hid hT
      clear hT
      go_wp2_with fail
      refine HG.out.mono ?_
      rintro e w1 ⟨v1, rfl, hO1, hB1⟩
      have HO1 := Lib.hid hO1
      have HB1 := Lib.hid hB1
      clear hO1 hB1
      go_wp2
      go_loopw [6, 8, 27] (fun v _ i wr => ∃ m : Nat, m ≤ n ∧ i = .int .i64 m ∧ OwnB w.heap.size wr v (ls.take m).flatten ∧ Below w.heap.size w wr) (fun _ _ i _ => n - (intOf i).toNat)
      case atStart => exact ⟨0, Nat.zero_le _, rfl, HO1.out, HB1.out⟩
      case round =>
        obtain ⟨m, hm, rfl, ho, hw⟩ := hrel
        by_cases hlt : m < n
        · have hml : m < ls.length := by omega
          obtain ⟨b, off, A1, n1, c1, rfl, x0, hr1⟩ := (HR.out.below hw).get hml
          have HT := Lib.hid (HFt.out m hml)
          have hle : (ls.take m).flatten.length + n1 ≤ 140737488355328 := by
            have h1 := HFl.out (m + 1)
            rw [HFt.out m hml, List.length_append, hr1.len] at h1
            omega
          have HO := Lib.hid ho
          have HW := Lib.hid hw
          have hsz := hw.size
          have HR2 := Lib.hid (hr1.more hw.size)
          generalize ls[m] = y at *
          generalize (ls.take m).flatten = z at *
          clear hr1 ho hw
          go_wp2_with (at_builtin; refine app_bs rfl _ _ rfl HO.out hsz HR2.out hle rfl rfl ?_)
          intro v' w2 ho2 hb2 _ _
          have HO2 := Lib.hid ho2
          have HB2 := Lib.hid (HW.out.trans hb2)
          clear ho2 hb2
          go_wp2
          exact ⟨⟨m + 1, by omega, by go_num, by rw [HT.out]; exact HO2.out, HB2.out⟩, by simp [intOf]; omega⟩
        · obtain rfl : n = m := by omega
          rw [List.take_of_length_le (by omega)] at ho
          have HO := Lib.hid ho
          have HW := Lib.hid hw
          clear ho hw
          go_wp2
          go_ret
          exact ⟨_, rfl, HO.out, HW.out⟩
end Go.Proofs.YtgfjjkckamppoaaDoor
