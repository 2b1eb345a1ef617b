/-
  NlriBack: for every input the law returns true, and each argument reads behind the call as it read before. Condition: what comes in is of bulk at most 1048576 (the second form).
-/
import Derived.Test.YtffaoeakcaongaaRows
import Derived.Test.YtffaoeakcaongaaMX
import Derived.Test.YtffaoeakcaongaaMV
import Derived.Test.YtffaoeakcaongaaMR
import Derived.WalkKit
import Derived.ProofKit
import Derived.OpenShut
import Derived.ShutString
import Derived.ChangeOld
import Derived.SizedLaws
import Derived.Below
import Derived.Deep.CondSized
namespace Go.Proofs.Ytffaoeakcaongaa
open Go.RowKit Go.ChangeShapes Go.WideShapes Go.Deep Go.Joins
set_option maxRecDepth 100000

theorem bulk_pos {H : Type} (d : DataW H) : 1 ≤ Rows.uptoBulk d := by
  cases d with
  | lit l => cases l <;> simp [Rows.uptoBulk]
  | _ => simp [Rows.uptoBulk]
theorem bulk_mem {H : Type} : ∀ {l : List (DataW H)} {d : DataW H}, d ∈ l → Rows.uptoBulk d ≤ Rows.uptoBulkAll l
  | x :: r, d, h => by
    unfold Rows.uptoBulkAll
    rcases List.mem_cons.1 h with rfl | h
    · omega
    · have := bulk_mem h
      omega
theorem bulk_len {H : Type} : ∀ l : List (DataW H), l.length ≤ Rows.uptoBulkAll l
  | [] => by simp [Rows.uptoBulkAll]
  | x :: r => by
    have h1 := bulk_pos x
    have h2 := bulk_len r
    unfold Rows.uptoBulkAll
    rw [List.length_cons]
    omega
theorem bulk_le {H : Type} {l : List (DataW H)} (hk : Rows.uptoSmall H l = true) : ∀ d ∈ l, Rows.uptoBulk d ≤ 1048576 := fun d hd => by
  have h : Rows.uptoBulkAll l ≤ 1048576 := of_decide_eq_true hk
  have := bulk_mem hd
  omega
theorem bulk_slice {H : Type} (es sp : List (DataW H)) : es.length + sp.length ≤ Rows.uptoBulk (.slice es sp) := by
  have h1 := bulk_len es
  have h2 := bulk_len sp
  unfold Rows.uptoBulk
  omega

section
variable {H : Type} {enc : TypeId × Value → H} {P : Program} {W : World}
theorem open_bytesc {t e : TypeId} {a : Option Addr} {len cap : Nat} {d : DataW H} {p : List MemPlace} (ht : P.underlying t = some (.slice e)) (he : P.underlying e = some (.int .u8)) (hc : P.cellsOf e = 1)
    (h : DataW.Trod enc P W 0 (fun _ => true) true t (.slice a len cap) d p) (hB : Rows.uptoBulk d ≤ 1048576) : ∃ l, (Rd W W.heap.size a len l ∧ len ≤ cap) ∧ len ≤ 1048576 := by
  obtain ⟨fuel, hf⟩ := h
  obtain ⟨a', len', cap', l, e1, hr, hlc, hw⟩ := trod_bytes (v := .slice a len cap) ht he hc (by simpa [Value.cells] using hf)
  injection e1 with e1 e2 e3
  subst e1 e2 e3
  refine ⟨l, ⟨hr, hlc⟩, ?_⟩
  rcases hw with rfl | ⟨es, sp, hx, hle⟩
  · omega
  · have := bulk_slice es sp
    have hx' : d = .slice es sp := hx
    rw [hx'] at hB
    omega

theorem open_bytess {t e u : TypeId} {a : Option Addr} {len cap : Nat} {d : DataW H} {p : List MemPlace} (ht : P.underlying t = some (.slice e)) (hC : P.cellsOf e = 1) (he : P.underlying e = some (.slice u)) (ku : P.underlying u = some (.int .u8)) (hcu : P.cellsOf u = 1)
    (h : DataW.Trod enc P W 0 (fun _ => true) true t (.slice a len cap) d p) (hB : Rows.uptoBulk d ≤ 1048576) : ∃ ls, RdB W W.heap.size a len ls ∧ (len ≤ 1048576 ∧ ∀ l ∈ ls, l.length ≤ 1048576) := by
  obtain ⟨fuel, hf⟩ := h
  rcases open_slice ht hf with ⟨hcs, _⟩ | ⟨x, l, c, m, n, D, Pl, hcs, _, hl, hm, hmm, hx, hi⟩
  · simp [Value.cells] at hcs
    obtain ⟨rfl, rfl, rfl⟩ := hcs
    exact ⟨[], ⟨rfl, fun h => absurd h (by omega)⟩, by omega, fun l h => by cases h⟩
  · simp [Value.cells] at hcs
    obtain ⟨rfl, rfl, rfl⟩ := hcs
    simp only [if_pos] at hmm
    subst hmm
    simp only [Prod.mk.injEq] at hx
    rw [hx.1] at hB
    have hlb := bulk_len ((List.range len).map D)
    simp only [List.length_map, List.length_range] at hlb
    unfold Rows.uptoBulk at hB
    have hbe : ∀ i, i < len → Rows.uptoBulk (D i) ≤ 1048576 := fun i hi => by
      have h1 := bulk_mem (d := D i) (l := (List.range len).map D) (List.mem_map.2 ⟨i, List.mem_range.2 hi, rfl⟩)
      omega
    have each : ∀ i, ∃ y : (Option Addr × Nat × Nat) × List Int, i < len → W.cell? ((x.add (i * 1)).add 0) = some (.slice y.1.1 y.1.2.1 y.1.2.2) ∧ Rd W W.heap.size y.1.1 y.1.2.1 y.2 ∧ y.1.2.1 ≤ y.1.2.2 ∧ y.2.length ≤ 1048576 := fun i => by
      by_cases him : i < len
      · obtain ⟨cs', hc, ht'⟩ := hi i (by omega)
        rw [hC] at hc
        obtain ⟨_, hl2, hat⟩ := World.cells?_some hc
        match cs', hl2 with
        | [v0], _ =>
          obtain ⟨A1, n1, c1, b1, rfl, hr, hlc, hw⟩ := trod_bytes he ku hcu ht'
          refine ⟨((A1, n1, c1), b1), fun _ => ⟨?_, hr, hlc, ?_⟩⟩
          · rw [hat 0 (by omega)]
            rfl
          · have hbl := hr.len
            show b1.length ≤ _
            rcases hw with h0 | ⟨es, sp, hxs, hle⟩
            · omega
            · have h1 := hbe i him
              have h2 : D i = .slice es sp := hxs
              rw [h2] at h1
              have h3 := bulk_slice es sp
              omega
      · exact ⟨((none, 0, 0), []), fun h => absurd h him⟩
    have pick : ∃ f : Nat → (Option Addr × Nat × Nat) × List Int, ∀ i, i < len → W.cell? ((x.add (i * 1)).add 0) = some (.slice (f i).1.1 (f i).1.2.1 (f i).1.2.2) ∧ Rd W W.heap.size (f i).1.1 (f i).1.2.1 (f i).2 ∧ (f i).1.2.1 ≤ (f i).1.2.2 ∧ (f i).2.length ≤ 1048576 :=
      ⟨fun i => Classical.choose (each i), fun i => Classical.choose_spec (each i)⟩
    obtain ⟨f, hf⟩ := pick
    refine ⟨(List.range len).map fun i => (f i).2, ⟨by simp, fun hn => ?_⟩, by omega, fun l hl => ?_⟩
    · obtain ⟨b, off, spot⟩ := x
      have h0 := (hf 0 (by omega)).1
      have hspot : spot = none := by simpa [Addr.add] using World.cell?_spot h0
      subst hspot
      refine ⟨b, off, rfl, by simpa [Addr.add] using lt_of_cell h0, fun i hi => ?_⟩
      have hil : i < len := by simpa using hi
      obtain ⟨c0, c1, c2, _⟩ := hf i hil
      rw [addr_add, addr_add, Nat.add_zero, Nat.mul_one] at c0
      exact ⟨(f i).1.1, (f i).1.2.1, (f i).1.2.2, c0, by simpa using c1, c2⟩
    · obtain ⟨i, hi, rfl⟩ := List.mem_map.1 hl
      exact (hf i (List.mem_range.1 hi)).2.2.2
end
end Go.Proofs.Ytffaoeakcaongaa
namespace Go.Proofs.Ytffaoeakcaongaa
open Go.RowKit
set_option maxRecDepth 100000
set_option linter.unusedSimpArgs false
set_option linter.unusedVariables false

/-- append of bytes that are read, onto bytes of the call's own. -/
theorem app_bs2 {ops : Array Oper} {rest : List Oper} {o : Oper} {a : Act} {Q : Exit → Act → World → Prop} (hgd : o.guard = none) (s x : Operand)
    (ho : o.op = .call { callee := .builtin .append, args := #[s, x], argTypes := #[22, 22] }) {lo : Nat} {w : World} {v : Value} {P : List Int} (h : OwnB lo w v P) (hlo : lo ≤ w.heap.size)
    {A : Option Addr} {m c : Nat} {news : List Int} (hr : Rd w w.heap.size A m news) (hlen : P.length + m ≤ 140737488355328) (hs : a.eval s = v) (hx : a.eval x = .slice A m c)
    (hk : ∀ v' w', OwnB lo w' v' (P ++ news) → Below lo w w' → w.grownBy w' v.ownBlock → (v'.ownBlock = v.ownBlock ∨ v'.ownBlock = some w.heap.size) → wpList Try.prog ops Q rest (a.put o.dst v') w') :
    wpList Try.prog ops Q (o :: rest) a w := by
  obtain ⟨i, hi, hz0, hz1, hz2⟩ := info_parts info_byte
  have hlm := hr.len
  cases A with
  | none =>
    have hm0 : m = 0 := by
      rcases Nat.eq_zero_or_pos m with h0 | h0
      · exact h0
      · obtain ⟨_, _, e, _⟩ := hr.at_ h0
        cases e
    subst hm0
    have hn : news = [] := List.eq_nil_of_length_eq_zero hlm
    subst hn
    have hrun : (Builtin.append_ #[22, 22] o.type #[v, .slice none 0 c]).run Try.prog w = .ok v w := by
      rcases h.own.2 with ⟨rfl, hn⟩ | ⟨g, cap, cur, rfl, _, _, hnc, _⟩
      · simp [Builtin.append_, run_underlying Try.underlying22, sizeOf, typeInfo, hi, Builtin.lenOf, Builtin.firstCells]
      · simp [Builtin.append_, run_underlying Try.underlying22, sizeOf, typeInfo, hi, Builtin.lenOf, Builtin.firstCells, hnc, storeCells]
    refine wpList_plain hgd fun _ hK => ?_
    unfold Oper.wp execOp
    simp only [ho, resolve, invoke, builtin, Sem.run_bind, Sem.run_pure, Result.andThen_ok, List.map_toArray, List.map_cons, List.map_nil, hs, hx, hrun]
    exact hK _ _ (hk v w (by rw [List.append_nil]; exact h) (Below.refl _ _) (only_refl _ _) (.inl rfl))
  | some ad =>
    have hsrc : ∀ j y, (u8s news)[j]? = some y → w.cell? (ad.add j) = some y := by
      rcases Nat.eq_zero_or_pos m with h0 | h0
      · intro j y hy
        have := (List.getElem?_eq_some_iff.1 hy).1
        simp at this
        omega
      · obtain ⟨b, off, e, _, hc⟩ := hr.at_ h0
        injection e with e
        subst e
        exact src_u8 hlm hc
    refine wpList_append_own_at _ hgd s x 22 ho lo 5 i _ 1 1 Try.underlying22 hi hz0 hz1 hz2 rfl (by decide) v P.length (u8s P) hs h.own ad m c (u8s news) hx (by simp [hlm]) hsrc (one_u8 news) (by unfold maxLen; omega) (by omega) hlo ?_
    intro v' w' hown hgr _ hloc
    refine hk v' w' ⟨?_, fun y hy => (List.mem_append.1 hy).elim (h.oct y) (hr.oct y)⟩ ((Below.refl lo w).grown hgr hlo (fun i e => (h.own.lt i e).1)) hgr hloc
    rw [List.length_append, hlm, show u8s (P ++ news) = u8s P ++ u8s news from List.map_append]
    exact hown


/-- The bytes l read as the routes rs, whatever stands behind. -/
def Sem (l : List Int) (rs : List Rt) : Prop := ∀ rest, readAll (l ++ rest) = pre2 rs 0 (readAll rest)
theorem Sem.nil_ : Sem [] [] := fun rest => by rw [pre2_nil]; rfl
theorem Sem.put {l : List Int} {rs : List Rt} (h : Sem l rs) {r : Rt} (hr : RtOk r) (hR : rightR r = true) : Sem (l ++ putR r) (rs ++ [r]) := fun rest => by rw [List.append_assoc, h, read_put hr hR, pre2_pre2]
theorem Sem.unk {l : List Int} {rs : List Rt} (h : Sem l rs) (k : Int) (body : List Int) (hk : ¬ (1 ≤ k ∧ k ≤ 5)) : Sem (l ++ [k, (body.length : Int)] ++ body) rs := fun rest => by
  rw [List.append_assoc, List.append_assoc, h]
  show pre2 rs 0 (readAll (k :: (body.length : Int) :: (body ++ rest))) = _
  rw [readAll_cons, if_neg (by simp; omega), Int.toNat_natCast, List.take_left, List.drop_left]
  cases readAll rest with
  | none => rfl
  | some x =>
    obtain ⟨a, b⟩ := x
    simp only [addR]
    rw [if_neg hk]
theorem Sem.all {l : List Int} {rs : List Rt} (h : Sem l rs) : readAll l = some (rs, 0) := by
  have := h []
  rw [List.append_nil, readAll_nil] at this
  rw [this]
  simp [pre2]
theorem own_lt {lo : Nat} {w : World} {v : Value} {l : List Int} (h : OwnB lo w v l) {i : Nat} (hi : v.ownBlock = some i) : lo ≤ i ∧ i < w.heap.size := by
  obtain ⟨c, hc⟩ := own_heap h.own hi
  exact ⟨(h.own.lt i hi).1, (Array.getElem?_eq_some_iff.1 hc).1⟩
/-- The memory of NlriSkips between two routes. -/
structure SkW (w W : World) (v9 v10 v11 : Value) (acc : List Rt) (pl mo : List Int) : Prop where
  plain : OwnB w.heap.size W v9 pl
  more : OwnB w.heap.size W v10 mo
  apart : ∀ i, v9.ownBlock = some i → v10.ownBlock ≠ some i
  want : OwnRt w.heap.size W v11 acc
  low : Below w.heap.size w W
section
variable {w W W' W2 W3 : World} {v9 v10 v11 v9' v10' v11' : Value} {acc : List Rt} {pl mo : List Int}
theorem SkW.below (h : SkW w W v9 v10 v11 acc pl mo) (hB : Below W.heap.size W W') : SkW w W' v9 v10 v11 acc pl mo :=
  ⟨⟨own_below h.plain.own hB, h.plain.oct⟩, ⟨own_below h.more.own hB, h.more.oct⟩, h.apart, ⟨own_below h.want.own hB, h.want.ok⟩, h.low.trans (hB.mono h.low.size)⟩
/-- Behind an append to the second bytes. -/
theorem SkW.grow (h : SkW w W v9 v10 v11 acc pl mo) {mo' : List Int} (ho : OwnB w.heap.size W' v10' mo') (hg : W.grownBy W' v10.ownBlock) (hB : Below w.heap.size W W') (hloc : v10'.ownBlock = v10.ownBlock ∨ v10'.ownBlock = some W.heap.size) :
    SkW w W' v9 v10' v11 acc pl mo' := by
  refine ⟨h.plain.keep fun i c hi _ hv => hg.block i (own_lt h.plain hv).2 (fun e => h.apart i hv e.symm), ho, fun i hi => ?_, ⟨own_other (by decide) h.want.own h.more.own hg, h.want.ok⟩, h.low.trans hB⟩
  rcases hloc with e | e
  · rw [e]; exact h.apart i hi
  · rw [e]
    intro e2
    injection e2 with e2
    have := (own_lt h.plain hi).2
    omega
/-- Behind both Puts and the append to the routes. -/
theorem SkW.step (h : SkW w W v9 v10 v11 acc pl mo) {r : Rt} (h9 : OwnB W.heap.size W2 v9' (pl ++ putR r)) (hB2 : Below W.heap.size W W2) (h10 : OwnB W2.heap.size W3 v10' (mo ++ putR r)) (hB3 : Below W2.heap.size W2 W3)
    (h11 : OwnRt w.heap.size W' v11' (acc ++ [r])) (hg : W3.grownBy W' v11.ownBlock) (hB : Below w.heap.size W3 W') : SkW w W' v9' v10' v11' (acc ++ [r]) (pl ++ putR r) (mo ++ putR r) := by
  have hw3 : OwnRt w.heap.size W3 v11 acc := ⟨own_below (own_below h.want.own hB2) hB3, h.want.ok⟩
  have hs : w.heap.size ≤ W.heap.size := h.low.size
  have h93 : OwnB W.heap.size W3 v9' (pl ++ putR r) := ⟨own_below h9.own hB3, h9.oct⟩
  refine ⟨⟨own_other (by decide) (h93.low hs).own hw3.own hg, h9.oct⟩, ⟨own_other (by decide) (h10.low (Nat.le_trans hs hB2.size)).own hw3.own hg, h10.oct⟩, fun i hi e => ?_, h11, (h.low.trans (hB2.mono hs)).trans ((hB3.mono (Nat.le_trans hs hB2.size)).trans hB)⟩
  have a1 := (own_lt h9 hi).2
  have a2 := (own_lt h10 e).1
  omega
end
theorem OwnB.rd_of {lo : Nat} {w : World} {A : Option Addr} {n c : Nat} {l : List Int} (h : OwnB lo w (.slice A n c) l) : l.length = n ∧ Rd w w.heap.size A n l := by
  obtain ⟨A', c', e, _, hR, _⟩ := h.at_
  injection e with e1 e2 _
  subst e1 e2
  exact ⟨rfl, hR⟩
theorem readSem_is (w : World) (A : Option Addr) (n c : Nat) (l : List Int) (rs : List Rt) (hr : Rd w w.heap.size A n l) (hm : n ≤ 1000000000000) (hs : Sem l rs) :
    Calls Try.prog 19 #[.slice A n c] w fun e w' => ∃ A' c', e = .returned (.tuple #[.slice A' rs.length c', .int .i64 0, .int .i64 0]) ∧ RdRt w' w'.heap.size A' rs.length rs ∧ Below w.heap.size w w' := by
  refine (read_is w A n c l hr hm).mono ?_
  rintro e w' ⟨v, rfl, hO, hB⟩
  obtain ⟨q1, q2, q3⟩ := read_some hs.all
  rw [q1] at hO
  obtain ⟨A', c', rfl, hRd⟩ := hO.rd
  exact ⟨A', c', by rw [q2, q3]; rfl, hRd, hB⟩
end Go.Proofs.Ytffaoeakcaongaa
namespace Go.Proofs.Ytffaoeakcaongaa
open Go.RowKit
set_option maxRecDepth 100000
set_option linter.unusedSimpArgs false
set_option linter.unusedVariables false

theorem OwnRt.rdc {lo : Nat} {w : World} {v : Value} {rs : List Rt} (h : OwnRt lo w v rs) : ∃ A c, v = .slice A rs.length c ∧ rs.length ≤ c ∧ RdRt w w.heap.size A rs.length rs := by
  obtain ⟨A, c, rfl, hr⟩ := h.rd
  refine ⟨A, c, rfl, ?_, hr⟩
  rcases h.own.2 with ⟨e, hn⟩ | ⟨g, cap, cur, e, _, _, hnc, _⟩
  · rw [hn]; exact Nat.zero_le _
  · injection e with _ _ e; omega
theorem okRs_len (rs : List Rt) (m : Nat) : (okRs (rs.take m)).length ≤ m := by
  unfold okRs
  have h1 := List.length_filter_le rightR (rs.take m)
  have h2 : (rs.take m).length ≤ m := by simp; omega
  omega
theorem readF_len : ∀ (f : Nat) (l : List Int) rs m, readF f l = some (rs, m) → rs.length ≤ l.length
  | 0, l, rs, m, h => by unfold readF at h; injection h with h; injection h with h _; subst h; exact Nat.zero_le _
  | f + 1, [], rs, m, h => by unfold readF at h; injection h with h; injection h with h _; subst h; exact Nat.zero_le _
  | f + 1, [_], rs, m, h => by cases h
  | f + 1, k :: n :: rest, rs, m, h => by
    simp only [readF] at h
    split at h
    · cases h
    · cases hh : readF f (rest.drop n.toNat) with
      | none => rw [hh] at h; cases h
      | some x =>
        obtain ⟨a, b⟩ := x
        have ih := readF_len f _ a b hh
        rw [hh] at h
        simp only [addR] at h
        have hd : (rest.drop n.toNat).length ≤ rest.length := by simp
        simp only [List.length_cons]
        split at h
        · cases ho : oneR k (rest.take n.toNat) with
          | none => rw [ho] at h; simp only at h; injection h with h; injection h with h _; subst h; omega
          | some r => rw [ho] at h; simp only at h; injection h with h; injection h with h _; subst h; simp only [List.length_cons]; omega
        · injection h with h; injection h with h _; subst h; omega
theorem readRs_len (l : List Int) : (readRs l).length ≤ l.length := by
  unfold readRs
  cases h : readAll l with
  | none => exact Nat.zero_le _
  | some x => exact readF_len _ _ _ _ h
theorem puts_step {rs : List Rt} {j : Nat} (hj : j < rs.length) : puts (rs.take (j + 1)) = puts (rs.take j) ++ putR rs[j] := by rw [List.take_succ_eq_append_getElem hj, puts_app, puts_one]
/-- The memory of NlriBack between two routes. -/
structure BkW (w W : World) (v5 v6 : Value) (acc : List Rt) : Prop where
  all : OwnB w.heap.size W v5 (puts acc)
  want : OwnRt w.heap.size W v6 acc
  low : Below w.heap.size w W
section
variable {w W W' W2 : World} {v5 v6 v5' v6' : Value} {acc : List Rt}
theorem BkW.below (h : BkW w W v5 v6 acc) (hB : Below W.heap.size W W') : BkW w W' v5 v6 acc :=
  ⟨⟨own_below h.all.own hB, h.all.oct⟩, ⟨own_below h.want.own hB, h.want.ok⟩, h.low.trans (hB.mono h.low.size)⟩
theorem BkW.step (h : BkW w W v5 v6 acc) {r : Rt} (hx : OwnB w.heap.size W v5' (puts acc ++ putR r)) (ho : OwnRt w.heap.size W' v6' (acc ++ [r])) (hg : W.grownBy W' v6.ownBlock) (hB : Below w.heap.size W W') : BkW w W' v5' v6' (acc ++ [r]) := by
  refine ⟨?_, ho, h.low.trans hB⟩
  rw [puts_app, puts_one]
  exact ⟨own_other (by decide) hx.own h.want.own hg, hx.oct⟩
end
set_option maxHeartbeats 4000000 in
theorem nlriBack_walk (w : World) (A : Option Addr) (n cp : Nat) (rs : List Rt) (Ab : Option Addr) (m cb : Nat) (lb : List Int) (hr : RdRt w w.heap.size A n rs) (hcp : n ≤ cp) (hn : n ≤ 1400000000000) (hb' : Rd w w.heap.size Ab m lb ∧ m ≤ cb) (hm : m ≤ 1048576) :
    Calls Try.prog 6 #[.slice A n cp, .slice Ab m cb] w fun e w' => e = .returned (.bool true) ∧ Below w.heap.size w w' := by
  have hb := hb'.1
  clear hb'
  have HR := Lib.hid hr
  have HLen := Lib.hid hr.len
  have HLb := Lib.hid hb
  have hlb := hb.len
  have HRight := Lib.hid (read_right hb.oct)
  have hkl := readRs_len lb
  have HN := Lib.hid (read_none (l := lb))
  have HSo := Lib.hid (fun rs m => read_some (l := lb) (rs := rs) (m := m))
  have HAlv := Lib.hid aliveN_is
  have H0 : Hid (BkW w w (.slice none 0 0) (.slice none 0 0) []) := Lib.hid ⟨OwnB.nil_ _ _, OwnRt.nil_ _ _, Below.refl _ _⟩
  clear hr hb
  go_enter Try.func6, Try.ntmps6
  go_wp2
  go_loopw [5, 6, 7, 8, 9] (fun v5 v6 i _ _ wr => ∃ j : Nat, j ≤ n ∧ j ≤ 200 ∧ i = .int .i64 j ∧ BkW w wr v5 v6 (okRs (rs.take j))) (fun _ _ i _ _ _ => 200 - (intOf i).toNat)
  case atStart => exact ⟨0, Nat.zero_le _, Nat.zero_le _, rfl, H0.out⟩
  case round =>
    obtain ⟨i, hi, hi2, rfl, hW⟩ := hrel
    have HW := Lib.hid hW
    clear hW H0
    have hacc := okRs_len rs i
    have hok : AllR (okRs (rs.take i)) := okRs_all (fun r h => HR.out.ok r (List.mem_of_mem_take h))
    have hpl := puts_le hok
    have HOk := Lib.hid hok
    clear hok
    rcases (show (i < n ∧ i < 200) ∨ ((i < n ∧ ¬ i < 200) ∨ ¬ i < n) by omega) with ⟨h1, h2⟩ | hx
    · have hml : i < rs.length := by have := HLen.out; omega
      obtain ⟨b, off, rfl, hb, hrng, ok⟩ := (HR.out.below HW.out.low).get hml
      have HStep := Lib.hid (okRs_step hml)
      have HRng := Lib.hid hrng
      have HOx := Lib.hid ok
      generalize rs[i] = x at *
      generalize okRs (rs.take i) = acc at *
      obtain ⟨A5, c5, rfl, hc5, hR5, _⟩ := HW.out.all.at_
      have HPut := Lib.hid (putNl_is wr A5 _ c5 (puts acc) x ok hR5 (by omega))
      have hbw : b < wr.heap.size := Nat.lt_of_lt_of_le hb HW.out.low.size
      have hi0 : (0 : Int) ≤ (i : Int) := by omega
      have hi1 : (i : Int) < (n : Int) := by omega
      clear hrng ok hR5
      go_wp2_with (first | (refine part_fetch rfl 36 _ rfl b (off + i * 63) (rtc x) _ rfl HRng.out Try.underlying36 rfl (by rw [rt_size, rtc_len HOx.out]) ?_) | fail)
      refine HPut.out.mono ?_
      rintro e w2 ⟨v, rfl, hO, hB⟩
      have HW2 := Lib.hid (HW.out.below hB)
      have HRng2 := Lib.hid (range_below HRng.out hB hbw)
      have hs2 : w.heap.size ≤ wr.heap.size := HW.out.low.size
      have hs3 : w.heap.size ≤ w2.heap.size := HW2.out.low.size
      clear hB HW HRng HPut
      cases hxr : rightR x
      · rw [show errR x = 2 from by unfold errR; rw [hxr]; rfl]
        rw [hxr] at HStep
        have HSt : Hid (okRs (rs.take (i + 1)) = acc) := Lib.hid HStep.out
        clear HStep hO hxr
        go_wp2
        exact ⟨⟨i + 1, by omega, by omega, by go_num, by rw [HSt.out]; exact HW2.out⟩, by simp [intOf]; omega⟩
      · rw [show errR x = 0 from by unfold errR; rw [hxr]; rfl]
        rw [hxr, if_pos rfl] at hO
        rw [hxr] at HStep
        have HSt : Hid (okRs (rs.take (i + 1)) = acc ++ [x]) := Lib.hid HStep.out
        have HO1 := Lib.hid (hO.low (lo' := w.heap.size) hs2)
        clear HStep hO hxr
        go_wp2_with (first
          | (refine part_fetch rfl 36 _ rfl b (off + i * 63) (rtc x) _ rfl HRng2.out Try.underlying36 rfl (by rw [rt_size, rtc_len HOx.out]) ?_)
          | (refine wpList_slice1 rfl 46 36 _ rfl (rtc x) rfl Try.underlying46 (by rw [rt_size, rtc_len HOx.out]) zero_route (by rw [rtc_len HOx.out]; omega) (by rw [rtc_len HOx.out]; omega) ?_)
          | (at_builtin; refine app_rt rfl _ _ rfl HW2.out.want hs3 (by omega) x HOx.out rfl rfl ?_; intro v6' w3 ho6 hg6 hB6; have HW3 := Lib.hid (HW2.out.step HO1.out ho6 hg6 hB6); clear ho6 hg6 hB6)
          | fail)
        exact ⟨⟨i + 1, by omega, by omega, by go_num, by rw [HSt.out]; exact HW3.out⟩, by simp [intOf]; omega⟩
    · generalize okRs (rs.take i) = acc at *
      obtain ⟨A5, c5, rfl, hc5, hR5, _⟩ := HW.out.all.at_
      obtain ⟨A6, c6, rfl, hc6, hR6⟩ := HW.out.want.rdc
      have HR5 := Lib.hid hR5
      have HR6 := Lib.hid hR6
      have HLow := Lib.hid HW.out.low
      have HSem : Hid (Sem (puts acc) acc) := Lib.hid (read_puts_app acc HOk.out)
      clear hR5 hR6 HW
      rcases hx with ⟨h1, h2⟩ | h1
      all_goals
        go_wp2_with fail
        refine (readSem_is _ A5 _ c5 (puts acc) acc HR5.out (by omega) HSem.out).mono ?_
        rintro e w3 ⟨A7, c7, rfl, hR7, hB3⟩
        have HR7 := Lib.hid hR7
        have HL3 := Lib.hid (HLow.out.trans (hB3.mono HLow.out.size))
        have HR6' := Lib.hid ((HR6.out.below hB3).more hB3.size)
        clear hR7 hB3
        go_wp2_with fail
        refine (sameN_is _ A7 A6 _ _ c7 c6 acc acc HR7.out HR6'.out (by omega)).mono ?_
        rintro e w4 ⟨rfl, hB4⟩
        rw [decide_eq_true (show acc = acc from rfl)]
        have HL4 := Lib.hid (HL3.out.trans (hB4.mono HL3.out.size))
        clear hB4
        go_wp2_with fail
        refine (read_is _ Ab m cb lb ((HLb.out.below HL4.out).more HL4.out.size) (by omega)).mono ?_
        rintro e w5 ⟨vm, rfl, hOm, hB5⟩
        have HL5 := Lib.hid (HL4.out.trans (hB5.mono HL4.out.size))
        obtain ⟨Am, cm, rfl, hcm, hRm⟩ := hOm.rdc
        have HRm := Lib.hid hRm
        clear hOm hRm hB5
        cases hall : readAll lb with
        | none =>
          obtain ⟨q1, q2, q3⟩ := HN.out hall
          rw [q1, q2, q3]
          clear q1 q2 q3 hall HRm HN HSo HRight hkl
          go_wp2_with fail
          refine (HAlv.out _).mono ?_
          rintro e w9 ⟨rfl, hB9⟩
          have HL9 := Lib.hid (HL5.out.trans (hB9.mono HL5.out.size))
          clear hB9
          go_wp2
          go_ret
          exact ⟨rfl, HL9.out⟩
        | some xx =>
          obtain ⟨kr, km⟩ := xx
          obtain ⟨q1, q2, q3⟩ := HSo.out kr km hall
          rw [q1] at HRm HRight hkl hcm
          rw [q1, q2, q3]
          clear q1 q2 q3 hall HN HSo
          generalize hkrl : kr.length = kl at *
          have HKL := Lib.hid hkrl
          clear hkrl
          go_wp2
          go_loopw [5, 17, 18, 19, 85] (fun v5 _ _ _ i wr => ∃ j : Nat, j ≤ kl ∧ i = .int .i64 j ∧ OwnB w5.heap.size wr v5 (puts (kr.take j)) ∧ Below w5.heap.size w5 wr) (fun _ _ _ _ i _ => kl - (intOf i).toNat)
          case atStart => exact ⟨0, Nat.zero_le _, rfl, OwnB.nil_ _ _, Below.refl _ _⟩
          case round =>
            obtain ⟨j, hj, rfl, hO, hB⟩ := hrel
            have HO := Lib.hid hO
            have HB := Lib.hid hB
            obtain ⟨A8, c8, rfl, hc8, hR8, _⟩ := hO.at_
            have HR8 := Lib.hid hR8
            have hok2 : AllR (kr.take j) := fun r h => HRight.out r (List.mem_of_mem_take h)
            have hpl2 := puts_le hok2
            have hjl : (kr.take j).length ≤ j := by simp; omega
            clear hO hB hR8
            rcases Nat.lt_or_ge j kl with hlt | hge
            · have hjk : j < kr.length := by have := HKL.out; omega
              obtain ⟨bm, om, rfl, hbm, hrng, okx⟩ := (HRm.out.below HB.out).get hjk
              obtain ⟨hokx, hrx⟩ := HRight.out _ (List.getElem_mem hjk)
              have HStep := Lib.hid (puts_step hjk)
              have HRng := Lib.hid hrng
              have HOx := Lib.hid hokx
              have HRx := Lib.hid hrx
              generalize kr[j] = x at *
              generalize puts (kr.take j) = pj at *
              have hj0 : (0 : Int) ≤ (j : Int) := by omega
              have hj1 : (j : Int) < (kl : Int) := by omega
              have HE0 : Hid (errR x = 0) := Lib.hid (by unfold errR; rw [hrx]; rfl)
              have HBn := Lib.hid (fun Z => Blk.new wr 36 Z)
              have HI : Hid (∀ Z W, Blk W wr.heap.size 36 (rtc x).toArray → Below wr.heap.size (wr.alloc (.cells Z 36)) W → Below wr.heap.size wr W ∧ RtAt W wr.heap.size x) := Lib.hid (fun Z W hb hB => ⟨(bl_one wr (.cells Z 36)).trans hB, ⟨blk_range hb, blk_there hb 0 63 (by rw [rtc_len hokx]; omega)⟩⟩)
              clear hrng okx hokx hrx
              go_wp2_with (first
                | (refine part_fetch rfl 36 _ rfl bm (om + j * 63) (rtc x) _ rfl HRng.out Try.underlying36 rfl (by rw [rt_size, rtc_len HOx.out]) ?_)
                | (refine rt_store_r rfl _ _ rfl wr.heap.size x HOx.out rfl rfl 36 _ (HBn.out _) rfl (fun W => Below wr.heap.size wr W ∧ RtAt W wr.heap.size x) (fun W hb hB => HI.out _ _ hb hB) ?_; intro W6 hW6; have HW6 := Lib.hid hW6; clear hW6)
                | (refine rt_fetch rfl _ rfl wr.heap.size x HOx.out rfl HW6.out.2 ?_)
                | fail)
              refine (putNl_is _ A8 _ c8 pj x HOx.out ((HR8.out.below HW6.out.1).more HW6.out.1.size) (by omega)).mono ?_
              rintro e w7 ⟨v7, rfl, hO7, hB7⟩
              rw [HRx.out, if_pos rfl] at hO7
              rw [HE0.out]
              have HO7 := Lib.hid (hO7.low (lo' := w5.heap.size) (Nat.le_trans HB.out.size HW6.out.1.size))
              have HB7 := Lib.hid ((HB.out.trans (HW6.out.1.mono HB.out.size)).trans (hB7.mono (Nat.le_trans HB.out.size HW6.out.1.size)))
              clear hO7 hB7
              go_wp2
              exact ⟨⟨j + 1, by omega, by go_num, by rw [HStep.out]; exact HO7.out, HB7.out⟩, by simp [intOf]; omega⟩
            · obtain rfl : j = kl := by omega
              have HSem2 : Hid (Sem (puts kr) kr) := Lib.hid (read_puts_app kr HRight.out)
              have hfull : kr = kr.take j := (List.take_of_length_le (by have := HKL.out; omega)).symm
              generalize kr.take j = kt at *
              subst hfull
              have HL6 := Lib.hid (HL5.out.trans (HB.out.mono HL5.out.size))
              have HRm' := Lib.hid ((HRm.out.below HB.out).more HB.out.size)
              have HFin : Hid (∀ W A c, Rd W W.heap.size A (puts kr).length (puts kr) → Calls Try.prog 19 #[.slice A (puts kr).length c] W fun e w' => ∃ A' c', e = .returned (.tuple #[.slice A' j c', .int .i64 0, .int .i64 0]) ∧ RdRt w' w'.heap.size A' j kr ∧ Below W.heap.size W w') := Lib.hid (fun W A c h => by
                have h2 := readSem_is W A _ c (puts kr) kr h (by omega) HSem2.out
                rw [HKL.out] at h2
                exact h2)
              go_wp2_with fail
              refine (HFin.out _ A8 c8 HR8.out).mono ?_
              rintro e w7 ⟨A9, c9, rfl, hR9, hB7⟩
              have HR9 := Lib.hid hR9
              have HL7 := Lib.hid (HL6.out.trans (hB7.mono HL6.out.size))
              have HRm7 := Lib.hid ((HRm'.out.below hB7).more hB7.size)
              clear hR9 hB7
              go_wp2_with fail
              refine (sameN_is _ A9 Am _ _ c9 cm kr kr HR9.out HRm7.out (by omega)).mono ?_
              rintro e w8 ⟨rfl, hB8⟩
              rw [decide_eq_true (show kr = kr from rfl)]
              have HL8 := Lib.hid (HL7.out.trans (hB8.mono HL7.out.size))
              clear hB8
              go_wp2_with fail
              refine (HAlv.out _).mono ?_
              rintro e w9 ⟨rfl, hB9⟩
              have HL9 := Lib.hid (HL8.out.trans (hB9.mono HL8.out.size))
              clear hB9
              go_wp2
              go_ret
              exact ⟨rfl, HL9.out⟩
end Go.Proofs.Ytffaoeakcaongaa
namespace Go.Proofs.Ytffaoeakcaongaa.nlriBack
open Go.ChangeShapes Go.WideShapes Go.ChangeAt Go.RowKit
open Go.ChangeMaps (open_string shut_string)
set_option linter.unusedVariables false

theorem own : ownKnob Try.prog.godebug = none := by kernel_rfl
theorem laidOut : laidOutB Try.prog = true := by kernel_rfl

set_option maxRecDepth 100000 in
theorem lifted (os : Os) (started : os.Started) (H : Type) (enc : TypeId × Value → H) (F : Stop.Interp) :
    ReturnsInHanded {} Try.checked os 6 .any ((Rows.OpenSpec.upto Rows.nlriBackSpec).pre6 enc Try.prog Try.f6 Rows.nlriBackUptoRow.domain false) (((Rows.OpenSpec.upto Rows.nlriBackSpec).at F).post enc Try.prog Try.f6 false true false false) := by
  refine returnsInHanded_of_cond_sized (C := Try.checked) (s := Rows.OpenSpec.upto Rows.nlriBackSpec) (k := Rows.uptoSmall) rfl own started (by kernel_rfl) Try.func6
    (OpenSpec.witness (enc := enc) (C := Try.checked) (s := Rows.OpenSpec.upto Rows.nlriBackSpec) (k := Rows.uptoSmall) rfl false ⟨#[], #[.slice none 0 0, .slice none 0 0], []⟩ 8 (by kernel_rfl) (by kernel_rfl) (by kernel_rfl)
      (x := ([.nil, .nil], [], [])) (by kernel_rfl) rfl (by kernel_rfl)) ?_
  intro W base args ds gs before hval0 hW hcnd hk hsz0 _
  have hval : ∀ (j : Nat) t v, Try.f6.params[j]? = some t → args[j]? = some v → Value.okWide Try.prog W .any base t v := hval0
  have hsz : (DataW.weightsEach Try.prog (Try.f6.params.toList ++ Rows.nlriBackSpec.plain.varTypes Try.prog) (ds ++ gs)).all (· ≤ reachBytes) = true := hsz0
  have hW' := hW
  obtain ⟨p, q, hA0, hV, rfl, hfz, hnd⟩ := hW
  have hA : DataW.TrodAll enc Try.prog W 0 (fun _ => true) true Try.f6.params.toList args.toList ds p := hA0
  rw [Try.params6] at hA hval hsz
  obtain ⟨v0, vs0, d0, ds0, p0, q0, hargs, rfl, rfl, h0, r0⟩ := trodAll_cons hA
  obtain ⟨v1, vs1, d1, ds1, p1, q1, rfl, rfl, rfl, h1, r1⟩ := trodAll_cons r0
  obtain ⟨rfl, rfl, rfl⟩ := trodAll_nil r1
  obtain rfl : args = #[v0, v1] := by cases args; simp_all
  obtain ⟨rfl, rfl⟩ := trodVars_none hV
  have hbulk := bulk_le hk
  simp only [List.append_nil] at hbulk
  obtain ⟨a0, len0, cap0, rfl⟩ := okWide_slice Try.underlying46 (hval 0 46 v0 rfl rfl)
  have lt0 : ∀ x ∈ p0, x.block < W.heap.size := by obtain ⟨m, hm⟩ := h0; exact DataW.trod_lt m _ _ _ hm
  obtain ⟨l0, rd0, lc0, sz0⟩ := open_routes Try.underlying46 h0 hsz (j := 0) rfl rfl
  obtain ⟨a1, len1, cap1, rfl⟩ := okWide_slice Try.underlying22 (hval 1 22 v1 rfl rfl)
  have lt1 : ∀ x ∈ p1, x.block < W.heap.size := by obtain ⟨m, hm⟩ := h1; exact DataW.trod_lt m _ _ _ hm
  obtain ⟨l1, rd1, sz1⟩ := open_bytesc Try.underlying22 Try.underlying5 (by kernel_rfl) h1 (hB := hbulk _ (by simp))
  clear hA0 hval0 hsz hsz0 hk hbulk
  refine (nlriBack_walk W a0 len0 cap0 l0 a1 len1 cap1 l1 rd0 lc0 sz0 rd1 sz1).mono fun e W' ⟨he, bel⟩ => ?_
  subst he
  exact ⟨_, rfl, _, _, _, [], _, [], hW', trodAll_mk1 (shut_bool Try.underlying4 _), (trodAll_cons_mk (Below.trod laidOut (by kernel_rfl) (of_decide_eq_true (by kernel_rfl)) h0 bel lt0) (trodAll_cons_mk (Below.trod laidOut (by kernel_rfl) (of_decide_eq_true (by kernel_rfl)) h1 bel lt1) trodAll_mk0)), rfl, bel.frame _, fun h => by cases h⟩

theorem proved : Rows.NlriBackUptoSaid :=
  OpenClaim.holds_of_cond 6 Try.f6 rfl rfl rfl rfl rfl rfl rfl ⟨rfl, rfl, rfl, rfl, rfl⟩ rfl rfl rfl rfl rfl (by kernel_rfl) Try.func6 (by kernel_rfl)
    (of_decide_eq_true (by kernel_rfl)) (by unfold Func.isWrapper; first | (rw [if_pos (by decide +kernel)]; kernel_rfl) | (rw [if_neg (by decide +kernel)]; exact ⟨rfl, rfl⟩))
    (fun os started H enc _ F => lifted os started H enc F)
#print axioms proved
end Go.Proofs.Ytffaoeakcaongaa.nlriBack
