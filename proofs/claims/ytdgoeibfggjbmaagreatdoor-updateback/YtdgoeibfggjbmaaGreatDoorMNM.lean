/-
  Put together: NlM NlN.
-/
import Derived.Test.YtdgoeibfggjbmaaGreatDoorMNJ
import Derived.Great.BuildSlice
import Derived.OwnWalk
namespace Go.Proofs.YtdgoeibfggjbmaaGreatDoor
open Go.RowKit
set_option maxRecDepth 100000
set_option linter.unusedSimpArgs false
set_option linter.unusedVariables false

/-! A slice literal of one value of several cells. -/
theorem fold_set {α : Type} : ∀ (l : List α) (k : Nat) (pre : List α) (arr : Array α), pre.length = k → arr.size = k + l.length → arr.toList.take k = pre →
    ((l.zipIdx k).foldl (fun (cs : Array α) (x : α × Nat) => cs.setIfInBounds x.2 x.1) arr).toList = pre ++ l
  | [], k, pre, arr, hk, hs, ht => by
    simp only [List.zipIdx_nil, List.foldl_nil, List.append_nil]
    rw [← ht, List.take_of_length_le (by simp at hs ⊢; omega)]
  | x :: l, k, pre, arr, hk, hs, ht => by
    rw [List.zipIdx_cons, List.foldl_cons]
    have h := fold_set l (k + 1) (pre ++ [x]) (arr.setIfInBounds k x) (by simp [hk]) (by simp at hs ⊢; omega) ?_
    · rw [h]; simp
    · rw [Array.toList_setIfInBounds]
      have hlt : k < arr.toList.length := by simp at hs ⊢; omega
      rw [List.take_set, List.take_succ_eq_append_getElem hlt, ht, List.set_append_right _ _ (by omega), hk]
      simp
theorem fill_one (v : Value) (cs : Array Value) (z : Array Value) (n : Nat) (hv : v.cells = cs) (hn : cs.size = n) (hz : z.size = n) : Instr.fill (fun i => some (i * n, n)) z [(0, v)] = some cs := by
  unfold Instr.fill
  simp only [Nat.zero_mul]
  rw [hv, if_neg (by simp; omega)]
  unfold Instr.fill
  congr 1
  apply Array.ext'
  have h := fold_set cs.toList 0 [] z rfl (by simp; omega) rfl
  rw [List.nil_append] at h
  rw [← h, ← Array.toList_zipIdx]
  simp only [Nat.zero_add]
  rw [← Array.foldl_toList]
theorem wp_slice1 {P : Program} {o : Oper} {a : Act} {w : World} {K : Act → World → Prop} {Q : Exit → Act → World → Prop} (t e : TypeId) (x : Operand) (ho : o.op = .buildSlice t 1 #[(0, x)]) (cs : List Value) (hx : a.eval x = .agg cs.toArray)
    (hu : P.underlying t = some (.slice e)) (hi : (P.info? e).map (·.size) = some cs.length) (hz : ((P.info? e).bind (·.zero)).isSome = true) (h0 : 0 < cs.length) (h1 : cs.length ≤ 2 ^ 24)
    (h : K (a.put o.dst (.slice (some ⟨w.heap.size, 0, none⟩) 1 1)) (w.alloc (.cells cs.toArray e))) : o.wp P a w K Q := by
  cases hie : P.info? e with
  | none => simp [hie] at hi
  | some ie =>
    simp only [hie, Option.map_some, Option.some.injEq, Option.bind_some] at hi hz
    obtain ⟨z, hzz⟩ := Option.isSome_iff_exists.1 hz
    refine wp_buildSlice t e 1 _ ho _ ie z hu hie hzz (by omega) (by omega) ?_ h
    have he : (#[(0, x)].map fun (i, x) => (i, a.eval x)).toList = [(0, .agg cs.toArray)] := by simp [hx]
    rw [he]
    exact fill_one _ _ _ _ rfl (by simp [hi]) (by simp)
theorem wpList_slice1 {P : Program} {ops : Array Oper} {rest : List Oper} {o : Oper} {a : Act} {w : World} {Q : Exit → Act → World → Prop} (hg : o.guard = none) (t e : TypeId) (x : Operand) (ho : o.op = .buildSlice t 1 #[(0, x)]) (cs : List Value) (hx : a.eval x = .agg cs.toArray)
    (hu : P.underlying t = some (.slice e)) (hi : (P.info? e).map (·.size) = some cs.length) (hz : ((P.info? e).bind (·.zero)).isSome = true) (h0 : 0 < cs.length) (h1 : cs.length ≤ 2 ^ 24)
    (h : wpList P ops Q rest (a.put o.dst (.slice (some ⟨w.heap.size, 0, none⟩) 1 1)) (w.alloc (.cells cs.toArray e))) : wpList P ops Q (o :: rest) a w :=
  wpList_plain hg fun _ hK => wp_slice1 t e x ho cs hx hu hi hz h0 h1 (hK _ _ h)

/-! Slices of routes. -/
def rtcs (rs : List Rt) : List Value := rs.flatMap rtc
def AllRt (rs : List Rt) : Prop := ∀ r ∈ rs, RtOk r
theorem AllRt.nil_ : AllRt [] := fun r h => by cases h
theorem AllRt.app {a b : List Rt} (ha : AllRt a) (hb : AllRt b) : AllRt (a ++ b) := fun r h => (List.mem_append.1 h).elim (ha r) (hb r)
theorem AllRt.one {r : Rt} (h : RtOk r) : AllRt [r] := fun s hs => by rw [List.mem_singleton] at hs; subst hs; exact h
theorem AllRt.at_ {rs : List Rt} (h : AllRt rs) (i : Nat) (hi : i < rs.length) : RtOk rs[i] := h _ (List.getElem_mem hi)
theorem rtcs_app (a b : List Rt) : rtcs (a ++ b) = rtcs a ++ rtcs b := by simp [rtcs]
theorem rtcs_one (r : Rt) : rtcs [r] = rtc r := by simp [rtcs]
theorem rtcs_len : ∀ (rs : List Rt), AllRt rs → (rtcs rs).length = rs.length * 63
  | [], _ => rfl
  | r :: rs, h => by
    have h1 := rtc_len (h r List.mem_cons_self)
    have h2 := rtcs_len rs (fun x hx => h x (List.mem_cons_of_mem _ hx))
    unfold rtcs at *
    rw [List.flatMap_cons, List.length_append, h2, h1]
    simp; omega
theorem rtcs_get : ∀ (rs : List Rt), AllRt rs → ∀ (i j : Nat) (hi : i < rs.length), j < 63 → (rtcs rs)[i * 63 + j]? = (rtc rs[i])[j]?
  | r :: rs, h, 0, j, hi, hj => by
    have h1 := rtc_len (h r List.mem_cons_self)
    unfold rtcs
    rw [List.flatMap_cons, List.getElem?_append_left (by omega)]
    simp
  | r :: rs, h, i + 1, j, hi, hj => by
    have h1 := rtc_len (h r List.mem_cons_self)
    have h2 := rtcs_get rs (fun x hx => h x (List.mem_cons_of_mem _ hx)) i j (by simpa using hi) hj
    unfold rtcs at *
    rw [List.flatMap_cons, List.getElem?_append_right (by omega), h1, show (i + 1) * 63 + j - 63 = i * 63 + j by omega, h2]
    simp
structure RdRt (w : World) (B : Nat) (A : Option Addr) (n : Nat) (rs : List Rt) : Prop where
  len : rs.length = n
  ok : AllRt rs
  at_ : 0 < n → ∃ b off, A = some ⟨b, off, none⟩ ∧ b < B ∧ ∀ i (h : i < rs.length), w.rangeAt b (off + i * 63) (rtc rs[i])
theorem RdRt.below {w w' : World} {B n : Nat} {A : Option Addr} {rs : List Rt} (h : RdRt w B A n rs) (hb : Below B w w') : RdRt w' B A n rs :=
  ⟨h.len, h.ok, fun hn => by
    obtain ⟨b, off, e, hlt, hc⟩ := h.at_ hn
    exact ⟨b, off, e, hlt, fun i hi => range_below (hc i hi) hb hlt⟩⟩
theorem RdRt.more {w : World} {B B' n : Nat} {A : Option Addr} {rs : List Rt} (h : RdRt w B A n rs) (hb : B ≤ B') : RdRt w B' A n rs :=
  ⟨h.len, h.ok, fun hn => by
    obtain ⟨b, off, e, hlt, hc⟩ := h.at_ hn
    exact ⟨b, off, e, Nat.lt_of_lt_of_le hlt hb, hc⟩⟩
structure OwnRt (lo : Nat) (w : World) (v : Value) (rs : List Rt) : Prop where
  own : w.ownsRow lo 53 63 v rs.length (rtcs rs)
  ok : AllRt rs
theorem OwnRt.nil_ (lo : Nat) (w : World) : OwnRt lo w (.slice none 0 0) [] := ⟨World.ownsRow_nil _ _ _ _, AllRt.nil_⟩
theorem OwnRt.rd {lo : Nat} {w : World} {v : Value} {rs : List Rt} (h : OwnRt lo w v rs) : ∃ A c, v = .slice A rs.length c ∧ RdRt w w.heap.size A rs.length rs := by
  rcases h.own.2 with ⟨rfl, hn⟩ | ⟨g, cap, cur, rfl, hb, hg, hnc, hcm, hcs, hx⟩
  · exact ⟨none, 0, by rw [hn], ⟨rfl, h.ok, fun hp => by omega⟩⟩
  · refine ⟨_, cap, rfl, ⟨rfl, h.ok, fun _ => ⟨g, 0, rfl, (Array.getElem?_eq_some_iff.1 hg).1, fun i hi j u hu => ?_⟩⟩⟩
    have hj : j < 63 := by
      have h1 := (List.getElem?_eq_some_iff.1 hu).1
      rw [rtc_len (h.ok.at_ i hi)] at h1
      exact h1
    have h1 := rtcs_get rs h.ok i j hi hj
    rw [hu, ← hx, List.getElem?_take, if_pos (by omega)] at h1
    rw [Nat.zero_add]
    simp only [World.cell?, hg]
    rw [← Array.getElem?_toList]
    exact h1
theorem OwnRt.below {lo : Nat} {w w' : World} {v : Value} {rs : List Rt} (h : OwnRt lo w v rs) (hb : Below w.heap.size w w') : OwnRt lo w' v rs := by
  refine ⟨⟨h.own.1, ?_⟩, h.ok⟩
  rcases h.own.2 with hn | ⟨g, cap, cur, hv, hbase, hg, hr⟩
  · exact Or.inl hn
  · exact Or.inr ⟨g, cap, cur, hv, hbase, (hb.block g (Array.getElem?_eq_some_iff.1 hg).1).trans hg, hr⟩
theorem OwnRt.grown {lo : Nat} {w w' : World} {v : Value} {rs : List Rt} {g : Nat} (h : OwnRt lo w v rs) (hb : w.grownBy w' (some g)) (hg : g < lo) : OwnRt lo w' v rs := by
  refine ⟨⟨h.own.1, ?_⟩, h.ok⟩
  rcases h.own.2 with hn | ⟨i, cap, cur, hv, hbase, hi, hr⟩
  · exact Or.inl hn
  · exact Or.inr ⟨i, cap, cur, hv, hbase, (hb.block i (Array.getElem?_eq_some_iff.1 hi).1 (fun e => by injection e with e; omega)).trans hi, hr⟩
theorem OwnRt.low {lo lo' : Nat} {w : World} {v : Value} {rs : List Rt} (h : OwnRt lo w v rs) (hl : lo' ≤ lo) : OwnRt lo' w v rs := ⟨own_low h.own hl, h.ok⟩
theorem zero_route : ((Tryz.prog.info? 53).bind (·.zero)).isSome = true := by kernel_rfl
theorem zero_size : ((Tryz.prog.info? 53).bind (·.zero)).map (·.cells.size) = some 63 := by kernel_rfl
theorem info_route : (Tryz.prog.info? 53).map (fun i => (i.size, i.bytes)) = some (63, 104) := by kernel_rfl
theorem app_rt {ops : Array Oper} {rest : List Oper} {o : Oper} {a : Act} {Q : Exit → Act → World → Prop} (hgd : o.guard = none) (s x : Operand)
    (ho : o.op = .call { callee := .builtin .append, args := #[s, x], argTypes := #[32, 32] }) {lo : Nat} {w : World} {v : Value} {rs : List Rt} (h : OwnRt lo w v rs) (hlo : lo ≤ w.heap.size) (hlen : rs.length ≤ 1000000000000)
    (r : Rt) (hr : RtOk r) (hs : a.eval s = v) (hx : a.eval x = .slice (some ⟨w.heap.size, 0, none⟩) 1 1)
    (hk : ∀ v' w', OwnRt lo w' v' (rs ++ [r]) → w.grownBy w' v.ownBlock → Below lo w w' → wpList Tryz.prog ops Q rest (a.put o.dst v') w') :
    wpList Tryz.prog ops Q (o :: rest) a (w.alloc (.cells (rtc r).toArray 53)) := by
  obtain ⟨i, hi, hsz⟩ := Option.map_eq_some_iff.1 info_route
  injection hsz with hsz hby
  obtain ⟨z, hz, hzs⟩ := Option.map_eq_some_iff.1 zero_size
  rw [hi] at hz
  have hB := Blk.new w 53 (rtc r).toArray
  refine wpList_append_own_at _ hgd s x 32 ho lo 53 i z 63 104 Tryz.underlying32 hi hz hsz hby hzs (by decide) v rs.length (rtcs rs) hs (h.own.alloc _) ⟨w.heap.size, 0, none⟩ 1 1 (rtc r) hx (by rw [rtc_len hr]) ?_ (rtc_one r) (by unfold maxLen; omega) (by omega) (by simp; omega) ?_
  · intro j u hu
    rw [show ((⟨w.heap.size, 0, none⟩ : Addr).add j) = ⟨w.heap.size, j, none⟩ from by unfold Addr.add; split <;> simp_all, hB.cell]
    simpa using hu
  · intro v' w' hown hgr _ _
    have hg2 : w.grownBy w' v.ownBlock := ⟨hgr.os, hgr.tape, hgr.output, Nat.le_trans (by simp) hgr.size, fun j hj hne => (hgr.block j (by simp; omega) hne).trans (Below.heap_alloc _ _ _ hj)⟩
    have hbel : Below lo w w' := (Below.refl lo w).grown hg2 hlo (fun i e => (h.own.lt i e).1)
    refine hk v' w' ⟨?_, h.ok.app (AllRt.one hr)⟩ hg2 hbel
    rw [rtcs_app, rtcs_one]
    simpa using hown

/-! What Read comes to. -/
def addR (k : Int) (body : List Int) : Option (List Rt × Nat) → Option (List Rt × Nat)
  | none => none
  | some (rs, m) => if 1 ≤ k ∧ k ≤ 5 then (match oneR k body with | some r => some (r :: rs, m) | none => some (rs, m + 1)) else some (rs, m)
def readF : Nat → List Int → Option (List Rt × Nat)
  | 0, _ => some ([], 0)
  | _ + 1, [] => some ([], 0)
  | _ + 1, [_] => none
  | f + 1, k :: n :: rest => if (rest.length : Int) < n then none else addR k (rest.take n.toNat) (readF f (rest.drop n.toNat))
theorem readF_fuel : ∀ (f g : Nat) (xs : List Int), xs.length ≤ f → xs.length ≤ g → readF f xs = readF g xs
  | 0, 0, xs, _, _ => rfl
  | 0, g + 1, xs, h, _ => by obtain rfl : xs = [] := List.eq_nil_of_length_eq_zero (by omega); rfl
  | f + 1, 0, xs, _, h => by obtain rfl : xs = [] := List.eq_nil_of_length_eq_zero (by omega); rfl
  | f + 1, g + 1, [], _, _ => rfl
  | f + 1, g + 1, [_], _, _ => rfl
  | f + 1, g + 1, k :: n :: rest, hf, hg => by
    simp only [List.length_cons] at hf hg
    simp only [readF]
    rw [readF_fuel f g _ (by simp; omega) (by simp; omega)]
def readAll (xs : List Int) : Option (List Rt × Nat) := readF xs.length xs
theorem readAll_nil : readAll [] = some ([], 0) := rfl
theorem readAll_one (k : Int) : readAll [k] = none := rfl
theorem readAll_cons (k n : Int) (rest : List Int) : readAll (k :: n :: rest) = if (rest.length : Int) < n then none else addR k (rest.take n.toNat) (readAll (rest.drop n.toNat)) := by
  unfold readAll
  simp only [List.length_cons, readF]
  rw [readF_fuel (rest.length + 1) (rest.drop n.toNat).length _ (by simp; omega) (Nat.le_refl _)]
def readRs (l : List Int) : List Rt := match readAll l with | some (rs, _) => rs | none => []
def readMN (l : List Int) : Nat := match readAll l with | some (_, m) => m | none => 0
def readE (l : List Int) : Int := match readAll l with | some _ => 0 | none => 3
def pre2 (rs : List Rt) (m : Nat) (o : Option (List Rt × Nat)) : Option (List Rt × Nat) := o.map fun x => (rs ++ x.1, m + x.2)
theorem pre2_none (rs : List Rt) (m : Nat) : pre2 rs m none = none := rfl
theorem pre2_nil (o : Option (List Rt × Nat)) : pre2 [] 0 o = o := by cases o <;> simp [pre2]

theorem nS_in {l : List Int} {p : Nat} {k : Int} {tl : List Int} (h : l.drop p = k :: tl) : nV l (p, 0) 1 = k ∧ nS l (p, 0) 1 = (p + 1, 0) := by
  have hlen : p + 1 ≤ l.length := by have := congrArg List.length h; simp at this; omega
  have ht : stepTook l p 0 1 = [k] := by
    unfold stepTook
    rw [if_pos ⟨rfl, by omega, by omega⟩, h]
    rfl
  have hok : numOk 1 := ⟨by omega, by omega⟩
  have h1 : stepAt l p 0 1 = p + 1 := by unfold stepAt; rw [if_pos ⟨rfl, by omega, by omega⟩]; rfl
  have h2 : stepErr l p 0 1 = 0 := by unfold stepErr; rw [if_pos rfl, if_neg (by omega), if_neg (by omega)]
  refine ⟨?_, ?_⟩
  · simp only [nV, numVal, if_pos hok, ht]
    simp [numOf]
  · simp only [nS, numAt, numErr, if_pos hok, h1, h2]
theorem nS_out {l : List Int} {p : Nat} (h : l.length ≤ p) : nV l (p, 0) 1 = 0 ∧ nS l (p, 0) 1 = (p, 3) := by
  have ht : stepTook l p 0 1 = [] := by unfold stepTook; rw [if_neg (by omega)]
  have hok : numOk 1 := ⟨by omega, by omega⟩
  have h1 : stepAt l p 0 1 = p := by unfold stepAt; rw [if_neg (by omega)]
  have h2 : stepErr l p 0 1 = 3 := by unfold stepErr; rw [if_pos rfl, if_neg (by omega), if_pos (by omega)]
  refine ⟨?_, ?_⟩
  · simp only [nV, numVal, if_pos hok, ht]
    rfl
  · simp only [nS, numAt, numErr, if_pos hok, h1, h2]
theorem tS_in {l : List Int} {p n : Nat} (h : p + n ≤ l.length) : tV l (p, 0) n = (l.drop p).take n ∧ tS l (p, 0) n = (p + n, 0) := by
  refine ⟨?_, ?_⟩
  · unfold tV stepTook
    rw [if_pos ⟨rfl, by omega, by simp; omega⟩]
    rfl
  · unfold tS stepAt stepErr
    rw [if_pos ⟨rfl, by omega, by simp; omega⟩, if_pos rfl, if_neg (by omega), if_neg (by simp; omega)]
    rfl
theorem tS_out {l : List Int} {p : Nat} {n : Int} (hp : p ≤ l.length) (h : (l.length : Int) < p + n) : tV l (p, 0) n = [] ∧ tS l (p, 0) n = (p, 3) := by
  refine ⟨?_, ?_⟩
  · unfold tV stepTook
    rw [if_neg (by simp; omega)]
  · unfold tS stepAt stepErr
    rw [if_neg (by simp; omega), if_pos rfl, if_neg (by omega), if_pos (by simp; omega)]
theorem tS_err (l : List Int) (p : Nat) (e n : Int) (he : e ≠ 0) : tV l (p, e) n = [] ∧ tS l (p, e) n = (p, e) := by
  refine ⟨?_, ?_⟩
  · unfold tV stepTook
    rw [if_neg (fun h => he h.1)]
  · unfold tS stepAt stepErr
    rw [if_neg (fun h => he h.1), if_neg he]
theorem readStep {l : List Int} (ho : Oct l) {p : Nat} (hp : p < l.length) :
    ((tS l (nS l (nS l (p, 0) 1) 1) (nV l (nS l (p, 0) 1) 1)).2 = 3 ∧ readAll (l.drop p) = none) ∨
    ((tS l (nS l (nS l (p, 0) 1) 1) (nV l (nS l (p, 0) 1) 1)).2 = 0 ∧ p < (tS l (nS l (nS l (p, 0) 1) 1) (nV l (nS l (p, 0) 1) 1)).1 ∧ (tS l (nS l (nS l (p, 0) 1) 1) (nV l (nS l (p, 0) 1) 1)).1 ≤ l.length ∧
      readAll (l.drop p) = addR (nV l (p, 0) 1) (tV l (nS l (nS l (p, 0) 1) 1) (nV l (nS l (p, 0) 1) 1)) (readAll (l.drop (tS l (nS l (nS l (p, 0) 1) 1) (nV l (nS l (p, 0) 1) 1)).1))) := by
  obtain ⟨k, hk⟩ : ∃ k, l.drop p = k :: l.drop (p + 1) := ⟨l[p], List.drop_eq_getElem_cons hp⟩
  obtain ⟨e1, e2⟩ := nS_in hk
  rw [e1, e2]
  rcases Nat.lt_or_ge (p + 1) l.length with h1 | h1
  · obtain ⟨n, hn⟩ : ∃ n, l.drop (p + 1) = n :: l.drop (p + 2) := ⟨l[p + 1], List.drop_eq_getElem_cons h1⟩
    have hn0 : 0 ≤ n := (ho n (List.mem_of_mem_drop (i := p + 1) (by rw [hn]; exact List.mem_cons_self))).1
    obtain ⟨e3, e4⟩ := nS_in hn
    rw [e3, e4, hk, hn, readAll_cons]
    have hlen : (l.drop (p + 2)).length = l.length - (p + 2) := List.length_drop
    rcases Int.lt_or_le ((l.drop (p + 2)).length : Int) n with h2 | h2
    · left
      obtain ⟨_, e6⟩ := tS_out (l := l) (p := p + 1 + 1) (n := n) (by omega) (by omega)
      rw [e6, if_pos h2]
      exact ⟨rfl, rfl⟩
    · right
      obtain ⟨m, rfl⟩ : ∃ m : Nat, n = m := ⟨n.toNat, by omega⟩
      obtain ⟨e5, e6⟩ := tS_in (l := l) (p := p + 1 + 1) (n := m) (by omega)
      rw [e5, e6, if_neg (by omega)]
      refine ⟨rfl, by simp only; omega, by simp only; omega, ?_⟩
      rw [Int.toNat_natCast, List.drop_drop]
  · left
    have hnil : l.drop (p + 1) = [] := List.drop_of_length_le h1
    obtain ⟨e3, e4⟩ := nS_out (l := l) h1
    rw [e3, e4, hk, hnil, readAll_one]
    obtain ⟨_, e6⟩ := tS_err l (p + 1) 3 0 (by omega)
    rw [e6]
    exact ⟨rfl, rfl⟩
end Go.Proofs.YtdgoeibfggjbmaaGreatDoor
namespace Go.Proofs.YtdgoeibfggjbmaaGreatDoor
open Go.RowKit
set_option maxRecDepth 100000
set_option linter.unusedSimpArgs false
set_option linter.unusedVariables false

def ReadPost (w : World) (l : List Int) (e : Ending) (w' : World) : Prop := ∃ v, e = .returned (.tuple #[v, .int .i64 (readMN l), .int .i64 (readE l)]) ∧ OwnRt w.heap.size w' v (readRs l) ∧ Below w.heap.size w w'
theorem read_none {l : List Int} (h : readAll l = none) : readRs l = [] ∧ readMN l = 0 ∧ readE l = 3 := by unfold readRs readMN readE; rw [h]; exact ⟨rfl, rfl, rfl⟩
theorem read_some {l : List Int} {rs : List Rt} {m : Nat} (h : readAll l = some (rs, m)) : readRs l = rs ∧ readMN l = m ∧ readE l = 0 := by unfold readRs readMN readE; rw [h]; exact ⟨rfl, rfl, rfl⟩
theorem rt_store_r {ops : Array Oper} {rest : List Oper} {o : Oper} {a : Act} {w : World} {Q : Exit → Act → World → Prop} (hgd : o.guard = none) (x y : Operand) (ho : o.op = .store 53 x y) (g : Nat) (r : Rt) (hr : RtOk r)
    (hx : a.eval x = .pointer (some ⟨g, 0, none⟩)) (hy : a.eval y = .agg (rtc r).toArray) (t : TypeId) (old : Array Value) (hg : Blk w g t old) (hold : old.size = 63) (I : World → Prop) (hI : ∀ W, Blk W g t (rtc r).toArray → Below g w W → I W)
    (h : ∀ W, I W → wpList Tryz.prog ops Q rest (a.put o.dst undef) W) : wpList Tryz.prog ops Q (o :: rest) a w := rt_store hgd x y ho g r hr hx hy t old hg hold (h _ (hI _ (hg.setRow _) (below_setRow _ _ _ (Nat.le_refl _))))

structure RdW (A0 : Option Addr) (c0 : Nat) (w W : World) (g lo : Nat) (l : List Int) (s : CS) (v : Value) (rs : List Rt) : Prop where
  cu : CurS A0 c0 W g l s
  out : OwnRt lo W v rs
  low : Below w.heap.size w W
  gl : g < lo
  ll : lo ≤ W.heap.size
  wl : w.heap.size ≤ g
section
variable {A0 : Option Addr} {c0 : Nat} {w W W' : World} {g lo : Nat} {l : List Int} {s s' : CS} {v v' : Value} {rs rs' : List Rt}
theorem RdW.step (h : RdW A0 c0 w W g lo l s v rs) (hc : CurS A0 c0 W' g l s') (hg : W.grownBy W' (some g)) : RdW A0 c0 w W' g lo l s' v rs :=
  ⟨hc, h.out.grown hg h.gl, h.low.trans (below_grown hg (Nat.le_trans h.wl (Nat.le_refl _)) h.low.size), h.gl, Nat.le_trans h.ll hg.size, h.wl⟩
theorem RdW.above (h : RdW A0 c0 w W g lo l s v rs) (hB : Below W.heap.size W W') : RdW A0 c0 w W' g lo l s v rs :=
  ⟨h.cu.above hB (Nat.lt_of_lt_of_le h.gl h.ll), h.out.below hB, h.low.trans (hB.mono h.low.size), h.gl, Nat.le_trans h.ll hB.size, h.wl⟩
theorem RdW.more (h : RdW A0 c0 w W g lo l s v rs) (ho : OwnRt lo W' v' rs') (hB : Below lo W W') : RdW A0 c0 w W' g lo l s v' rs' :=
  ⟨h.cu.above hB h.gl, ho, h.low.trans (hB.mono (Nat.le_trans h.wl (Nat.le_of_lt h.gl))), h.gl, Nat.le_trans h.ll hB.size, h.wl⟩
end
theorem hdR_ok {r : Rt} {l : List Int} (hr : RtOk r) (ho : Oct l) : RtOk (hdR r l) where
  k := hr.k
  rd := fillV_len _ _ _
  ord := fillV_oct ho _ _
  es := by unfold hdR; simp only; split; exact hr.es; exact fillV_len _ _ _
  oes := by unfold hdR; simp only; split; exact hr.oes; exact fillV_oct ho _ _
  tg := by unfold hdR; simp only; split; exact hr.tg; exact u32_nV4 ho _
  mc := hr.mc
  omc := hr.omc
  pl := hr.pl
  opl := hr.opl
  pn := hr.pn
  gl := hr.gl
  ogl := hr.ogl
  lb := hr.lb
  l2 := hr.l2
theorem macR_ok {r : Rt} {l : List Int} (hr : RtOk r) (ho : Oct l) (s : CS) : RtOk (macR r l s) where
  k := hr.k
  rd := hr.rd
  ord := hr.ord
  es := hr.es
  oes := hr.oes
  tg := hr.tg
  mc := fillV_len _ _ _
  omc := fillV_oct ho _ _
  pl := (wholeV_ok ho _).1
  opl := (wholeV_ok ho _).2.1
  pn := (wholeV_ok ho _).2.2
  gl := hr.gl
  ogl := hr.ogl
  lb := u32_nV3 ho _
  l2 := by unfold macR; simp only; split; exact u32_nV3 ho _; exact hr.l2
theorem preR_ok {r : Rt} {l : List Int} (hr : RtOk r) (ho : Oct l) (six : Bool) (s : CS) : RtOk (preR six r l s) where
  k := hr.k
  rd := hr.rd
  ord := hr.ord
  es := hr.es
  oes := hr.oes
  tg := hr.tg
  mc := hr.mc
  omc := hr.omc
  pl := ipP_len _ _ _
  opl := ipP_oct ho _ _
  pn := ⟨by have := byte_nV1 ho s; show _ ≤ nV l s 1; omega, by have := byte_nV1 ho s; show nV l s 1 < _; omega⟩
  gl := ipP_len _ _ _
  ogl := ipP_oct ho _ _
  lb := u32_nV3 ho _
  l2 := hr.l2
theorem fdR_Ok {r : Rt} {l : List Int} (hr : RtOk r) (ho : Oct l) : RtOk (fdR r l) := by
  have h := hdR_ok hr ho
  unfold fdR
  split
  · exact { h with lb := u32_nV3 ho _ }
  · split
    · exact macR_ok h ho _
    · split
      · exact preR_ok h ho _ _
      · exact { h with pl := (wholeV_ok ho _).1, opl := (wholeV_ok ho _).2.1, pn := (wholeV_ok ho _).2.2 }
theorem oneR_ok {k : Int} {l : List Int} (ho : Oct l) (hk : 1 ≤ k ∧ k ≤ 5) {r : Rt} (h : oneR k l = some r) : RtOk r := by
  unfold oneR at h
  split at h
  · injection h with h
    subst h
    exact fdR_Ok (z8_ok k ⟨by omega, by omega⟩) ho
  · cases h
def posOf (w : World) (g : Nat) : Nat := match w.cell? ⟨g, 1, none⟩ with
  | some (.int _ n) => n.toNat
  | _ => 0
theorem posOf_cur {A0 : Option Addr} {c0 : Nat} {w : World} {g : Nat} {l : List Int} {s : CS} (h : CurS A0 c0 w g l s) : posOf w g = s.1 := by
  obtain ⟨A, c, h0, _⟩ := h.ex
  have h1 : w.cell? ⟨g, 1, none⟩ = some (.int .i64 s.1) := Blk.cell h0 1
  unfold posOf
  rw [h1]
  simp
theorem pre2_add (rs : List Rt) (m : Nat) (k : Int) (body : List Int) (o : Option (List Rt × Nat)) : pre2 rs m (addR k body o) = if 1 ≤ k ∧ k ≤ 5 then (match oneR k body with | some r => pre2 (rs ++ [r]) m o | none => pre2 rs (m + 1) o) else pre2 rs m o := by
  cases o with
  | none =>
    simp only [addR, pre2_none]
    repeat' split
    all_goals rfl
  | some x =>
    obtain ⟨a, b⟩ := x
    simp only [addR]
    split
    · cases oneR k body with
      | none => simp [pre2]; omega
      | some r => simp [pre2]
    · rfl
set_option maxHeartbeats 1000000 in
theorem readNl_is (w : World) (A : Option Addr) (n c : Nat) (l : List Int) (hr : Rd w w.heap.size A n l) (hm : n ≤ 1000000000000) : Calls Tryz.prog 175 #[.slice A n c] w (ReadPost w l) := by
  have HR := Lib.hid hr
  have HO := Lib.hid hr.oct
  have hln : l.length = n := hr.len
  have HN := Lib.hid (read_none (l := l))
  have HSm := Lib.hid (fun rs m => read_some (l := l) (rs := rs) (m := m))
  clear hr
  go_enter Tryz.func175, Tryz.ntmps175
  go_wp2_with fail
  refine (new_isX _ A n c l HR.out (by omega)).mono ?_
  rintro e w1 ⟨g, A0, c0, rfl, hg, hcx, _, hB1⟩
  have H1 : Hid (RdW A0 c0 w w1 g w1.heap.size l (0, 0) (.slice none 0 0) []) := Lib.hid ⟨hcx, OwnRt.nil_ _ _, hB1, hcx.toIsCurT.lt, Nat.le_refl _, hg⟩
  clear hcx hB1 HR
  generalize w1.heap.size = lo at *
  go_wp2_with fail
  go_loopw [5, 6, 8, 9, 10, 11, 12] (fun v m _ _ _ _ _ wr => ∃ (p k : Nat) (rs : List Rt), p ≤ l.length ∧ m = .int .i64 k ∧ RdW A0 c0 w wr g lo l (p, 0) v rs ∧ rs.length ≤ p ∧ k ≤ p ∧ readAll l = pre2 rs k (readAll (l.drop p))) (fun _ _ _ _ _ _ _ wr => l.length - posOf wr g)
  case atStart => exact ⟨0, 0, [], Nat.zero_le _, rfl, H1.out, Nat.zero_le _, Nat.zero_le _, by rw [pre2_nil]; rfl⟩
  case round =>
    obtain ⟨p, k, rs, hp, rfl, hW, hrs, hk, hread⟩ := hrel
    have HW := Lib.hid hW
    have HRead := Lib.hid hread
    clear hW hread
    go_wp2_with fail
    refine (leftC_is _ g l _ _ HW.out.cu.toIsCurT).mono ?_
    rintro e w2 ⟨rfl, k2, rfl⟩
    have HW2 := Lib.hid (HW.out.above (below_drewN (Below.refl _ _) k2))
    have hpos := posOf_cur HW.out.cu
    clear HW
    by_cases hlt : p < l.length
    · have HSt := Lib.hid (readStep HO.out hlt)
      go_wp2_with fail
      generalize wr.drewN k2 = W2 at *
      refine (numS _ g l _ 1 HW2.out.cu).mono ?_
      rintro e w3 ⟨rfl, hC, hG⟩
      have HW3 := Lib.hid (HW2.out.step hC hG)
      have hb1 := byte_nV1 HO.out (p, 0)
      clear hC hG HW2
      generalize nV l (p, 0) 1 = kd at *
      generalize nS l (p, 0) 1 = s1 at *
      obtain ⟨hb1a, hb1b⟩ := hb1
      go_wp2_with fail
      refine (numS _ g l _ 1 HW3.out.cu).mono ?_
      rintro e w4 ⟨rfl, hC, hG⟩
      have HW4 := Lib.hid (HW3.out.step hC hG)
      have hb2 := byte_nV1 HO.out s1
      clear hC hG HW3
      generalize nV l s1 1 = bn at *
      generalize nS l s1 1 = s2 at *
      obtain ⟨hb2a, hb2b⟩ := hb2
      go_wp2_with fail
      refine (takeS _ g l s2 bn HW4.out.cu).mono ?_
      rintro e w5 ⟨A5, rfl, hN5, hC, hG⟩
      have HW5 := Lib.hid (HW4.out.step hC hG)
      have HR5 := Lib.hid hN5.rd
      have HO5 := Lib.hid hN5.1
      have hl5 : (tV l s2 bn).length ≤ l.length := stepTook_len _ _ _ _
      clear hC hG HW4 hN5
      generalize tV l s2 bn = body at *
      generalize tS l s2 bn = s3 at *
      go_wp2_with fail
      refine (err_is _ g l _ _ HW5.out.cu.toIsCurT).mono ?_
      rintro e w6 ⟨rfl, rfl⟩
      rcases HSt.out with ⟨he, hno⟩ | ⟨he, h1, h2, hadd⟩
      · have hall := HRead.out
        rw [hno, pre2_none] at hall
        obtain ⟨q1, q2, q3⟩ := HN.out hall
        have HQ := Lib.hid (show readRs l = [] ∧ readMN l = 0 ∧ readE l = 3 from ⟨q1, q2, q3⟩)
        clear q1 q2 q3 hall hno HSt
        rw [he]
        go_wp2
        go_ret3
        exact ⟨.slice none 0 0, by rw [HQ.out.2.1, HQ.out.2.2]; rfl, by rw [HQ.out.1]; exact OwnRt.nil_ _ _, HW5.out.low⟩
      · have hall := HRead.out
        rw [hadd, pre2_add] at hall
        have HAll := Lib.hid hall
        clear hall hadd HSt HRead
        rw [he]
        go_wp2_with fail
        refine (isKind_is _ kd).mono ?_
        rintro e w6 ⟨rfl, rfl⟩
        have hle5 := HW5.out.cu.le
        have HM : Hid (s3 = (s3.1, 0)) := Lib.hid (by rw [← he])
        by_cases hkd : 1 ≤ kd ∧ kd ≤ 5
        · simp only [if_pos hkd] at HAll
          rw [decide_eq_true hkd]
          go_wp2_with fail
          refine (rroute_is _ kd A5 _ _ body hkd HR5.out (by omega)).mono ?_
          rintro e w7 ⟨rfl, hB7⟩
          have HW7 := Lib.hid (HW5.out.above hB7)
          clear hB7 HW5 HR5
          cases hone : oneR kd body with
          | none =>
            rw [hone] at HAll
            simp only at HAll
            have HBn := Lib.hid (fun Z => Blk.new w7 53 Z)
            have HZ0 := Lib.hid (z8_ok 0 i64_0)
            have HI := Lib.hid (fun Z W (hB : Below w7.heap.size (w7.alloc (.cells Z 53)) W) => HW7.out.above ((bl_one w7 (.cells Z 53)).trans hB))
            clear HW7 hone
            unfold oneT
            go_wp2_with (first
              | (refine rt_store_r rfl _ _ rfl w7.heap.size (rtZ 0 z8) HZ0.out rfl rfl 53 _ (HBn.out _) rfl (fun W => RdW A0 c0 w W g lo l s3 _ rs) (fun W _ hB => HI.out _ _ hB) ?_; intro W8 hW8; have HW8 := Lib.hid hW8; clear hW8)
              | fail)
            rw [HM.out] at HW8
            refine ⟨⟨s3.1, k + 1, rs, h2, by go_num, HW8.out, by omega, by omega, HAll.out⟩, ?_⟩
            rw [posOf_cur HW8.out.cu, hpos]
            simp only
            omega
          | some r =>
            rw [hone] at HAll
            simp only at HAll
            have hrok : RtOk r := oneR_ok HO5.out hkd hone
            have HBn := Lib.hid (fun Z => Blk.new w7 53 Z)
            have HI : Hid (∀ Z W, Blk W w7.heap.size 53 (rtc r).toArray → Below w7.heap.size (w7.alloc (.cells Z 53)) W → RdW A0 c0 w W g lo l s3 _ rs ∧ Blk W w7.heap.size 53 (rtc r).toArray) := Lib.hid (fun Z W hb hB => ⟨HW7.out.above ((bl_one w7 (.cells Z 53)).trans hB), hb⟩)
            have HRK := Lib.hid hrok
            clear HW7 hone hrok
            unfold oneT
            go_wp2_with (first
              | (refine rt_store_r rfl _ _ rfl w7.heap.size r HRK.out rfl rfl 53 _ (HBn.out _) rfl (fun W => RdW A0 c0 w W g lo l s3 _ rs ∧ Blk W w7.heap.size 53 (rtc r).toArray) (fun W hb hB => HI.out _ _ hb hB) ?_; intro W8 hW8; have HW8 := Lib.hid hW8; clear hW8)
              | (refine rt_fetch rfl _ rfl w7.heap.size r HRK.out rfl ⟨blk_range HW8.out.2, blk_there HW8.out.2 0 63 (by rw [rtc_len HRK.out]; omega)⟩ ?_)
              | (refine wpList_slice1 rfl 32 53 _ rfl (rtc r) rfl Tryz.underlying32 (by rw [rt_size, rtc_len HRK.out]) zero_route (by rw [rtc_len HRK.out]; omega) (by rw [rtc_len HRK.out]; omega) ?_)
              | (at_builtin; refine app_rt rfl _ _ rfl HW8.out.1.out HW8.out.1.ll (by omega) r HRK.out rfl rfl ?_; intro v9 w9 hO9 _ hB9; have HW9 := Lib.hid (HW8.out.1.more hO9 hB9); clear hO9 hB9)
              | fail)
            rw [HM.out] at HW9
            refine ⟨⟨s3.1, k, rs ++ [r], h2, by go_num, HW9.out, by simp; omega, by omega, HAll.out⟩, ?_⟩
            rw [posOf_cur HW9.out.cu, hpos]
            simp only
            omega
        · simp only [if_neg hkd] at HAll
          rw [decide_eq_false hkd]
          go_wp2
          rw [HM.out] at HW5
          refine ⟨⟨s3.1, k, rs, h2, by go_num, HW5.out, by omega, by omega, HAll.out⟩, ?_⟩
          rw [posOf_cur HW5.out.cu, hpos]
          simp only
          omega
    · obtain rfl : p = l.length := by omega
      have hall := HRead.out
      rw [List.drop_length, readAll_nil] at hall
      obtain ⟨q1, q2, q3⟩ := HSm.out (rs ++ []) (k + 0) hall
      have HQ := Lib.hid (show readRs l = rs ∧ readMN l = k ∧ readE l = 0 from ⟨by rw [q1, List.append_nil], q2, q3⟩)
      have hgw : w.heap.size ≤ lo := Nat.le_trans HW2.out.wl (Nat.le_of_lt HW2.out.gl)
      clear q1 q2 q3 hall HRead
      go_wp2
      go_ret3
      exact ⟨_, by rw [HQ.out.2.1, HQ.out.2.2]; rfl, by rw [HQ.out.1]; exact HW2.out.out.low hgw, HW2.out.low⟩
end Go.Proofs.YtdgoeibfggjbmaaGreatDoor
