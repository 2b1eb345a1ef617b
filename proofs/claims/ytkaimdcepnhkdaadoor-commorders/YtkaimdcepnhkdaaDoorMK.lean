/-
  Put together: Inv ComN.
-/
import Derived.Test.YtkaimdcepnhkdaaDoorProg
import Derived.Test.YtkaimdcepnhkdaaDoorMA
import Derived.Deep.RegionHeld
import Derived.Test.YtkaimdcepnhkdaaDoorMF
import Derived.Test.YtkaimdcepnhkdaaDoorMI
namespace Go.Proofs.YtkaimdcepnhkdaaDoor
open Go.RowKit
set_option linter.unusedSimpArgs false
set_option linter.unusedVariables false

section
variable {P : Program} {ops : Array Oper} {Q : Exit → Act → World → Prop} {md : Region.Mode} {S : World → Prop}
theorem ready_mem {L : Array Bool} {i : Nat} (h : i ∈ Region.ready md ops L) : i < ops.size ∧ L.getD i true = false ∧ ∀ o, ops[i]? = some o → ∀ (j : Nat) e, o.after[j]? = some e → Region.binds md e = true → L.getD e.on false = true := by
  unfold Region.ready at h
  rw [List.mem_filter] at h
  obtain ⟨h1, h2⟩ := h
  rw [Bool.and_eq_true] at h2
  refine ⟨List.mem_range.1 h1, by simpa using h2.1, fun o ho => ?_⟩
  have h3 := h2.2
  rw [ho] at h3
  have h4 : (o.after.all fun e => !Region.binds md e || L.getD e.on false) = true := by simpa using h3
  intro j e he hb
  rw [Array.all_eq_true] at h4
  obtain ⟨hj, rfl⟩ := Array.getElem?_eq_some_iff.1 he
  have := h4 j hj
  rw [hb] at this
  simpa using this
theorem ready_nil {L : Array Bool} (h : Region.ready md ops L = []) (i : Nat) (hi : i < ops.size) (o : Oper) (ho : ops[i]? = some o) (hL : L.getD i true = false) : (o.after.all fun e => !Region.binds md e || L.getD e.on false) = false := by
  unfold Region.ready at h
  have := List.filter_eq_nil_iff.1 h i (List.mem_range.2 hi)
  rw [ho, hL] at this
  simpa using this
theorem ready_no {L : Array Bool} (h : Region.ready md ops L = []) (i : Nat) (hi : i < ops.size) (o : Oper) (ho : ops[i]? = some o) (hL : L.getD i true = false) (ha : (o.after.all fun e => !Region.binds md e || L.getD e.on false) = true) : False := by
  rw [ready_nil h i hi o ho hL] at ha
  cases ha
theorem count_set : ∀ (l : List Bool) (i : Nat), l[i]? = some false → (l.set i true).countP (fun b => !b) + 1 = l.countP (fun b => !b)
  | [], i, h => by simp at h
  | b :: l, 0, h => by simp at h; subst h; simp
  | b :: l, i + 1, h => by
    have := count_set l i (by simpa using h)
    simp only [List.set_cons_succ, List.countP_cons]
    omega
theorem getD_false {L : Array Bool} {i : Nat} (h : L.getD i true = false) : L.toList[i]? = some false := by
  unfold Array.getD at h
  split at h
  · rename_i hi
    rw [Array.getElem?_toList, Array.getElem?_eq_getElem hi]
    exact congrArg some h
  · cases h
/-- Whatever comes up keeps I; at the end I gives what is wanted. -/
theorem wpAnyH_inv (I : Array Bool → Act → World → Prop) (hS : ∀ L a w, I L a w → S w) (hQ : ∀ L a w, I L a w → Region.ready md ops L = [] → Q .normal a w)
    (hstep : ∀ L a w, I L a w → ∀ i ∈ Region.ready md ops L, wpOp P ops Q i (I (L.setIfInBounds i true)) a w) :
    ∀ (fuel : Nat) (L : Array Bool) (a : Act) (w : World), I L a w → L.toList.countP (fun b => !b) ≤ fuel → wpAnyH P md ops Q S fuel L a w
  | 0, L, a, w, h, hc => by
    have hr : Region.ready md ops L = [] := by
      rcases hq : Region.ready md ops L with _ | ⟨i, r⟩
      · rfl
      · have hi : i ∈ Region.ready md ops L := by rw [hq]; exact List.mem_cons_self
        have := count_set _ _ (getD_false (ready_mem hi).2.1)
        omega
    exact ⟨hr, hQ L a w h hr⟩
  | fuel + 1, L, a, w, h, hc => by
    refine ⟨hQ L a w h, fun i hi => wpOp_mono (fun a' w' h' => ⟨hS _ _ _ h', wpAnyH_inv I hS hQ hstep fuel _ a' w' h' ?_⟩) (hstep L a w h i hi)⟩
    have := count_set _ _ (getD_false (ready_mem hi).2.1)
    rw [Array.toList_setIfInBounds]
    omega
theorem wpAnyH_start (I : Act → Array Bool → Act → World → Prop) {fuel : Nat} {L : Array Bool} {a : Act} {w : World} (h0 : I a L a w) (hc : L.toList.countP (fun b => !b) ≤ fuel) (hS : ∀ L a' w, I a L a' w → S w) (hQ : ∀ L a' w, I a L a' w → Region.ready md ops L = [] → Q .normal a' w)
    (hstep : ∀ L a' w, I a L a' w → ∀ i ∈ Region.ready md ops L, wpOp P ops Q i (I a (L.setIfInBounds i true)) a' w) : wpAnyH P md ops Q S fuel L a w :=
  wpAnyH_inv (I a) hS hQ hstep fuel L a w h0 hc
theorem wpOp_call {i : Nat} {o : Oper} {K : Act → World → Prop} {a : Act} {w : World} (ho : ops[i]? = some o) (hg : o.guard = none) (f : FuncId) (vs : Array Value) (h : (execOp a.eval o).run P w = .ok (.enter f vs) w) {R : Value}
    (hc : Calls P f vs w fun e w' => e = .returned R ∧ Below w.heap.size w w') (hk : ∀ w', Below w.heap.size w w' → K (a.put o.dst R) w') : wpOp P ops Q i K a w := by
  unfold wpOp
  rw [ho]
  have hw : Region.wanted o (yielded ops a.tmps) = true := by unfold Region.wanted; rw [hg]
  simp only [hw, if_true]
  refine Or.inl ?_
  unfold Oper.wp
  rw [h]
  exact hc.mono (fun e w' ⟨he, hb⟩ => by subst he; exact hk w' hb)
theorem wpOp_value {i : Nat} {o : Oper} {K : Act → World → Prop} {a : Act} {w : World} (ho : ops[i]? = some o) (hg : o.guard = none) (v : Value) (w' : World) (h : (execOp a.eval o).run P w = .ok (.value v) w')
    (hk : K (a.put o.dst v) w') : wpOp P ops Q i K a w := by
  unfold wpOp
  rw [ho]
  have hw : Region.wanted o (yielded ops a.tmps) = true := by unfold Region.wanted; rw [hg]
  simp only [hw, if_true]
  refine Or.inl ?_
  unfold Oper.wp
  rw [h]
  exact hk
theorem wpOp_wp {i : Nat} {o : Oper} {K : Act → World → Prop} {a : Act} {w : World} (ho : ops[i]? = some o) (hg : o.guard = none) (h : o.wp P a w K Q) : wpOp P ops Q i K a w := by
  unfold wpOp
  rw [ho]
  have hw : Region.wanted o (yielded ops a.tmps) = true := by unfold Region.wanted; rw [hg]
  simp only [hw, if_true]
  exact Or.inl h
end

/-- Variables in new blocks, each there or not yet. -/
structure VarsAt (w : World) (lo : Nat) (t : TypeId) (ps : List (Option (Nat × Array Value))) : Prop where
  blk : ∀ (i : Nat) x, ps[i]? = some (some x) → lo ≤ x.1 ∧ Blk w x.1 t x.2
  ne : ∀ (i j : Nat) x y, i ≠ j → ps[i]? = some (some x) → ps[j]? = some (some y) → x.1 ≠ y.1
theorem VarsAt.below {w w' : World} {lo : Nat} {t : TypeId} {ps : List (Option (Nat × Array Value))} (h : VarsAt w lo t ps) (hB : Below w.heap.size w w') : VarsAt w' lo t ps :=
  ⟨fun i x hx => ⟨(h.blk i x hx).1, (h.blk i x hx).2.below hB (h.blk i x hx).2.lt⟩, h.ne⟩
theorem VarsAt.alloc {w : World} {lo : Nat} {t : TypeId} {ps : List (Option (Nat × Array Value))} (h : VarsAt w lo t ps) (hlo : lo ≤ w.heap.size) (i : Nat) (z : Array Value) : VarsAt (w.alloc (.cells z t)) lo t (ps.set i (some (w.heap.size, z))) := by
  have hnew : ∀ (j : Nat) x, (ps.set i (some (w.heap.size, z)))[j]? = some (some x) → (j = i ∧ x = (w.heap.size, z)) ∨ (j ≠ i ∧ ps[j]? = some (some x)) := by
    intro j x hx
    rw [List.getElem?_set] at hx
    split at hx
    · rename_i e
      subst e
      split at hx
      · left; simp at hx; exact ⟨rfl, hx.symm⟩
      · cases hx
    · rename_i e
      exact Or.inr ⟨Ne.symm e, hx⟩
  refine ⟨fun j x hx => ?_, fun j k x y hjk hx hy => ?_⟩
  · rcases hnew j x hx with ⟨_, rfl⟩ | ⟨_, hx⟩
    · exact ⟨hlo, Blk.new w t z⟩
    · exact ⟨(h.blk j x hx).1, (h.blk j x hx).2.alloc _⟩
  · rcases hnew j x hx with ⟨e1, rfl⟩ | ⟨_, hx⟩ <;> rcases hnew k y hy with ⟨e2, rfl⟩ | ⟨_, hy⟩
    · exact absurd (e1.trans e2.symm) hjk
    · have := (h.blk k y hy).2.lt; simp only; omega
    · have := (h.blk j x hx).2.lt; simp only; omega
    · exact h.ne j k x y hjk hx hy
theorem Blk.setRow_ne {w : World} {g g' : Nat} {t : TypeId} {cs : Array Value} (h : Blk w g t cs) (cs' : Array Value) (hne : g ≠ g') : Blk (w.setRow g' cs') g t cs := by
  have hb := setRow_other w g' g cs' hne
  exact hb.trans h
theorem VarsAt.set {w : World} {lo : Nat} {t : TypeId} {ps : List (Option (Nat × Array Value))} (h : VarsAt w lo t ps) (i : Nat) (g : Nat) (old z : Array Value) (hi : ps[i]? = some (some (g, old))) : VarsAt (w.setRow g z) lo t (ps.set i (some (g, z))) := by
  have hil : i < ps.length := by
    rcases Nat.lt_or_ge i ps.length with h | h
    · exact h
    · rw [List.getElem?_eq_none h] at hi; cases hi
  have hnew : ∀ (j : Nat) x, (ps.set i (some (g, z)))[j]? = some (some x) → (j = i ∧ x = (g, z)) ∨ (j ≠ i ∧ ps[j]? = some (some x)) := by
    intro j x hx
    rw [List.getElem?_set] at hx
    split at hx
    · rename_i e
      subst e
      left; simp at hx; exact ⟨rfl, hx.symm⟩
    · rename_i e
      exact Or.inr ⟨Ne.symm e, hx⟩
  refine ⟨fun j x hx => ?_, fun j k x y hjk hx hy => ?_⟩
  · rcases hnew j x hx with ⟨_, rfl⟩ | ⟨hj, hx⟩
    · exact ⟨(h.blk i _ hi).1, (h.blk i _ hi).2.setRow z⟩
    · exact ⟨(h.blk j x hx).1, (h.blk j x hx).2.setRow_ne z (h.ne j i x _ hj hx hi)⟩
  · rcases hnew j x hx with ⟨e1, rfl⟩ | ⟨h1, hx⟩ <;> rcases hnew k y hy with ⟨e2, rfl⟩ | ⟨h2, hy⟩
    · exact absurd (e1.trans e2.symm) hjk
    · exact h.ne i k (g, old) y (Ne.symm h2) hi hy
    · exact h.ne j i x (g, old) h1 hx hi
    · exact h.ne j k x y hjk hx hy
/-- A variable's pointer, once it is there. -/
def pv (p : Option (Nat × Array Value)) : Value := match p with
  | none => undef
  | some x => .pointer (some ⟨x.1, 0, none⟩)
end Go.Proofs.YtkaimdcepnhkdaaDoor
namespace Go.Proofs.YtkaimdcepnhkdaaDoor
open Go.RowKit
set_option linter.unusedSimpArgs false
set_option linter.unusedVariables false

theorem tgt_oct (a n : Int) : Oct (tgt a n) := by
  have o2 : ∀ x : Int, Oct (be 2 x) := be_oct 2
  have o4 : ∀ x : Int, Oct (be 4 x) := be_oct 4
  unfold tgt
  split
  all_goals
    intro x hx
    rcases List.mem_append.1 hx with hx | hx
    · rcases List.mem_append.1 hx with hx | hx
      · simp at hx; omega
      · first | exact o2 _ x hx | exact o4 _ x hx
    · first | exact o2 _ x hx | exact o4 _ x hx
theorem fl_bd (b : Bool) : 0 ≤ fl b ∧ fl b < 256 := by cases b <;> decide
theorem mob_oct (b : Bool) (n : Int) : Oct (mob b n) := by
  have hf := fl_bd b
  intro x hx
  rcases List.mem_append.1 hx with hx | hx
  · simp at hx; omega
  · exact be_oct _ _ x hx
theorem lab_oct (b : Bool) (n : Int) : Oct (lab b n) := by
  have hf := fl_bd b
  intro x hx
  rcases List.mem_append.1 hx with hx | hx
  · simp at hx; omega
  · exact be_oct _ _ x hx
theorem enc_oct (k : Int) : Oct (enc k) := by
  intro x hx
  rcases List.mem_append.1 hx with hx | hx
  · simp at hx; omega
  · exact be_oct _ _ x hx
theorem withM_oct (x y : Int) (m : List Int) (hx : 0 ≤ x ∧ x < 256) (hy : 0 ≤ y ∧ y < 256) (ho : Oct m) : Oct (withM x y m) := by
  intro z hz
  rcases List.mem_cons.1 hz with rfl | hz
  · exact hx
  · rcases List.mem_cons.1 hz with rfl | hz
    · exact hy
    · exact ho z hz
theorem z8_oct : Oct z8 := by intro x h; simp [z8] at h; omega
theorem commE_of (o : Option (List Int)) (h : ∀ l, o = some l → l.length = 8 ∧ Oct l) : ∃ l e, commE o = .tuple #[.agg (u8s l).toArray, .int .i64 e] ∧ l.length = 8 ∧ Oct l := by
  cases o with
  | none => exact ⟨z8, 2, rfl, rfl, z8_oct⟩
  | some l => exact ⟨l, 0, rfl, (h l rfl).1, (h l rfl).2⟩
theorem mtO_ok (a n : Int) (l : List Int) (h : mtO a n = some l) : l.length = 8 ∧ Oct l := by
  unfold mtO at h
  split at h
  · cases h; exact ⟨tgt_len a n, tgt_oct a n⟩
  · split at h
    · cases h; exact ⟨tgt_len a n, tgt_oct a n⟩
    · cases h
theorem mlO_ok (b : Bool) (n : Int) (l : List Int) (h : mlO b n = some l) : l.length = 8 ∧ Oct l := by
  unfold mlO at h
  split at h
  · cases h; exact ⟨lab_len b n, lab_oct b n⟩
  · cases h
theorem comm_eql (l l' : List Int) (hl : l.length = 8) (hl' : l'.length = 8) (ho : Oct l) (ho' : Oct l') (b : Bool) (hb : decide (l = l') = b) (w : World) :
    (binOp .eql 52 (.agg (u8s l).toArray) (.agg (u8s l').toArray)).run Tryd.prog w = .ok (.bool b) w :=
  run_eql_u8s (P := Tryd.prog) (t := 52) (e := 5) (n := 8) (by kernel_rfl) Tryd.underlying52 Tryd.underlying5 (by kernel_rfl) (by kernel_rfl) l l' hl hl' ho ho' b hb w
theorem comm_neq (l l' : List Int) (hl : l.length = 8) (hl' : l'.length = 8) (ho : Oct l) (ho' : Oct l') (b : Bool) (hb : (!decide (l = l')) = b) (w : World) :
    (binOp .neq 52 (.agg (u8s l).toArray) (.agg (u8s l').toArray)).run Tryd.prog w = .ok (.bool b) w :=
  run_neq_u8s (P := Tryd.prog) (t := 52) (e := 5) (n := 8) (by kernel_rfl) Tryd.underlying52 Tryd.underlying5 (by kernel_rfl) (by kernel_rfl) l l' hl hl' ho ho' b hb w
theorem comm_eq (l : List Int) (hl : l.length = 8) (ho : Oct l) (w : World) : (binOp .eql 52 (.agg (u8s l).toArray) (.agg (u8s l).toArray)).run Tryd.prog w = .ok (.bool true) w := comm_eql l l hl hl ho ho true (by simp) w
theorem comm_ne (l : List Int) (hl : l.length = 8) (ho : Oct l) (w : World) : (binOp .neq 52 (.agg (u8s l).toArray) (.agg (u8s l).toArray)).run Tryd.prog w = .ok (.bool false) w := comm_neq l l hl hl ho ho false (by simp) w
/-- The card, and what lies below. -/
structure CM (w0 w : World) (m : List Int) : Prop where
  mac : Blk w w0.heap.size 49 (u8s m).toArray
  low : Below w0.heap.size w0 w
  env : Env w
theorem CM.below {w0 w w' : World} {m : List Int} (h : CM w0 w m) (hB : Below w.heap.size w w') : CM w0 w' m := ⟨h.mac.below hB h.mac.lt, h.low.trans (hB.mono h.low.size), h.env.below hB⟩

theorem numOf_be2 (a : Int) (h0 : 0 ≤ a) (h1 : a ≤ 65535) : numOf (be 2 a) = a := by simp [be, numOf]; omega
theorem numOf_be3 (a : Int) (h0 : 0 ≤ a) (h1 : a ≤ 16777215) : numOf (be 3 a) = a := by simp [be, numOf]; omega
theorem numOf_be4 (a : Int) (h0 : 0 ≤ a) (h1 : a ≤ 4294967295) : numOf (be 4 a) = a := by simp [be, numOf]; omega
theorem rd_tgt4 (a n : Int) (a0 : 0 ≤ a) (a1 : a ≤ 65535) (n0 : 0 ≤ n) (n1 : n ≤ 4294967295) : rdF (tgt a n) = ⟨1, 0, a, n, false, z6⟩ := by
  have e : tgt a n = [0, 2] ++ be 2 a ++ be 4 n := by unfold tgt; rw [if_pos a1]
  rw [rdF_2 _ (by rw [e]; rfl)]
  have s1 : seg (tgt a n) 2 2 = be 2 a := by rw [e]; rfl
  have s2 : seg (tgt a n) 4 4 = be 4 n := by rw [e]; rfl
  rw [s1, s2, numOf_be2 a a0 a1, numOf_be4 n n0 n1]
theorem rd_tgt6 (a n : Int) (a0 : ¬ a ≤ 65535) (a1 : a ≤ 4294967295) (n0 : 0 ≤ n) (n1 : n ≤ 65535) : rdF (tgt a n) = ⟨1, 2, a, n, false, z6⟩ := by
  have e : tgt a n = [2, 2] ++ be 4 a ++ be 2 n := by unfold tgt; rw [if_neg a0]
  rw [rdF_514 _ (by rw [e]; rfl)]
  have s1 : seg (tgt a n) 2 4 = be 4 a := by rw [e]; rfl
  have s2 : seg (tgt a n) 6 2 = be 2 n := by rw [e]; rfl
  rw [s1, s2, numOf_be4 a (by omega) a1, numOf_be2 n n0 n1]
theorem flag_fl (b : Bool) (x y : Int) (r : List Int) : flagOf (x :: y :: fl b :: r) = b := by cases b <;> rfl
theorem rd_lab (b : Bool) (n : Int) (n0 : 0 ≤ n) (n1 : n ≤ 16777215) : rdF (lab b n) = ⟨3, 0, 0, n, b, z6⟩ := by
  rw [rdF_1537 _ (by rfl)]
  have s1 : seg (lab b n) 5 3 = be 3 n := rfl
  rw [s1, numOf_be3 n n0 n1]
  exact congrArg (fun x => (⟨3, 0, 0, n, x, z6⟩ : Fd)) (flag_fl b 6 1 _)
theorem rd_mob (b : Bool) (n : Int) (n0 : 0 ≤ n) (n1 : n ≤ 4294967295) : rdF (mob b n) = ⟨2, 0, 0, n, b, z6⟩ := by
  rw [rdF_1536 _ (by rfl)]
  have s1 : seg (mob b n) 4 4 = be 4 n := rfl
  rw [s1, numOf_be4 n n0 n1]
  exact congrArg (fun x => (⟨2, 0, 0, n, x, z6⟩ : Fd)) (flag_fl b 6 0 _)
theorem rd_imp (m : List Int) (hm : m.length = 6) : rdF (withM 6 2 m) = ⟨4, 0, 0, 0, false, m⟩ := by
  rw [rdF_1538 _ (by rfl)]
  have s1 : seg (withM 6 2 m) 2 6 = m := by unfold seg withM; simp [List.take_of_length_le, hm]
  rw [s1]
theorem rd_rtr (m : List Int) (hm : m.length = 6) : rdF (withM 6 3 m) = ⟨5, 0, 0, 0, false, m⟩ := by
  rw [rdF_1539 _ (by rfl)]
  have s1 : seg (withM 6 3 m) 2 6 = m := by unfold seg withM; simp [List.take_of_length_le, hm]
  rw [s1]
theorem rd_enc (k : Int) (h0 : 0 ≤ k) (h1 : k ≤ 65535) : rdF (enc k) = ⟨6, 0, 0, k, false, z6⟩ := by
  rw [rdF_780 _ (by rfl)]
  have s1 : seg (enc k) 6 2 = be 2 k := rfl
  rw [s1, numOf_be2 k h0 h1]
theorem ml_at (w : World) (b : Bool) (n : Int) (n0 : 0 ≤ n) (n1 : n < 4294967296) (l : List Int) (h : mlO b n = some l) :
    Calls Tryd.prog 38 #[.bool b, .int .u32 n] w fun x w' => x = .returned (.tuple #[.agg (u8s l).toArray, .int .i64 0]) ∧ Below w.heap.size w w' := by
  have := ml_is' w b n n0 n1
  rw [h] at this
  exact this
theorem ml_no (w : World) (b : Bool) (n : Int) (n0 : 0 ≤ n) (n1 : n < 4294967296) (h : mlO b n = none) :
    Calls Tryd.prog 38 #[.bool b, .int .u32 n] w fun x w' => x = .returned (.tuple #[.agg (u8s z8).toArray, .int .i64 2]) ∧ Below w.heap.size w w' := by
  have := ml_is' w b n n0 n1
  rw [h] at this
  exact this
/-- A new variable for what a community says, filled. -/
theorem new_fd {w0 w : World} (hB : Below w0.heap.size w0 w) (f : Fd) : Blk ((w.alloc (.cells zfd 63)).setRow w.heap.size (fdA f)) w.heap.size 63 (fdA f) ∧ Below w0.heap.size w0 ((w.alloc (.cells zfd 63)).setRow w.heap.size (fdA f)) ∧ Below w.heap.size w ((w.alloc (.cells zfd 63)).setRow w.heap.size (fdA f)) :=
  ⟨Blk.setRow (Blk.new w 63 zfd) _, (hB.alloc hB.size _).trans (below_setRow _ _ _ hB.size), ((Below.refl _ _).alloc (Nat.le_refl _) _).trans (below_setRow _ _ _ (Nat.le_refl _))⟩
theorem fdA_wp {o : Oper} {a : Act} {w : World} {K : Act → World → Prop} {Q : Exit → Act → World → Prop} (x y : Operand) (ho : o.op = .store 63 x y) (g : Nat) (f : Fd) (hf : f.mac.length = 6)
    (hx : a.eval x = .pointer (some ⟨g, 0, none⟩)) (hy : a.eval y = .agg (fdA f)) (t : TypeId) (old : Array Value) (hg : Blk w g t old) (hold : old.size = 11)
    (h : K (a.put o.dst undef) (w.setRow g (fdA f))) : o.wp Tryd.prog a w K Q :=
  wp_store_row 63 x y ho g _ hx hy t old hg (fdc_size f hf) (by rw [hold, fdA_size f hf]) (all_oneCell_toArray (fdc_one f)) h
theorem wpOp_fdA {ops : Array Oper} {Q : Exit → Act → World → Prop} {i : Nat} {o : Oper} {K : Act → World → Prop} {a : Act} {w : World} (hi : ops[i]? = some o) (hgd : o.guard = none) (x y : Operand) (ho : o.op = .store 63 x y) (g : Nat) (f : Fd) (hf : f.mac.length = 6)
    (hx : a.eval x = .pointer (some ⟨g, 0, none⟩)) (hy : a.eval y = .agg (fdA f)) (old : Array Value) (hg : Blk w g 63 old) (hold : old.size = 11)
    (h : K (a.put o.dst undef) (w.setRow g (fdA f))) : wpOp Tryd.prog ops Q i K a w := wpOp_wp hi hgd (fdA_wp x y ho g f hf hx hy 63 old hg hold h)
theorem mac_eq (l : List Int) (hl : l.length = 6) (ho : Oct l) (w : World) : (binOp .eql 49 (.agg (u8s l).toArray) (.agg (u8s l).toArray)).run Tryd.prog w = .ok (.bool true) w :=
  run_eql_u8s (P := Tryd.prog) (t := 49) (e := 5) (n := 6) (by kernel_rfl) Tryd.underlying49 Tryd.underlying5 (by kernel_rfl) (by kernel_rfl) l l hl hl ho ho true (by simp) w
end Go.Proofs.YtkaimdcepnhkdaaDoor
