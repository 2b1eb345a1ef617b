/-
  Put together: ComQ ComR ComS ComT ComU ComV.
-/
import Derived.Test.YtkaimdcepnhkdaaDoorML
import Derived.Lib.SliceRun
import Derived.Test.YtkaimdcepnhkdaaDoorMJ
import Derived.Test.YtkaimdcepnhkdaaDoorShelfG
namespace Go.Proofs.YtkaimdcepnhkdaaDoor
open Go.RowKit
set_option linter.unusedSimpArgs false
set_option linter.unusedVariables false

/-- What is left of a run of equal ones is one. -/
def ctA (p : List Int) : List (List Int) → List (List Int)
  | [] => []
  | b :: r => if b = p then ctA p r else b :: ctA b r
def ct : List (List Int) → List (List Int)
  | [] => []
  | a :: r => a :: ctA a r
theorem ctA_same : ∀ (r : List (List Int)) (p y : List Int), y = r.getLastD p → ctA p (r ++ [y]) = ctA p r
  | [], p, y, h => by
    have h' : y = p := h
    simp [ctA, h']
  | b :: r, p, y, h => by
    rw [List.getLastD_cons] at h
    have ih := ctA_same r b y h
    by_cases hb : b = p
    · subst hb
      simp only [List.cons_append, ctA, if_true]
      exact ih
    · simp only [List.cons_append, ctA, hb, if_false]
      rw [ih]
theorem ctA_more : ∀ (r : List (List Int)) (p y : List Int), y ≠ r.getLastD p → ctA p (r ++ [y]) = ctA p r ++ [y]
  | [], p, y, h => by
    have h' : ¬ y = p := h
    simp [ctA, h']
  | b :: r, p, y, h => by
    rw [List.getLastD_cons] at h
    have ih := ctA_more r b y h
    by_cases hb : b = p
    · subst hb
      simp only [List.cons_append, ctA, if_true]
      exact ih
    · simp only [List.cons_append, ctA, hb, if_false]
      rw [ih]
theorem last_take (a : List Int) (r : List (List Int)) (m : Nat) (hm : m < (a :: r).length) : ((a :: r).take (m + 1)).tail.getLastD a = (a :: r)[m] := by
  rw [List.take_succ_cons, List.tail_cons]
  induction r generalizing a m with
  | nil =>
    have : m = 0 := by simpa using hm
    subst this
    rfl
  | cons b r ih =>
    cases m with
    | zero => rfl
    | succ m =>
      rw [List.take_succ_cons, List.getLastD_cons]
      exact ih b m (by simpa using hm)
theorem ct_take (ls : List (List Int)) (m : Nat) (h1 : 1 ≤ m) (hm : m < ls.length) :
    (ls[m] = ls[m - 1]'(by omega) → ct (ls.take (m + 1)) = ct (ls.take m)) ∧ (ls[m] ≠ ls[m - 1]'(by omega) → ct (ls.take (m + 1)) = ct (ls.take m) ++ [ls[m]]) := by
  match ls, hm with
  | a :: r, hm =>
    obtain ⟨k, rfl⟩ : ∃ k, m = k + 1 := ⟨m - 1, by omega⟩
    have hl := last_take a r k (by omega)
    rw [List.take_succ_cons, List.tail_cons] at hl
    have ht : (a :: r).take (k + 1 + 1) = a :: (r.take k ++ [(a :: r)[k + 1]]) := by
      rw [List.take_succ_eq_append_getElem hm, List.take_succ_cons]
      rfl
    rw [ht, List.take_succ_cons]
    simp only [Nat.add_sub_cancel]
    constructor
    · intro h
      show a :: ctA a _ = a :: ctA a _
      rw [ctA_same _ _ _ (by rw [h, hl])]
    · intro h
      show a :: ctA a _ = (a :: ctA a _) ++ _
      rw [ctA_more _ _ _ (by rw [hl]; exact h)]
      rfl
theorem ctA_mem : ∀ (r : List (List Int)) (p x : List Int), x ∈ ctA p r → x ∈ r
  | b :: r, p, x, h => by
    unfold ctA at h
    split at h
    · exact List.mem_cons_of_mem _ (ctA_mem r p x h)
    · rcases List.mem_cons.1 h with rfl | h
      · exact List.mem_cons_self
      · exact List.mem_cons_of_mem _ (ctA_mem r b x h)
theorem ct_mem (l : List (List Int)) (x : List Int) (h : x ∈ ct l) : x ∈ l := by
  match l, h with
  | a :: r, h =>
    rcases List.mem_cons.1 h with rfl | h
    · exact List.mem_cons_self
    · exact List.mem_cons_of_mem _ (ctA_mem r a x h)
theorem only_setCells {g : Nat} {w0 : World} : ∀ (vs : List Value) (o : Nat) (w : World), w0.grownBy w (some g) → w0.grownBy (w.setCells g o vs) (some g)
  | [], _, w, h => h
  | v :: vs, o, w, h => by
    unfold World.setCells
    exact only_setCells vs (o + 1) _ (only_setCell h (p := ⟨g, o, none⟩) (.inl rfl) v)
/-- The communities that lie in block g. -/
structure RowC (w : World) (g : Nat) (cs : List (List Int)) : Prop where
  ok : All8 cs
  at_ : ∀ i (h : i < cs.length), w.rangeAt g (i * 8) (u8s cs[i])
  there : ∀ i, i < cs.length → w.there g (i * 8) 8
theorem RowC.set {w : World} {g : Nat} {cs : List (List Int)} (h : RowC w g cs) (k : Nat) (hk : k < cs.length) (y : List Int) (hy : y.length = 8) (oy : Oct y) : RowC (w.setCells g (k * 8) (u8s y)) g (cs.set k y) := by
  refine ⟨fun l hl => ?_, fun i hi => ?_, fun i hi => World.there_setCells (h.there i (by simpa using hi)) _ _ _⟩
  · rcases List.mem_or_eq_of_mem_set hl with hl | rfl
    · exact h.ok l hl
    · exact ⟨hy, oy⟩
  · have hi' : i < cs.length := by simpa using hi
    by_cases e : i = k
    · subst e
      simp only [List.getElem_set_self]
      exact World.rangeAt_setCells_same _ _ _ _ (by simpa [hy] using h.there i hi')
    · rw [List.getElem_set_ne (fun e' => e e'.symm)]
      refine World.rangeAt_setCells_apart (h.at_ i hi') _ _ _ (.inr ?_)
      have := (h.ok.at_ i hi').1
      simp [this, hy]
      omega
theorem zero8 (n : Nat) : (Builtin.zeroCells zc8 n).toList = u8ss (List.replicate n z8) := by
  apply List.ext_getElem?
  intro i
  have h8 : All8 (List.replicate n z8) := fun l hl => by rw [List.eq_of_mem_replicate hl]; exact ⟨rfl, z8_oct⟩
  rcases Nat.lt_or_ge i (n * 8) with hi | hi
  · have h1 := u8ss_get (List.replicate n z8) h8 (i / 8) (i % 8) (by simp; omega) (by omega)
    rw [show i / 8 * 8 + i % 8 = i by omega] at h1
    rw [h1]
    have h2 : i % 8 < 8 := by omega
    simp [Builtin.zeroCells, hi]
    rcases (show i % 8 = 0 ∨ i % 8 = 1 ∨ i % 8 = 2 ∨ i % 8 = 3 ∨ i % 8 = 4 ∨ i % 8 = 5 ∨ i % 8 = 6 ∨ i % 8 = 7 by omega) with h | h | h | h | h | h | h | h <;> rw [h] <;> rfl
  · rw [List.getElem?_eq_none (l := u8ss (List.replicate n z8)) (by rw [u8ss_len _ h8]; simpa using hi), List.getElem?_eq_none (by simp [Builtin.zeroCells]; omega)]
end Go.Proofs.YtkaimdcepnhkdaaDoor
namespace Go.Proofs.YtkaimdcepnhkdaaDoor
open Go.RowKit
set_option linter.unusedSimpArgs false
set_option linter.unusedVariables false

theorem zeroC (w : World) : (zeroValue 52).run Tryd.prog w = .ok (.agg zc8) w := by kernel_rfl
theorem there_flat {w : World} {g : Nat} {cs : List (List Int)} (h : RowC w g cs) (k n : Nat) (hk : k + n ≤ cs.length) : w.there g (k * 8) (n * 8) := by
  intro j hj
  have := h.there (k + j / 8) (by omega) (j % 8) (by omega)
  rw [show (k + j / 8) * 8 + j % 8 = k * 8 + j by omega] at this
  exact this
theorem run_clear8 (w : World) (ty : TypeId) (g k n c : Nat) (cs : List (List Int)) (h : RowC w g cs) (hn : 0 < n) (hk : k + n ≤ cs.length) :
    (Builtin.clear_ #[69] ty #[.slice (some ⟨g, k * 8, none⟩) n c]).run Tryd.prog w = .ok (.tuple #[]) (w.setCells g (k * 8) (u8ss (List.replicate n z8))) := by
  have ht := there_flat h k n hk
  have h8 : All8 (List.replicate n z8) := fun l hl => by rw [List.eq_of_mem_replicate hl]; exact ⟨rfl, z8_oct⟩
  have hl : (u8ss (List.replicate n z8)).length = n * 8 := by rw [u8ss_len _ h8]; simp
  have hst := run_storeCells_cells (P := Tryd.prog) g (k * 8) (u8ss (List.replicate n z8)) 0 w (by rw [hl]; simpa using fun j hj => (ht j hj).1) (by rw [hl]; simpa using fun j hj => (ht j hj).2) (by
    intro v hv
    obtain ⟨l, hl, hv⟩ := List.mem_flatMap.1 hv
    exact u8s_one1 l v hv)
  simp only [Nat.add_zero] at hst
  obtain ⟨m, rfl⟩ : ∃ m, n = m + 1 := ⟨n - 1, by omega⟩
  have hz := zero8 (m + 1)
  simp [Builtin.clear_, run_underlying Tryd.underlying69, zeroC, Value.cells, hz, hst]
theorem comm_there {ops : Array Oper} {rest : List Oper} {o : Oper} {a : Act} {w : World} {Q : Exit → Act → World → Prop} (hgd : o.guard = none) (x y : Operand) (ho : o.op = .store 52 x y) (g b : Nat) (l : List Int) (hl : l.length = 8)
    (hx : a.eval x = .pointer (some ⟨g, b, none⟩)) (hy : a.eval y = .agg (u8s l).toArray) (ht : w.there g b 8)
    (h : wpList Tryd.prog ops Q rest (a.put o.dst undef) (w.setCells g b (u8s l))) : wpList Tryd.prog ops Q (o :: rest) a w := by
  refine wpList_store_mid hgd 52 x y ho g b (u8s l).toArray hx hy (by simpa [hl] using ht) (comm_size l hl) (all_oneCell_toArray (u8s_one1 l)) ?_
  simpa using h
/-- What the walk knows of the row. -/
structure CpS (w0 w : World) (g : Nat) (cs : List (List Int)) : Prop where
  row : RowC w g cs
  grown : w0.grownBy w (some g)
theorem CpS.drew {w0 w : World} {g : Nat} {cs : List (List Int)} (h : CpS w0 w g cs) : CpS w0 w.drew g cs := ⟨⟨h.row.ok, h.row.at_, h.row.there⟩, ⟨h.grown.os, h.grown.tape, h.grown.output, h.grown.size, h.grown.block⟩⟩
theorem CpS.set {w0 w : World} {g : Nat} {cs : List (List Int)} (h : CpS w0 w g cs) (k : Nat) (hk : k < cs.length) (y : List Int) (hy : y.length = 8) (oy : Oct y) : CpS w0 (w.setCells g (k * 8) (u8s y)) g (cs.set k y) :=
  ⟨h.row.set k hk y hy oy, only_setCells _ _ _ h.grown⟩
theorem CpS.cut {w0 w : World} {g : Nat} {cs : List (List Int)} (h : CpS w0 w g cs) (k : Nat) (hk : k ≤ cs.length) (vs : List Value) : CpS w0 (w.setCells g (k * 8) vs) g (cs.take k) := by
  refine ⟨⟨fun l hl => h.row.ok l (List.mem_of_mem_take hl), fun i hi => ?_, fun i hi => World.there_setCells (h.row.there i ?_) _ _ _⟩, only_setCells _ _ _ h.grown⟩
  · have hi' : i < k := by rw [List.length_take] at hi; omega
    rw [List.getElem_take]
    refine World.rangeAt_setCells_apart (h.row.at_ i (by omega)) _ _ _ (.inr (.inl ?_))
    have := (h.row.ok.at_ i (by omega)).1
    simp [this]
    omega
  · rw [List.length_take] at hi
    omega
theorem CpS.at2 {w0 w : World} {g : Nat} {cs : List (List Int)} (h : CpS w0 w g cs) {i : Nat} {x : List Int} (hx : cs[i]? = some x) (o : Nat) (ho : o = i * 8) : w.rangeAt g o (u8s x) := by
  subst ho
  obtain ⟨hi, rfl⟩ := List.getElem?_eq_some_iff.1 hx
  exact h.row.at_ i hi
/-- What the inner loop knows. -/
structure In2 (w0 w : World) (g : Nat) (ls cs : List (List Int)) (a q k : Nat) : Prop where
  st : CpS w0 w g cs
  len : cs.length = ls.length
  kis : k = (ct (ls.take (a + (q + 1)))).length
  kle : k ≤ a + q
  tk : cs.take k = ct (ls.take (a + (q + 1)))
  same : ∀ i, a + q ≤ i → cs[i]? = ls[i]?
set_option maxHeartbeats 4000000 in
set_option maxRecDepth 100000 in
theorem cpt_is (w : World) (g cap : Nat) (ls : List (List Int)) (hr : RowC w g ls) (hn : ls.length ≤ 1000000) (hc : ls.length ≤ cap) (hcap : cap ≤ 1000000) :
    Calls Tryd.prog 106 #[.slice (some ⟨g, 0, none⟩) ls.length cap] w fun e w' => e = .returned (.slice (some ⟨g, 0, none⟩) (ct ls).length cap) ∧ CpS w w' g (ct ls) := by
  have HS : Hid (CpS w w g ls) := Lib.hid ⟨hr, only_refl _ _⟩
  clear hr
  by_cases h2 : ls.length < 2
  · have hct : ct ls = ls := by
      match ls, h2 with
      | [], _ => rfl
      | [a], _ => rfl
    have t2 : (ls.length : Int) < 2 := by omega
    go_enter Tryd.func106, Tryd.ntmps106
    go_wp2
    go_ret
    rw [hct]
    exact ⟨rfl, HS.out⟩
  have t2 : ¬ (ls.length : Int) < 2 := by omega
  go_enter Tryd.func106, Tryd.ntmps106
  go_wp2
  go_loopw [3, 4, 5] (fun i _ _ wr => ∃ k : Nat, 1 ≤ k ∧ k ≤ ls.length ∧ i = .int .i64 k ∧ ct (ls.take k) = ls.take k ∧ CpS w wr g ls) (fun i _ _ _ => ls.length - (intOf i).toNat)
  case atStart =>
    refine ⟨1, by omega, by omega, rfl, ?_, HS.out⟩
    match ls, h2 with
    | a :: r, _ => rfl
  case round =>
    obtain ⟨k, hk1, hk, rfl, hct, hS⟩ := hrel
    have HCt := Lib.hid hct
    clear hct HS
    by_cases hlt : k < ls.length
    · obtain ⟨j, rfl⟩ : ∃ j, k = j + 1 := ⟨k - 1, by omega⟩
      have hj : j < ls.length := by omega
      have ok := hS.row.ok.at_ (j + 1) hlt
      have ok' := hS.row.ok.at_ j hj
      have HS1 := Lib.hid hS
      have hT : (ls[j + 1] = ls[j] → ct (ls.take (j + 1 + 1)) = ct (ls.take (j + 1))) ∧ (ls[j + 1] ≠ ls[j] → ct (ls.take (j + 1 + 1)) = ct (ls.take (j + 1)) ++ [ls[j + 1]]) := ct_take ls (j + 1) hk1 hlt
      have HM := Lib.hid (List.take_succ_eq_append_getElem hlt)
      have HR0 : Hid (∀ (wq : World), CpS w wq g ls → wq.rangeAt g ((j + 1) * 8) (u8s ls[j + 1])) := Lib.hid (fun wq hq => hq.row.at_ (j + 1) hlt)
      have HR1 : Hid (∀ (wq : World), CpS w wq g ls → wq.rangeAt g (j * 8) (u8s ls[j])) := Lib.hid (fun wq hq => hq.row.at_ j hj)
      generalize ls[j + 1] = x at *
      generalize ls[j] = y at *
      have HT := Lib.hid hT
      have i0 : (0 : Int) ≤ (j : Int) + 1 := by omega
      have i1 : (j : Int) + 1 < (ls.length : Int) := by omega
      have i2 : (0 : Int) ≤ (j : Int) := by omega
      have i3 : (j : Int) < (ls.length : Int) := by omega
      have hwj : IntKind.i64.wrap (j : Int) = (j : Int) := by simp [IntKind.wrap, IntKind.bits, IntKind.signed]; omega
      clear hS hT
      by_cases he : x = y
      · have hE8 := comm_eql x y ok.1 ok'.1 ok.2 ok'.2 true (by simpa using he)
        have HE := Lib.hid he
        clear he
        go_wp2
        refine wp_region_held_drew (S := fun w' => CpS w w' g ls) (by kernel_rfl) (HS1.out.drew) (fun hS => ?_)
        refine wpAnyH_take (i := 0) (oi := ⟨some 16, _, _, _, _, _⟩) (v := ?_) rfl (by kernel_rfl) (by kernel_rfl) (by kernel_rfl) (fun _ _ _ h => h) (Or.inl ⟨by rfl, ?_⟩) hS ?_
        rotate_left
        · intro wq hq
          first | (go_simp; done) | (go_simp; rfl)
        try simp only [Act.put, List.setIfInBounds_toArray, List.set_cons_zero, List.set_cons_succ]
        refine wpAnyH_take (i := 1) (oi := ⟨some 17, _, _, _, _, _⟩) (v := ?_) rfl (by kernel_rfl) (by kernel_rfl) (by kernel_rfl) (fun _ _ _ h => h) (Or.inl ⟨by rfl, ?_⟩) hS ?_
        rotate_left
        · intro wq hq
          first | (go_simp; done) | (go_simp; rfl)
        try simp only [Act.put, List.setIfInBounds_toArray, List.set_cons_zero, List.set_cons_succ]
        refine wpAnyH_take (i := 4) (oi := ⟨some 20, _, _, _, _, _⟩) (v := ?_) rfl (by kernel_rfl) (by kernel_rfl) (by kernel_rfl) (fun _ _ _ h => h) (Or.inl ⟨by rfl, ?_⟩) hS ?_
        rotate_left
        · intro wq hq
          first | (go_simp; done) | (go_simp; rfl)
        try simp only [Act.put, List.setIfInBounds_toArray, List.set_cons_zero, List.set_cons_succ]
        refine wpAnyH_take (i := 5) (oi := ⟨some 21, _, _, _, _, _⟩) (v := ?_) rfl (by kernel_rfl) (by kernel_rfl) (by kernel_rfl) (fun _ _ _ h => h) (Or.inl ⟨by rfl, ?_⟩) hS ?_
        rotate_left
        · intro wq hq
          first | (go_simp; done) | (go_simp; rfl)
        try simp only [Act.put, List.setIfInBounds_toArray, List.set_cons_zero, List.set_cons_succ]
        refine wpAnyH_take (i := 6) (oi := ⟨some 22, _, _, _, _, _⟩) (v := ?_) rfl (by kernel_rfl) (by kernel_rfl) (by kernel_rfl) (fun _ _ _ h => h) (Or.inl ⟨by rfl, ?_⟩) hS ?_
        rotate_left
        · intro wq hq
          first | (go_simp; done) | (go_simp; rfl)
        try simp only [Act.put, List.setIfInBounds_toArray, List.set_cons_zero, List.set_cons_succ]
        refine wpAnyH_take (i := 2) (oi := ⟨some 18, _, _, _, _, _⟩) (v := ?_) rfl (by kernel_rfl) (by kernel_rfl) (by kernel_rfl) (fun _ _ _ h => h) (Or.inl ⟨by rfl, ?_⟩) hS ?_
        rotate_left
        · intro wq hq
          first | (go_simp; done) | (go_simp; rfl)
        try simp only [Act.put, List.setIfInBounds_toArray, List.set_cons_zero, List.set_cons_succ]
        refine wpAnyH_take (i := 7) (oi := ⟨some 23, _, _, _, _, _⟩) (v := ?_) rfl (by kernel_rfl) (by kernel_rfl) (by kernel_rfl) (fun _ _ _ h => h) (Or.inl ⟨by rfl, ?_⟩) hS ?_
        rotate_left
        · intro wq hq
          first | (go_simp; done) | (go_simp; rfl)
        try simp only [Act.put, List.setIfInBounds_toArray, List.set_cons_zero, List.set_cons_succ]
        refine wpAnyH_take (i := 3) (oi := ⟨some 19, _, _, _, _, _⟩) rfl (by kernel_rfl) (by kernel_rfl) (by kernel_rfl) (fun _ _ _ h => h) (yieldsIf_load_mid (by rfl) 52 _ rfl _ _ rfl (u8s x) _ (fun wq hq => HR0.out wq hq) Tryd.underlying52 rfl (by simpa using comm_size x ok.1)) hS ?_
        try simp only [Act.put, List.setIfInBounds_toArray, List.set_cons_zero, List.set_cons_succ]
        refine wpAnyH_take (i := 8) (oi := ⟨some 24, _, _, _, _, _⟩) rfl (by kernel_rfl) (by kernel_rfl) (by kernel_rfl) (fun _ _ _ h => h) (yieldsIf_load_mid (by rfl) 52 _ rfl _ _ rfl (u8s y) _ (fun wq hq => HR1.out wq hq) Tryd.underlying52 rfl (by simpa using comm_size y ok'.1)) hS ?_
        try simp only [Act.put, List.setIfInBounds_toArray, List.set_cons_zero, List.set_cons_succ]
        refine wpAnyH_take (i := 9) (oi := ⟨some 25, _, _, _, _, _⟩) (v := ?_) rfl (by kernel_rfl) (by kernel_rfl) (by kernel_rfl) (fun _ _ _ h => h) (Or.inl ⟨by rfl, ?_⟩) hS ?_
        rotate_left
        · intro wq hq
          first | (go_simp; done) | (go_simp; rfl)
        try simp only [Act.put, List.setIfInBounds_toArray, List.set_cons_zero, List.set_cons_succ]
        refine wpAnyH_done (by kernel_rfl) ?_ _
        have HT2 : Hid (ct (ls.take (j + 1 + 1)) = ls.take (j + 1)) := Lib.hid (by rw [HT.out.1 HE.out, HCt.out])
        have HS2 := Lib.hid hS
        clear hS HT HE HM HR0 HR1 hE8 HCt HS1
        generalize wr.drew = w1 at *
        have hs1 : ((j : Int) + 1) ≤ (ls.length : Int) := by omega
        have hs2 : ((j : Int) + 1) ≤ (cap : Int) := by omega
        go_wp2
        obtain ⟨n2, hn2⟩ : ∃ n2, ls.length - (j + 1) = n2 := ⟨_, rfl⟩
        have hlen2 : ls.length = j + 1 + n2 := by omega
        rw [hn2]
        have HL2 := Lib.hid hlen2
        have hn2' : (n2 : Int) ≤ 1000000 := by omega
        clear hlen2 hn2
        go_loopw [3, 5] (fun i i2 wr => ∃ (q k : Nat) (cs : List (List Int)), i2 = .int .i64 ((q : Int) + 1) ∧ i = .int .i64 k ∧ q + 1 ≤ n2 ∧ In2 w wr g ls cs (j + 1) q k) (fun _ i2 _ => n2 - (intOf i2).toNat)
        case atStart =>
          have := HL2.out
          refine ⟨0, j + 1, ls, rfl, rfl, by omega, HS2.out, rfl, ?_, by omega, ?_, fun _ _ => rfl⟩
          · rw [HT2.out, List.length_take]; omega
          · rw [HT2.out]
        case round =>
          obtain ⟨q, k, cs, rfl, rfl, hq1, hI⟩ := hrel
          clear HT2 HS2
          by_cases hlt2 : q + 1 < n2
          · have hm : j + 1 + (q + 1) < ls.length := by have := HL2.out; omega
            have hm' : j + 1 + q < ls.length := by omega
            have okx := fun (h : All8 ls) => h.at_ _ hm
            have hc1 := hI.same (j + 1 + (q + 1)) (by omega)
            have hc2 := hI.same (j + 1 + q) (by omega)
            rw [List.getElem?_eq_getElem hm] at hc1
            rw [List.getElem?_eq_getElem hm'] at hc2
            have hT : (ls[j + 1 + (q + 1)] = ls[j + 1 + q] → ct (ls.take (j + 1 + (q + 1) + 1)) = ct (ls.take (j + 1 + (q + 1)))) ∧ (ls[j + 1 + (q + 1)] ≠ ls[j + 1 + q] → ct (ls.take (j + 1 + (q + 1) + 1)) = ct (ls.take (j + 1 + (q + 1))) ++ [ls[j + 1 + (q + 1)]]) := ct_take ls (j + 1 + (q + 1)) (by omega) hm
            generalize ls[j + 1 + (q + 1)] = x2 at *
            generalize ls[j + 1 + q] = y2 at *
            have okx2 : x2.length = 8 ∧ Oct x2 := hI.st.row.ok x2 (List.mem_of_getElem? hc1)
            have oky2 : y2.length = 8 ∧ Oct y2 := hI.st.row.ok y2 (List.mem_of_getElem? hc2)
            have HC1 := Lib.hid hc1
            have HC2 := Lib.hid hc2
            have HT := Lib.hid hT
            have HI := Lib.hid hI
            have HR0 : Hid (∀ (wq : World), CpS w wq g cs → wq.rangeAt g ((j + 1) * 8 + (q + 1) * 8) (u8s x2)) := Lib.hid (fun wq hq => hq.at2 hc1 _ (by omega))
            have HR1 : Hid (∀ (wq : World), CpS w wq g cs → wq.rangeAt g ((j + 1) * 8 + q * 8) (u8s y2)) := Lib.hid (fun wq hq => hq.at2 hc2 _ (by omega))
            have i0 : (0 : Int) ≤ (q : Int) + 1 := by omega
            have i1 : (q : Int) + 1 < (n2 : Int) := by omega
            have i2 : (0 : Int) ≤ (q : Int) := by omega
            have i3 : (q : Int) < (n2 : Int) := by omega
            have hwq : IntKind.i64.wrap (q : Int) = (q : Int) := by simp [IntKind.wrap, IntKind.bits, IntKind.signed]; omega
            clear hI hT hc1 hc2
            by_cases he : x2 = y2
            · have hE8 := comm_neq x2 y2 okx2.1 oky2.1 okx2.2 oky2.2 false (by simpa using he)
              have HE := Lib.hid he
              clear he
              go_wp2
              refine wp_region_held_drew (S := fun w' => CpS w w' g cs) (by kernel_rfl) (HI.out.st.drew) (fun hS => ?_)
              refine wpAnyH_take (i := 0) (oi := ⟨some 35, _, _, _, _, _⟩) (v := ?_) rfl (by kernel_rfl) (by kernel_rfl) (by kernel_rfl) (fun _ _ _ h => h) (Or.inl ⟨by rfl, ?_⟩) hS ?_
              rotate_left
              · intro wq hq
                first | (go_simp; done) | (go_simp; rfl)
              try simp only [Act.put, List.setIfInBounds_toArray, List.set_cons_zero, List.set_cons_succ]
              refine wpAnyH_take (i := 1) (oi := ⟨some 36, _, _, _, _, _⟩) (v := ?_) rfl (by kernel_rfl) (by kernel_rfl) (by kernel_rfl) (fun _ _ _ h => h) (Or.inl ⟨by rfl, ?_⟩) hS ?_
              rotate_left
              · intro wq hq
                first | (go_simp; done) | (go_simp; rfl)
              try simp only [Act.put, List.setIfInBounds_toArray, List.set_cons_zero, List.set_cons_succ]
              refine wpAnyH_take (i := 4) (oi := ⟨some 39, _, _, _, _, _⟩) (v := ?_) rfl (by kernel_rfl) (by kernel_rfl) (by kernel_rfl) (fun _ _ _ h => h) (Or.inl ⟨by rfl, ?_⟩) hS ?_
              rotate_left
              · intro wq hq
                first | (go_simp; done) | (go_simp; rfl)
              try simp only [Act.put, List.setIfInBounds_toArray, List.set_cons_zero, List.set_cons_succ]
              refine wpAnyH_take (i := 5) (oi := ⟨some 40, _, _, _, _, _⟩) (v := ?_) rfl (by kernel_rfl) (by kernel_rfl) (by kernel_rfl) (fun _ _ _ h => h) (Or.inl ⟨by rfl, ?_⟩) hS ?_
              rotate_left
              · intro wq hq
                first | (go_simp; done) | (go_simp; rfl)
              try simp only [Act.put, List.setIfInBounds_toArray, List.set_cons_zero, List.set_cons_succ]
              refine wpAnyH_take (i := 6) (oi := ⟨some 41, _, _, _, _, _⟩) (v := ?_) rfl (by kernel_rfl) (by kernel_rfl) (by kernel_rfl) (fun _ _ _ h => h) (Or.inl ⟨by rfl, ?_⟩) hS ?_
              rotate_left
              · intro wq hq
                first | (go_simp; done) | (go_simp; rfl)
              try simp only [Act.put, List.setIfInBounds_toArray, List.set_cons_zero, List.set_cons_succ]
              refine wpAnyH_take (i := 2) (oi := ⟨some 37, _, _, _, _, _⟩) (v := ?_) rfl (by kernel_rfl) (by kernel_rfl) (by kernel_rfl) (fun _ _ _ h => h) (Or.inl ⟨by rfl, ?_⟩) hS ?_
              rotate_left
              · intro wq hq
                first | (go_simp; done) | (go_simp; rfl)
              try simp only [Act.put, List.setIfInBounds_toArray, List.set_cons_zero, List.set_cons_succ]
              refine wpAnyH_take (i := 7) (oi := ⟨some 42, _, _, _, _, _⟩) (v := ?_) rfl (by kernel_rfl) (by kernel_rfl) (by kernel_rfl) (fun _ _ _ h => h) (Or.inl ⟨by rfl, ?_⟩) hS ?_
              rotate_left
              · intro wq hq
                first | (go_simp; done) | (go_simp; rfl)
              try simp only [Act.put, List.setIfInBounds_toArray, List.set_cons_zero, List.set_cons_succ]
              refine wpAnyH_take (i := 3) (oi := ⟨some 38, _, _, _, _, _⟩) rfl (by kernel_rfl) (by kernel_rfl) (by kernel_rfl) (fun _ _ _ h => h) (yieldsIf_load_mid (by rfl) 52 _ rfl _ _ rfl (u8s x2) _ (fun wq hq => HR0.out wq hq) Tryd.underlying52 rfl (by simpa using comm_size x2 okx2.1)) hS ?_
              try simp only [Act.put, List.setIfInBounds_toArray, List.set_cons_zero, List.set_cons_succ]
              refine wpAnyH_take (i := 8) (oi := ⟨some 43, _, _, _, _, _⟩) rfl (by kernel_rfl) (by kernel_rfl) (by kernel_rfl) (fun _ _ _ h => h) (yieldsIf_load_mid (by rfl) 52 _ rfl _ _ rfl (u8s y2) _ (fun wq hq => HR1.out wq hq) Tryd.underlying52 rfl (by simpa using comm_size y2 oky2.1)) hS ?_
              try simp only [Act.put, List.setIfInBounds_toArray, List.set_cons_zero, List.set_cons_succ]
              refine wpAnyH_take (i := 9) (oi := ⟨some 44, _, _, _, _, _⟩) (v := ?_) rfl (by kernel_rfl) (by kernel_rfl) (by kernel_rfl) (fun _ _ _ h => h) (Or.inl ⟨by rfl, ?_⟩) hS ?_
              rotate_left
              · intro wq hq
                first | (go_simp; done) | (go_simp; rfl)
              try simp only [Act.put, List.setIfInBounds_toArray, List.set_cons_zero, List.set_cons_succ]
              refine wpAnyH_done (by kernel_rfl) ?_ _
              go_wp2
              refine ⟨⟨q + 1, k, cs, by push_cast; rfl, rfl, by omega, hS, HI.out.len, ?_, by have := HI.out.kle; omega, ?_, fun i hi => HI.out.same i (by omega)⟩, by simp [intOf]; omega⟩
              · rw [show j + 1 + (q + 1 + 1) = j + 1 + (q + 1) + 1 from rfl, HT.out.1 HE.out]; exact HI.out.kis
              · rw [show j + 1 + (q + 1 + 1) = j + 1 + (q + 1) + 1 from rfl, HT.out.1 HE.out]; exact HI.out.tk
            · have hE8 := comm_neq x2 y2 okx2.1 oky2.1 okx2.2 oky2.2 true (by simpa using he)
              have HE := Lib.hid he
              clear he
              go_wp2
              refine wp_region_held_drew (S := fun w' => CpS w w' g cs) (by kernel_rfl) (HI.out.st.drew) (fun hS => ?_)
              refine wpAnyH_take (i := 0) (oi := ⟨some 35, _, _, _, _, _⟩) (v := ?_) rfl (by kernel_rfl) (by kernel_rfl) (by kernel_rfl) (fun _ _ _ h => h) (Or.inl ⟨by rfl, ?_⟩) hS ?_
              rotate_left
              · intro wq hq
                first | (go_simp; done) | (go_simp; rfl)
              try simp only [Act.put, List.setIfInBounds_toArray, List.set_cons_zero, List.set_cons_succ]
              refine wpAnyH_take (i := 1) (oi := ⟨some 36, _, _, _, _, _⟩) (v := ?_) rfl (by kernel_rfl) (by kernel_rfl) (by kernel_rfl) (fun _ _ _ h => h) (Or.inl ⟨by rfl, ?_⟩) hS ?_
              rotate_left
              · intro wq hq
                first | (go_simp; done) | (go_simp; rfl)
              try simp only [Act.put, List.setIfInBounds_toArray, List.set_cons_zero, List.set_cons_succ]
              refine wpAnyH_take (i := 4) (oi := ⟨some 39, _, _, _, _, _⟩) (v := ?_) rfl (by kernel_rfl) (by kernel_rfl) (by kernel_rfl) (fun _ _ _ h => h) (Or.inl ⟨by rfl, ?_⟩) hS ?_
              rotate_left
              · intro wq hq
                first | (go_simp; done) | (go_simp; rfl)
              try simp only [Act.put, List.setIfInBounds_toArray, List.set_cons_zero, List.set_cons_succ]
              refine wpAnyH_take (i := 5) (oi := ⟨some 40, _, _, _, _, _⟩) (v := ?_) rfl (by kernel_rfl) (by kernel_rfl) (by kernel_rfl) (fun _ _ _ h => h) (Or.inl ⟨by rfl, ?_⟩) hS ?_
              rotate_left
              · intro wq hq
                first | (go_simp; done) | (go_simp; rfl)
              try simp only [Act.put, List.setIfInBounds_toArray, List.set_cons_zero, List.set_cons_succ]
              refine wpAnyH_take (i := 6) (oi := ⟨some 41, _, _, _, _, _⟩) (v := ?_) rfl (by kernel_rfl) (by kernel_rfl) (by kernel_rfl) (fun _ _ _ h => h) (Or.inl ⟨by rfl, ?_⟩) hS ?_
              rotate_left
              · intro wq hq
                first | (go_simp; done) | (go_simp; rfl)
              try simp only [Act.put, List.setIfInBounds_toArray, List.set_cons_zero, List.set_cons_succ]
              refine wpAnyH_take (i := 2) (oi := ⟨some 37, _, _, _, _, _⟩) (v := ?_) rfl (by kernel_rfl) (by kernel_rfl) (by kernel_rfl) (fun _ _ _ h => h) (Or.inl ⟨by rfl, ?_⟩) hS ?_
              rotate_left
              · intro wq hq
                first | (go_simp; done) | (go_simp; rfl)
              try simp only [Act.put, List.setIfInBounds_toArray, List.set_cons_zero, List.set_cons_succ]
              refine wpAnyH_take (i := 7) (oi := ⟨some 42, _, _, _, _, _⟩) (v := ?_) rfl (by kernel_rfl) (by kernel_rfl) (by kernel_rfl) (fun _ _ _ h => h) (Or.inl ⟨by rfl, ?_⟩) hS ?_
              rotate_left
              · intro wq hq
                first | (go_simp; done) | (go_simp; rfl)
              try simp only [Act.put, List.setIfInBounds_toArray, List.set_cons_zero, List.set_cons_succ]
              refine wpAnyH_take (i := 3) (oi := ⟨some 38, _, _, _, _, _⟩) rfl (by kernel_rfl) (by kernel_rfl) (by kernel_rfl) (fun _ _ _ h => h) (yieldsIf_load_mid (by rfl) 52 _ rfl _ _ rfl (u8s x2) _ (fun wq hq => HR0.out wq hq) Tryd.underlying52 rfl (by simpa using comm_size x2 okx2.1)) hS ?_
              try simp only [Act.put, List.setIfInBounds_toArray, List.set_cons_zero, List.set_cons_succ]
              refine wpAnyH_take (i := 8) (oi := ⟨some 43, _, _, _, _, _⟩) rfl (by kernel_rfl) (by kernel_rfl) (by kernel_rfl) (fun _ _ _ h => h) (yieldsIf_load_mid (by rfl) 52 _ rfl _ _ rfl (u8s y2) _ (fun wq hq => HR1.out wq hq) Tryd.underlying52 rfl (by simpa using comm_size y2 oky2.1)) hS ?_
              try simp only [Act.put, List.setIfInBounds_toArray, List.set_cons_zero, List.set_cons_succ]
              refine wpAnyH_take (i := 9) (oi := ⟨some 44, _, _, _, _, _⟩) (v := ?_) rfl (by kernel_rfl) (by kernel_rfl) (by kernel_rfl) (fun _ _ _ h => h) (Or.inl ⟨by rfl, ?_⟩) hS ?_
              rotate_left
              · intro wq hq
                first | (go_simp; done) | (go_simp; rfl)
              try simp only [Act.put, List.setIfInBounds_toArray, List.set_cons_zero, List.set_cons_succ]
              refine wpAnyH_done (by kernel_rfl) ?_ _
              have HS3 := Lib.hid hS
              have HR3 := Lib.hid (HR0.out _ hS)
              have HTh := Lib.hid (hS.row.there k (by have := HI.out.len; have := HI.out.kle; omega))
              clear hS HR0 HR1 hE8
              have hkI : (k : Int) < (ls.length : Int) := by have := HI.out.kle; omega
              have hk0 : (0 : Int) ≤ (k : Int) := by omega
              generalize wr.drew = w3 at *
              go_wp2_with (first
                | (refine comm_fetch rfl _ rfl g ((j + 1) * 8 + (q + 1) * 8) x2 okx2.1 rfl HR3.out ?_)
                | (refine comm_there rfl _ _ rfl g (k * 8) x2 okx2.1 rfl rfl HTh.out ?_))
              have hkl : k < cs.length := by have := HI.out.len; have := HI.out.kle; omega
              refine ⟨⟨_, _, _, _, _, _, _, _, _, _, _, _, _, _, _, _, _, _, _, _, _, _, _, _, _, _, _, ⟨q + 1, k + 1, cs.set k x2, by push_cast; rfl, by push_cast; rfl, by omega, HS3.out.set k hkl x2 okx2.1 okx2.2, by rw [List.length_set]; exact HI.out.len, ?_, by have := HI.out.kle; omega, ?_, fun i hi => ?_⟩, rfl⟩, by simp [intOf]; omega⟩
              · rw [show j + 1 + (q + 1 + 1) = j + 1 + (q + 1) + 1 from rfl, HT.out.2 HE.out, List.length_append, ← HI.out.kis]; rfl
              · rw [show j + 1 + (q + 1 + 1) = j + 1 + (q + 1) + 1 from rfl, HT.out.2 HE.out, ← HI.out.tk, List.take_succ_eq_append_getElem (by simpa using hkl), List.getElem_set_self, List.take_set_of_le (Nat.le_refl k)]
              · rw [List.getElem?_set_ne (by have := HI.out.kle; omega)]
                exact HI.out.same i (by omega)
          · obtain rfl : n2 = q + 1 := by omega
            have hl2 := HL2.out
            have hkis := hI.kis
            have htk := hI.tk
            rw [← hl2, List.take_length] at hkis htk
            have hkl : k < ls.length := by have := hI.kle; omega
            have hcl := fun ty => run_clear8 wr ty g k (ls.length - k) (cap - k) cs hI.st.row (by omega) (by rw [hI.len]; omega)
            have HF := Lib.hid (hI.st.cut k (by rw [hI.len]; omega) (u8ss (List.replicate (ls.length - k) z8)))
            rw [htk] at HF
            have HK := Lib.hid hkis
            have hs1 : (k : Int) ≤ (ls.length : Int) := by omega
            have hs2 : (k : Int) ≤ (cap : Int) := by omega
            have hs3 : (0 : Int) ≤ (k : Int) := by omega
            clear hI hkis htk hl2 HL2
            go_wp2
            go_ret
            refine ⟨?_, HF.out⟩
            rw [← HK.out]
            rfl
      · have hE8 := comm_eql x y ok.1 ok'.1 ok.2 ok'.2 false (by simpa using he)
        have HE := Lib.hid he
        clear he
        go_wp2
        refine wp_region_held_drew (S := fun w' => CpS w w' g ls) (by kernel_rfl) (HS1.out.drew) (fun hS => ?_)
        refine wpAnyH_take (i := 0) (oi := ⟨some 16, _, _, _, _, _⟩) (v := ?_) rfl (by kernel_rfl) (by kernel_rfl) (by kernel_rfl) (fun _ _ _ h => h) (Or.inl ⟨by rfl, ?_⟩) hS ?_
        rotate_left
        · intro wq hq
          first | (go_simp; done) | (go_simp; rfl)
        try simp only [Act.put, List.setIfInBounds_toArray, List.set_cons_zero, List.set_cons_succ]
        refine wpAnyH_take (i := 1) (oi := ⟨some 17, _, _, _, _, _⟩) (v := ?_) rfl (by kernel_rfl) (by kernel_rfl) (by kernel_rfl) (fun _ _ _ h => h) (Or.inl ⟨by rfl, ?_⟩) hS ?_
        rotate_left
        · intro wq hq
          first | (go_simp; done) | (go_simp; rfl)
        try simp only [Act.put, List.setIfInBounds_toArray, List.set_cons_zero, List.set_cons_succ]
        refine wpAnyH_take (i := 4) (oi := ⟨some 20, _, _, _, _, _⟩) (v := ?_) rfl (by kernel_rfl) (by kernel_rfl) (by kernel_rfl) (fun _ _ _ h => h) (Or.inl ⟨by rfl, ?_⟩) hS ?_
        rotate_left
        · intro wq hq
          first | (go_simp; done) | (go_simp; rfl)
        try simp only [Act.put, List.setIfInBounds_toArray, List.set_cons_zero, List.set_cons_succ]
        refine wpAnyH_take (i := 5) (oi := ⟨some 21, _, _, _, _, _⟩) (v := ?_) rfl (by kernel_rfl) (by kernel_rfl) (by kernel_rfl) (fun _ _ _ h => h) (Or.inl ⟨by rfl, ?_⟩) hS ?_
        rotate_left
        · intro wq hq
          first | (go_simp; done) | (go_simp; rfl)
        try simp only [Act.put, List.setIfInBounds_toArray, List.set_cons_zero, List.set_cons_succ]
        refine wpAnyH_take (i := 6) (oi := ⟨some 22, _, _, _, _, _⟩) (v := ?_) rfl (by kernel_rfl) (by kernel_rfl) (by kernel_rfl) (fun _ _ _ h => h) (Or.inl ⟨by rfl, ?_⟩) hS ?_
        rotate_left
        · intro wq hq
          first | (go_simp; done) | (go_simp; rfl)
        try simp only [Act.put, List.setIfInBounds_toArray, List.set_cons_zero, List.set_cons_succ]
        refine wpAnyH_take (i := 2) (oi := ⟨some 18, _, _, _, _, _⟩) (v := ?_) rfl (by kernel_rfl) (by kernel_rfl) (by kernel_rfl) (fun _ _ _ h => h) (Or.inl ⟨by rfl, ?_⟩) hS ?_
        rotate_left
        · intro wq hq
          first | (go_simp; done) | (go_simp; rfl)
        try simp only [Act.put, List.setIfInBounds_toArray, List.set_cons_zero, List.set_cons_succ]
        refine wpAnyH_take (i := 7) (oi := ⟨some 23, _, _, _, _, _⟩) (v := ?_) rfl (by kernel_rfl) (by kernel_rfl) (by kernel_rfl) (fun _ _ _ h => h) (Or.inl ⟨by rfl, ?_⟩) hS ?_
        rotate_left
        · intro wq hq
          first | (go_simp; done) | (go_simp; rfl)
        try simp only [Act.put, List.setIfInBounds_toArray, List.set_cons_zero, List.set_cons_succ]
        refine wpAnyH_take (i := 3) (oi := ⟨some 19, _, _, _, _, _⟩) rfl (by kernel_rfl) (by kernel_rfl) (by kernel_rfl) (fun _ _ _ h => h) (yieldsIf_load_mid (by rfl) 52 _ rfl _ _ rfl (u8s x) _ (fun wq hq => HR0.out wq hq) Tryd.underlying52 rfl (by simpa using comm_size x ok.1)) hS ?_
        try simp only [Act.put, List.setIfInBounds_toArray, List.set_cons_zero, List.set_cons_succ]
        refine wpAnyH_take (i := 8) (oi := ⟨some 24, _, _, _, _, _⟩) rfl (by kernel_rfl) (by kernel_rfl) (by kernel_rfl) (fun _ _ _ h => h) (yieldsIf_load_mid (by rfl) 52 _ rfl _ _ rfl (u8s y) _ (fun wq hq => HR1.out wq hq) Tryd.underlying52 rfl (by simpa using comm_size y ok'.1)) hS ?_
        try simp only [Act.put, List.setIfInBounds_toArray, List.set_cons_zero, List.set_cons_succ]
        refine wpAnyH_take (i := 9) (oi := ⟨some 25, _, _, _, _, _⟩) (v := ?_) rfl (by kernel_rfl) (by kernel_rfl) (by kernel_rfl) (fun _ _ _ h => h) (Or.inl ⟨by rfl, ?_⟩) hS ?_
        rotate_left
        · intro wq hq
          first | (go_simp; done) | (go_simp; rfl)
        try simp only [Act.put, List.setIfInBounds_toArray, List.set_cons_zero, List.set_cons_succ]
        refine wpAnyH_done (by kernel_rfl) ?_ _
        go_wp2
        refine ⟨⟨j + 1 + 1, by omega, by omega, by go_num, ?_, hS⟩, by simp [intOf]; omega⟩
        rw [HT.out.2 HE.out, HCt.out, HM.out]
    · obtain rfl : k = ls.length := by omega
      rw [List.take_length] at HCt
      have HS1 := Lib.hid hS
      clear hS
      go_wp2
      go_ret
      rw [HCt.out]
      exact ⟨rfl, HS1.out⟩
end Go.Proofs.YtkaimdcepnhkdaaDoor
namespace Go.Proofs.YtkaimdcepnhkdaaDoor
open Go.RowKit Go.Sort
set_option linter.unusedSimpArgs false
set_option linter.unusedVariables false

/-- Eight bytes. -/
abbrev C8 := { l : List Int // l.length = 8 ∧ Oct l }
instance : Inhabited C8 := ⟨⟨z8, rfl, z8_oct⟩⟩
def enc8 (x : C8) : List Value := u8s x.1
theorem enc8_len (x : C8) : (enc8 x).length = 8 := by simp [enc8, x.2.1]
def cf8 (x y : C8) : Int := cmpI x.1 y.1
theorem lt8 (x y : C8) : ltOf cf8 x y = decide (cmpI x.1 y.1 < 0) := rfl
theorem swo8 : SWO (ltOf cf8) where
  irrefl x := by rw [lt8, cmpI_same]; rfl
  trans x y z h1 h2 := by
    rw [lt8] at *
    simp only [decide_eq_true_eq] at *
    have h3 := cmpI_trans x.1 y.1 z.1 (by omega) (by omega)
    rcases Int.lt_or_eq_of_le h3 with h | h
    · exact h
    · have e := (cmpI_zero _ _).1 h
      rw [← e, cmpI_swap x.1 y.1] at h2
      omega
  ntrans x y z h1 h2 := by
    rw [lt8] at *
    simp only [decide_eq_false_iff_not, Int.not_lt] at *
    have s1 := cmpI_swap x.1 y.1
    have s2 := cmpI_swap y.1 z.1
    have s3 := cmpI_swap x.1 z.1
    have := cmpI_trans z.1 y.1 x.1 (by omega) (by omega)
    omega
theorem tot8 (x y : C8) (h1 : ltOf cf8 x y = false) (h2 : ltOf cf8 y x = false) : x = y := by
  rw [lt8] at *
  simp only [decide_eq_false_iff_not, Int.not_lt] at *
  have s1 := cmpI_swap x.1 y.1
  exact Subtype.ext ((cmpI_zero _ _).1 (by omega))
set_option maxHeartbeats 2000000 in
set_option maxRecDepth 100000 in
theorem ccmp_w (w : World) (la lb : List Int) (ha : la.length = 8) (hb : lb.length = 8) (oa : Oct la) (ob : Oct lb) :
    Calls Tryd.prog 54 #[.agg (u8s la).toArray, .agg (u8s lb).toArray] w fun e w' => e = .returned (.int .i64 (cmpI la lb)) ∧ ∃ q os', w' = grow (w.drewN q) os' := by
  have hA := (Blk.new w 52 (u8s la).toArray).alloc (.cells (u8s lb).toArray 52)
  have hB := Blk.new (w.alloc (.cells (u8s la).toArray 52)) 52 (u8s lb).toArray
  rw [size_a1] at hB
  have HA := Lib.hid hA
  have HB := Lib.hid hB
  clear hA hB
  go_enter Tryd.func54, Tryd.ntmps54
  go_wp2
  refine wp_region_held_drew (S := fun w' => Blk w' w.heap.size 52 (u8s la).toArray ∧ Blk w' (w.heap.size + 1) 52 (u8s lb).toArray ∧ ∃ q os', w' = grow (w.drewN q) os') (by kernel_rfl) (⟨HA.out, HB.out, 1, #[.cells (u8s la).toArray 52, .cells (u8s lb).toArray 52], by rw [alloc_eq_grow, alloc_eq_grow, grow_grow]; rfl⟩) (fun hS => ?_)
  refine wpAnyH_take (i := 0) (oi := ⟨some 5, _, _, _, _, _⟩) (v := ?_) rfl (by kernel_rfl) (by kernel_rfl) (by kernel_rfl) (fun _ _ _ h => h) (Or.inl ⟨by rfl, ?_⟩) hS ?_
  rotate_left
  · intro wq hq
    first | (go_simp; done) | (go_simp; rfl)
  try simp only [Act.put, List.setIfInBounds_toArray, List.set_cons_zero, List.set_cons_succ]
  refine wpAnyH_take (i := 1) (oi := ⟨some 6, _, _, _, _, _⟩) (v := ?_) rfl (by kernel_rfl) (by kernel_rfl) (by kernel_rfl) (fun _ _ _ h => h) (Or.inl ⟨by rfl, ?_⟩) hS ?_
  rotate_left
  · intro wq hq
    first | (go_simp; done) | (go_simp; rfl)
  try simp only [Act.put, List.setIfInBounds_toArray, List.set_cons_zero, List.set_cons_succ]
  refine wpAnyH_ready (rs := [2]) (by kernel_rfl) (by simp) ?_
  refine AllReadyH.cons (o := ⟨some 7, _, _, _, _, _⟩) rfl (fun K hK => ?_) AllReadyH.nil
  rw [if_pos (by rfl)]
  go_wp2_with fail
  refine (bc_is _ w.heap.size 0 8 (w.heap.size + 1) 0 8 8 la lb ha hb oa ob (fun i hi => by rw [Nat.zero_add]; exact com_cell hS.1 ha i hi) (fun i hi => by rw [Nat.zero_add]; exact com_cell hS.2.1 hb i hi)).mono ?_
  rintro e w1 ⟨rfl, rfl⟩
  have hS1 := hS
  refine hK.out _ _ (hS1) (fun hS => ?_)
  clear hK K
  try simp only [Act.put, List.setIfInBounds_toArray, List.set_cons_zero, List.set_cons_succ]
  refine wpAnyH_take (i := 3) (oi := ⟨some 4, _, _, _, _, _⟩) (v := ?_) rfl (by kernel_rfl) (by kernel_rfl) (by kernel_rfl) (fun _ _ _ h => h) (Or.inl ⟨by rfl, ?_⟩) hS ?_
  rotate_left
  · intro wq hq
    first | (go_simp; done) | (go_simp; rfl)
  try simp only [Act.put, List.setIfInBounds_toArray, List.set_cons_zero, List.set_cons_succ]
  refine wpAnyH_done (by kernel_rfl) ?_ _
  go_wp2
  go_ret
  exact ⟨rfl, hS.2.2⟩
theorem cmpLays8 (blk off size : Nat) (w : World) : CmpLays Tryd.prog 54 #[] enc8 8 cf8 blk off size w :=
  fun _ _ _ _ x y => ccmp_w _ x.1 y.1 x.2.1 y.2.1 x.2.2 y.2.2
end Go.Proofs.YtkaimdcepnhkdaaDoor
namespace Go.Proofs.YtkaimdcepnhkdaaDoor
open Go.RowKit Go.Sort
set_option linter.unusedSimpArgs false
set_option linter.unusedVariables false

open Classical in
noncomputable def c8 (l : List Int) : C8 := if h : l.length = 8 ∧ Oct l then ⟨l, h⟩ else default
theorem c8_val (l : List Int) (h : l.length = 8 ∧ Oct l) : (c8 l).1 = l := by unfold c8; rw [dif_pos h]
theorem c8_enc (l : List Int) (h : l.length = 8 ∧ Oct l) : enc8 (c8 l) = u8s l := by unfold enc8; rw [c8_val l h]
/-- The list, rising. -/
noncomputable def srt (ls : List (List Int)) : List (List Int) := ((ls.map c8).mergeSort fun x y => !(ltOf cf8) y x).map (·.1)
theorem srt_all (ls : List (List Int)) : All8 (srt ls) := fun l hl => by
  obtain ⟨x, _, rfl⟩ := List.mem_map.1 hl
  exact x.2
theorem srt_len (ls : List (List Int)) : (srt ls).length = ls.length := by simp [srt]
theorem holds_of_row {w : World} {g : Nat} {ls : List (List Int)} (h : RowC w g ls) : HoldsK enc8 8 w g 0 (ls.map c8).toArray := by
  intro t ht
  rw [size_flatK] at ht
  rw [get_flatK _ _ _ _ ht]
  have hi : t / 8 < ls.length := by simp at ht; omega
  have e1 : (ls.map c8).toArray[t / 8]! = c8 ls[t / 8] := by
    rw [getElem!_pos _ _ (by simpa using hi)]
    simp
  have hok := h.ok.at_ (t / 8) hi
  rw [e1, c8_enc _ hok]
  have hm : t % 8 < (u8s ls[t / 8]).length := by simp [hok.1]; omega
  have h1 := h.at_ (t / 8) hi (t % 8) (u8s ls[t / 8])[t % 8] (List.getElem?_eq_getElem hm)
  have h2 := (h.there (t / 8) hi (t % 8) (by omega)).2
  rw [show t / 8 * 8 + t % 8 = t by omega] at h1 h2
  rw [Nat.zero_add]
  exact ⟨by rw [h1, getElem!_pos (u8s ls[t / 8]) (t % 8) hm]; rfl, h2⟩
theorem row_of_holds {w : World} {g : Nat} (d : List C8) (h : HoldsK enc8 8 w g 0 d.toArray) : RowC w g (d.map (·.1)) := by
  refine ⟨fun l hl => ?_, fun i hi c v hv => ?_, fun i hi c hc => ?_⟩
  · obtain ⟨x, _, rfl⟩ := List.mem_map.1 hl
    exact x.2
  · have hi' : i < d.length := by simpa using hi
    have hc : c < 8 := by
      have := (List.getElem?_eq_some_iff.1 hv).1
      rw [List.getElem_map, u8s, List.length_map, d[i].2.1] at this
      exact this
    have h1 := (h.cell (i := i) (c := c) (by simpa using hi') hc).1
    rw [Nat.zero_add] at h1
    rw [h1]
    have e1 : d.toArray[i]! = d[i] := by rw [getElem!_pos _ _ (by simpa using hi')]; simp
    rw [e1]
    have hlen : c < (enc8 d[i]).length := by rw [enc8_len]; exact hc
    rw [getElem!_pos (enc8 d[i]) c hlen]
    rw [List.getElem_map] at hv
    exact (List.getElem?_eq_getElem hlen).symm.trans hv
  · have hi' : i < d.length := by simpa using hi
    have h1 := h.cell (i := i) (c := c) (by simpa using hi') hc
    rw [Nat.zero_add] at h1
    exact ⟨by rw [h1.1]; rfl, h1.2⟩
theorem grown_sort (w : World) (g n : Nat) (d : Array C8) (os : Array Obj) : w.grownBy (sortWorldK enc8 8 w g 0 n d os) (some g) := by
  refine ⟨rfl, rfl, rfl, by simp [sortWorldK, grow, putRowK, putRow, mapBlock, ahead], fun k hk hne => ?_⟩
  have hne' : g ≠ k := fun e => hne (by rw [e])
  simp [sortWorldK, grow, putRowK, putRow, mapBlock, ahead, Array.getElem?_append_left, hk, Array.getElem?_modify, Array.getElem_modify, hne']
set_option maxRecDepth 100000 in
theorem sort_is (w : World) (g cap : Nat) (ls : List (List Int)) (hr : RowC w g ls) (hg : g < w.heap.size) (hn : ls.length ≤ 1000000) :
    Calls Tryd.prog 105 #[.slice (some ⟨g, 0, none⟩) ls.length cap, .func (.func 54) #[] #[]] w fun e w' => e = .returned (.tuple #[]) ∧ RowC w' g (srt ls) ∧ w.grownBy w' (some g) := by
  have eg : ∀ args w, (callFunc 54 args).run Tryd.prog w = .ok (.enter 54 args) w := enters_of Tryd.func54 (by kernel_rfl) rfl
  have hcon := AnyQ.slices_SortFunc_total Tryd.shelfg6 8 Tryd.isAgg52 Tryd.sizeOf52 enc8 enc8_len (fun x => u8s_one1 x.1) cf8 swo8 54 #[] g 0 cap (ls.map c8).toArray w eg (cmpLays8 _ _ _ _) (holds_of_row hr) hg (by simp; omega) tot8
  change Calls Tryd.prog 105 _ _ _ at hcon
  have hs : (ls.map c8).toArray.size = ls.length := by simp
  rw [hs] at hcon
  refine hcon.mono ?_
  rintro e w' ⟨rfl, n, os, rfl⟩
  refine ⟨rfl, ?_, grown_sort _ _ _ _ _⟩
  exact row_of_holds _ (holdsK_sortWorldK enc8 8 w g 0 n (ls.map c8).toArray _ os hg (holds_of_row hr) (by simp))
end Go.Proofs.YtkaimdcepnhkdaaDoor
namespace Go.Proofs.YtkaimdcepnhkdaaDoor
open Go.RowKit
set_option linter.unusedSimpArgs false
set_option linter.unusedVariables false

theorem rep8 (n : Nat) : All8 (List.replicate n z8) := fun l hl => by rw [List.eq_of_mem_replicate hl]; exact ⟨rfl, z8_oct⟩
theorem made8 (n : Nat) : madeCells zc8 (n * 8) = (u8ss (List.replicate n z8)).toArray := by
  have h : madeCells zc8 (n * 8) = Builtin.zeroCells zc8 n := by simp [madeCells, Builtin.zeroCells]
  rw [h, ← zero8]
theorem row_of_blk {w : World} {g : Nat} {t : TypeId} {cs : List (List Int)} (h : Blk w g t (u8ss cs).toArray) (ok : All8 cs) : RowC w g cs := by
  refine ⟨ok, fun i hi j v hv => ?_, fun i hi j hj => ⟨?_, h.frozen _⟩⟩
  · have hj : j < 8 := by
      have := (List.getElem?_eq_some_iff.1 hv).1
      rw [u8s, List.length_map, (ok.at_ i hi).1] at this
      exact this
    rw [h.cell, List.getElem?_toArray, u8ss_get cs ok i j hi hj]
    exact hv
  · rw [h.cell, List.getElem?_toArray, u8ss_get cs ok i j hi hj, List.getElem?_eq_getElem (by rw [u8s, List.length_map, (ok.at_ i hi).1]; exact hj)]
    rfl
theorem row_fill {w : World} {g : Nat} {cs ls : List (List Int)} (h : RowC w g cs) (hl : cs.length = ls.length) (ok : All8 ls) : RowC (w.setCells g 0 (u8ss ls)) g ls := by
  have hlen := u8ss_len ls ok
  have hr := World.rangeAt_setCells_same w g 0 (u8ss ls) (by
    have := there_flat h 0 cs.length (by omega)
    rw [hl] at this
    rw [hlen]
    simpa using this)
  refine ⟨ok, fun i hi j v hv => ?_, fun i hi => World.there_setCells (h.there i (by omega)) _ _ _⟩
  have hj : j < 8 := by
    have := (List.getElem?_eq_some_iff.1 hv).1
    rw [u8s, List.length_map, (ok.at_ i hi).1] at this
    exact this
  have h1 := hr (i * 8 + j) v (by rw [u8ss_get ls ok i j hi hj]; exact hv)
  rw [Nat.zero_add] at h1
  exact h1
theorem RdC.flat {w : World} {B n : Nat} {A : Option Addr} {ls : List (List Int)} (h : RdC w B A n ls) (hn : 0 < n) : ∃ b off, A = some ⟨b, off, none⟩ ∧ b < B ∧ ∀ j v, (u8ss ls)[j]? = some v → w.cell? ((⟨b, off, none⟩ : Addr).add j) = some v := by
  obtain ⟨b, off, e, hb, hc⟩ := h.at_ hn
  refine ⟨b, off, e, hb, fun j v hv => ?_⟩
  have hj := (List.getElem?_eq_some_iff.1 hv).1
  rw [u8ss_len ls h.ok] at hj
  have hi : j / 8 < ls.length := by omega
  have h1 := u8ss_get ls h.ok (j / 8) (j % 8) hi (by omega)
  rw [show j / 8 * 8 + j % 8 = j by omega] at h1
  rw [h1] at hv
  have h2 := hc (j / 8) hi (j % 8) v hv
  rw [Addr.add_mid]
  rw [show off + j / 8 * 8 + j % 8 = off + j by omega] at h2
  exact h2
theorem run_copy8 (w : World) (ty : TypeId) (g n c B : Nat) (A : Option Addr) (cs ls : List (List Int)) (hg : RowC w g cs) (hl : cs.length = n) (hr : RdC w B A n ls) :
    (Builtin.copy_ #[69, 69] ty #[.slice (some ⟨g, 0, none⟩) n n, .slice A n c]).run Tryd.prog w = .ok (.int .i64 n) (w.setCells g 0 (u8ss ls)) := by
  have hlen := u8ss_len ls hr.ok
  rw [hr.len] at hlen
  obtain ⟨i, hi, hz0, hz1, hz2⟩ := info_parts info_comm
  by_cases h0 : n = 0
  · subst h0
    have hn : ls = [] := List.eq_nil_of_length_eq_zero hr.len
    subst hn
    have hl0 : ∀ (x : Addr), (loadCells x 0).run Tryd.prog w = .ok #[] w := fun x => by simpa using run_loadCells_list (P := Tryd.prog) w x [] (by simp)
    cases A <;> simp [Builtin.copy_, run_underlying Tryd.underlying69, Builtin.lenOf, Builtin.firstCells, sizeOf, typeInfo, hi, hz1, storeCells, hl0, u8ss, World.setCells, goInt]
  · obtain ⟨b, off, rfl, _, hsrc⟩ := hr.flat (by omega)
    have hld := run_loadCells_list (P := Tryd.prog) w ⟨b, off, none⟩ (u8ss ls) hsrc
    have ht := there_flat hg 0 n (by omega)
    have hst := run_storeCells_cells (P := Tryd.prog) g 0 (u8ss ls) 0 w (by rw [hlen]; simpa using fun j hj => (ht j hj).1) (by rw [hlen]; simpa using fun j hj => (ht j hj).2) (by
      intro v hv
      obtain ⟨l, hl, hv⟩ := List.mem_flatMap.1 hv
      exact u8s_one1 l v hv)
    simp only [Nat.add_zero] at hst
    rw [hlen] at hld
    simp [Builtin.copy_, run_underlying Tryd.underlying69, Builtin.lenOf, Builtin.firstCells, sizeOf, typeInfo, hi, hz1, hld, hst, goInt]
theorem RowC.rd {w : World} {g : Nat} {cs : List (List Int)} (h : RowC w g cs) (hg : g < w.heap.size) : RdC w w.heap.size (some ⟨g, 0, none⟩) cs.length cs :=
  ⟨rfl, h.ok, fun _ => ⟨g, 0, rfl, hg, fun i hi => by rw [Nat.zero_add]; exact h.at_ i hi⟩⟩
/-- The set of a list: rising, each once. -/
noncomputable def setL (ls : List (List Int)) : List (List Int) := ct (srt ls)
set_option maxHeartbeats 2000000 in
set_option maxRecDepth 100000 in
theorem set_is (w : World) (A : Option Addr) (n c : Nat) (ls : List (List Int)) (hr : RdC w w.heap.size A n ls) (hn : n ≤ 1000000) :
    Calls Tryd.prog 57 #[.slice A n c] w fun e w' => ∃ g, e = .returned (.slice (some ⟨g, 0, none⟩) (setL ls).length n) ∧ RowC w' g (setL ls) ∧ w.heap.size ≤ g ∧ g < w'.heap.size ∧ Below w.heap.size w w' := by
  obtain ⟨i, hi, hz0, hz1, hz2⟩ := info_parts info_comm
  have hmk := run_make (P := Tryd.prog) w 69 52 i (.agg zc8) Tryd.underlying69 hi hz0 .i64 .i64 (n : Int) (n : Int) (by omega) (Int.le_refl _) (by rw [hz2]; omega) (by omega)
  rw [hz1, Int.toNat_natCast, show (Value.agg zc8).cells = zc8 from rfl, made8] at hmk
  have hb := Blk.new w 52 (u8ss (List.replicate n z8)).toArray
  have hrow := row_of_blk hb (rep8 n)
  have hlow := (Below.refl w.heap.size w).alloc (Nat.le_refl _) (.cells (u8ss (List.replicate n z8)).toArray 52)
  have hr1 := hr.below hlow
  have hcp := fun ty => run_copy8 (w.alloc (.cells (u8ss (List.replicate n z8)).toArray 52)) ty w.heap.size n c w.heap.size A (List.replicate n z8) ls hrow (by simp) hr1
  have hrow2 := row_fill hrow (by simp [hr.len]) hr.ok
  have HR := Lib.hid hrow2
  have HG : Hid (w.grownBy ((w.alloc (.cells (u8ss (List.replicate n z8)).toArray 52)).setCells w.heap.size 0 (u8ss ls)) (some w.heap.size)) := Lib.hid (only_setCells _ _ _ (World.grownBy_alloc w _ _))
  have HSz : Hid (w.heap.size < ((w.alloc (.cells (u8ss (List.replicate n z8)).toArray 52)).setCells w.heap.size 0 (u8ss ls)).heap.size) := Lib.hid (Nat.lt_of_lt_of_le (by simp) (only_setCells (g := w.heap.size) (u8ss ls) 0 _ (only_refl _ _)).size)
  obtain rfl := hr.len
  clear hr hr1 hb hrow hrow2 hlow hz0 hz1 hz2 hi
  go_enter Tryd.func57, Tryd.ntmps57
  go_wp2_with fail
  refine (sort_is _ w.heap.size ls.length ls HR.out HSz.out hn).mono ?_
  rintro e w1 ⟨rfl, hr, hg⟩
  have HG1 := Lib.hid (HG.out.trans hg)
  have HZ1 := Lib.hid (Nat.lt_of_lt_of_le HSz.out hg.size)
  have hc := cpt_is w1 w.heap.size ls.length (srt ls) hr (by rw [srt_len]; exact hn) (by rw [srt_len]; exact Nat.le_refl _) hn
  rw [srt_len] at hc
  have HC := Lib.hid hc
  clear hr hg hc HR HG HSz hmk hcp
  go_wp2_with fail
  refine HC.out.mono ?_
  rintro e w2 ⟨rfl, hS⟩
  have HS := Lib.hid hS.row
  have HG2 := Lib.hid (HG1.out.trans hS.grown)
  have HZ2 := Lib.hid (Nat.lt_of_lt_of_le HZ1.out hS.grown.size)
  clear hS HG1 HZ1 HC
  go_wp2
  go_ret
  exact ⟨w.heap.size, rfl, HS.out, Nat.le_refl _, HZ2.out, (Below.refl _ _).grown HG2.out (Nat.le_refl _) (fun j hj => by cases hj; exact Nat.le_refl _)⟩
end Go.Proofs.YtkaimdcepnhkdaaDoor
namespace Go.Proofs.YtkaimdcepnhkdaaDoor
open Go.RowKit Go.Sort
set_option linter.unusedSimpArgs false
set_option linter.unusedVariables false

theorem cmp_lt_trans (x y z : List Int) (h1 : cmpI x y < 0) (h2 : cmpI y z < 0) : cmpI x z < 0 := by
  have h3 := cmpI_trans x y z (by omega) (by omega)
  rcases Int.lt_or_eq_of_le h3 with h | h
  · exact h
  · have e := (cmpI_zero _ _).1 h
    rw [← e, cmpI_swap x y] at h2
    omega
def Rise (l : List (List Int)) : Prop := l.Pairwise fun a b => cmpI a b < 0
theorem rise_unique : ∀ (a b : List (List Int)), Rise a → Rise b → (∀ x, x ∈ a ↔ x ∈ b) → a = b
  | [], [], _, _, _ => rfl
  | [], y :: b, _, _, h => absurd ((h y).2 List.mem_cons_self) (by simp)
  | x :: a, [], _, _, h => absurd ((h x).1 List.mem_cons_self) (by simp)
  | x :: a, y :: b, ha, hb, h => by
    obtain ⟨ha1, ha2⟩ := List.pairwise_cons.1 ha
    obtain ⟨hb1, hb2⟩ := List.pairwise_cons.1 hb
    have e : x = y := by
      rcases List.mem_cons.1 ((h x).1 List.mem_cons_self) with e | hx
      · exact e
      · rcases List.mem_cons.1 ((h y).2 List.mem_cons_self) with e | hy
        · exact e.symm
        · have h1 := ha1 y hy
          have h2 := hb1 x hx
          rw [cmpI_swap x y] at h2
          omega
    subst e
    rw [rise_unique a b ha2 hb2 (fun z => ⟨fun hz => ?_, fun hz => ?_⟩)]
    · rcases List.mem_cons.1 ((h z).1 (List.mem_cons_of_mem _ hz)) with e | h'
      · subst e
        have := ha1 z hz
        rw [cmpI_same] at this
        omega
      · exact h'
    · rcases List.mem_cons.1 ((h z).2 (List.mem_cons_of_mem _ hz)) with e | h'
      · subst e
        have := hb1 z hz
        rw [cmpI_same] at this
        omega
      · exact h'
theorem ctA_has : ∀ (r : List (List Int)) (p x : List Int), x ∈ r → x = p ∨ x ∈ ctA p r
  | b :: r, p, x, h => by
    unfold ctA
    rcases List.mem_cons.1 h with rfl | h
    · by_cases e : x = p
      · exact Or.inl e
      · rw [if_neg e]; exact Or.inr List.mem_cons_self
    · by_cases e : b = p
      · rw [if_pos e]; exact ctA_has r p x h
      · rw [if_neg e]
        rcases ctA_has r b x h with rfl | h'
        · exact Or.inr List.mem_cons_self
        · exact Or.inr (List.mem_cons_of_mem _ h')
theorem ct_has (l : List (List Int)) (x : List Int) : x ∈ ct l ↔ x ∈ l := by
  refine ⟨ct_mem l x, fun h => ?_⟩
  match l, h with
  | a :: r, h =>
    rcases List.mem_cons.1 h with rfl | h
    · exact List.mem_cons_self
    · rcases ctA_has r a x h with rfl | h'
      · exact List.mem_cons_self
      · exact List.mem_cons_of_mem _ h'
theorem ctA_rise : ∀ (r : List (List Int)) (p : List Int), (p :: r).Pairwise (fun a b => cmpI a b ≤ 0) → Rise (p :: ctA p r)
  | [], p, _ => List.pairwise_singleton _ _
  | b :: r, p, h => by
    obtain ⟨h1, h2⟩ := List.pairwise_cons.1 h
    obtain ⟨h3, h4⟩ := List.pairwise_cons.1 h2
    unfold ctA
    by_cases e : b = p
    · subst e
      rw [if_pos rfl]
      exact ctA_rise r b h2
    · rw [if_neg e]
      have ih := ctA_rise r b h2
      refine List.pairwise_cons.2 ⟨fun x hx => ?_, ih⟩
      have hpb : cmpI p b < 0 := by
        rcases Int.lt_or_eq_of_le (h1 b List.mem_cons_self) with h' | h'
        · exact h'
        · exact absurd ((cmpI_zero _ _).1 h').symm e
      rcases List.mem_cons.1 hx with rfl | hx
      · exact hpb
      · exact cmp_lt_trans _ _ _ hpb ((List.pairwise_cons.1 ih).1 x hx)
theorem srt_pairs (ls : List (List Int)) : (srt ls).Pairwise fun a b => cmpI a b ≤ 0 := by
  unfold srt
  rw [List.pairwise_map]
  have h := List.pairwise_mergeSort (le := fun x y : C8 => !(ltOf cf8) y x)
    (fun a b c h1 h2 => by
      simp only [lt8, Bool.not_eq_true', decide_eq_false_iff_not, Int.not_lt] at *
      have s1 := cmpI_swap a.1 b.1
      have s2 := cmpI_swap b.1 c.1
      have s3 := cmpI_swap a.1 c.1
      have := cmpI_trans a.1 b.1 c.1 (by omega) (by omega)
      omega)
    (fun a b => by
      simp only [lt8, Bool.or_eq_true, Bool.not_eq_true', decide_eq_false_iff_not, Int.not_lt]
      have s1 := cmpI_swap a.1 b.1
      omega) (ls.map c8)
  refine h.imp ?_
  intro a b hab
  simp only [lt8, Bool.not_eq_true', decide_eq_false_iff_not, Int.not_lt] at hab
  have s1 := cmpI_swap a.1 b.1
  omega
theorem srt_has (ls : List (List Int)) (ok : All8 ls) (x : List Int) : x ∈ srt ls ↔ x ∈ ls := by
  unfold srt
  constructor
  · intro h
    obtain ⟨y, hy, rfl⟩ := List.mem_map.1 h
    obtain ⟨l, hl, rfl⟩ := List.mem_map.1 (List.mem_mergeSort.1 hy)
    rw [c8_val l (ok l hl)]
    exact hl
  · intro h
    exact List.mem_map.2 ⟨c8 x, List.mem_mergeSort.2 (List.mem_map.2 ⟨x, h, rfl⟩), c8_val x (ok x h)⟩
theorem setL_rise (ls : List (List Int)) : Rise (setL ls) := by
  have h := srt_pairs ls
  unfold setL
  cases hq : srt ls with
  | nil => exact List.Pairwise.nil
  | cons a r => rw [hq] at h; exact ctA_rise r a h
theorem setL_has (ls : List (List Int)) (ok : All8 ls) (x : List Int) : x ∈ setL ls ↔ x ∈ ls := (ct_has _ x).trans (srt_has ls ok x)
theorem setL_all (ls : List (List Int)) : All8 (setL ls) := fun l hl => srt_all ls l (ct_mem _ l hl)
theorem setL_eq (a b : List (List Int)) (ha : All8 a) (hb : All8 b) (h : ∀ x, x ∈ a ↔ x ∈ b) : setL a = setL b :=
  rise_unique _ _ (setL_rise a) (setL_rise b) (fun x => by rw [setL_has a ha, setL_has b hb]; exact h x)
theorem setL_rev (a : List (List Int)) (ha : All8 a) : setL a.reverse = setL a := setL_eq _ _ (fun l hl => ha l (List.mem_reverse.1 hl)) ha (fun x => List.mem_reverse)
theorem setL_set (a : List (List Int)) (ha : All8 a) : setL (setL a) = setL a := setL_eq _ _ (setL_all a) ha (fun x => setL_has a ha x)
theorem ctA_le : ∀ (r : List (List Int)) (p : List Int), (ctA p r).length ≤ r.length
  | [], _ => Nat.le_refl _
  | b :: r, p => by
    unfold ctA
    split
    · have := ctA_le r p; simp; omega
    · have := ctA_le r b; simp; omega
theorem setL_len (ls : List (List Int)) : (setL ls).length ≤ ls.length := by
  rw [← srt_len ls]
  unfold setL
  cases srt ls with
  | nil => exact Nat.le_refl _
  | cons a r => have := ctA_le r a; simp [ct]; omega
theorem setL_step (ls : List (List Int)) (i : Nat) (h : i + 1 < (setL ls).length) : cmpI ((setL ls)[i]'(by omega)) (setL ls)[i + 1] < 0 := List.pairwise_iff_getElem.1 (setL_rise ls) i (i + 1) (by omega) h (by omega)

set_option maxHeartbeats 2000000 in
set_option maxRecDepth 100000 in
theorem same_is (w : World) (A1 A2 : Option Addr) (n c1 c2 : Nat) (ls : List (List Int)) (h1 : RdC w w.heap.size A1 n ls) (h2 : RdC w w.heap.size A2 n ls) (hn : n ≤ 1000000) :
    Calls Tryd.prog 61 #[.slice A1 n c1, .slice A2 n c2] w fun e w' => e = .returned (.bool true) ∧ Below w.heap.size w w' := by
  have H1 := Lib.hid h1
  have H2 := Lib.hid h2
  have hl := h1.len
  clear h1 h2
  go_enter Tryd.func61, Tryd.ntmps61
  go_wp2
  go_loopw [5, 13] (fun _ i wr => ∃ m : Nat, m ≤ n ∧ i = .int .i64 m ∧ Below w.heap.size w wr) (fun _ i _ => n - (intOf i).toNat)
  case atStart => exact ⟨0, Nat.zero_le _, rfl, Below.refl _ _⟩
  case round =>
    obtain ⟨m, hm, rfl, hw⟩ := hrel
    by_cases hlt : m < n
    · have hml : m < ls.length := by omega
      have ok := H1.out.ok.at_ m hml
      obtain ⟨b1, o1, rfl, hb1, hc1⟩ := H1.out.at_ (by omega)
      obtain ⟨b2, o2, rfl, hb2, hc2⟩ := H2.out.at_ (by omega)
      have HR1 : Hid (∀ wq, Below w.heap.size w wq → wq.rangeAt b1 (o1 + m * 8) (u8s ls[m])) := Lib.hid fun wq hq => range_below (hc1 m hml) hq hb1
      have HR2 : Hid (∀ wq, Below w.heap.size w wq → wq.rangeAt b2 (o2 + m * 8) (u8s ls[m])) := Lib.hid fun wq hq => range_below (hc2 m hml) hq hb2
      clear hc1 hc2
      generalize ls[m] = y at *
      have HW := Lib.hid hw
      have i0 : (0 : Int) ≤ (m : Int) := by omega
      have i1 : (m : Int) < (n : Int) := by omega
      have hE8 := comm_ne y ok.1 ok.2
      clear hw
      go_wp2
      refine wp_region_held_drew (S := fun w' => Below w.heap.size w w') (by kernel_rfl) (below_drewN HW.out 1) (fun hS => ?_)
      refine wpAnyH_take (i := 0) (oi := ⟨some 16, _, _, _, _, _⟩) (v := ?_) rfl (by kernel_rfl) (by kernel_rfl) (by kernel_rfl) (fun _ _ _ h => h) (Or.inl ⟨by rfl, ?_⟩) hS ?_
      rotate_left
      · intro wq hq
        first | (go_simp; done) | (go_simp; rfl)
      try simp only [Act.put, List.setIfInBounds_toArray, List.set_cons_zero, List.set_cons_succ]
      refine wpAnyH_take (i := 1) (oi := ⟨some 17, _, _, _, _, _⟩) (v := ?_) rfl (by kernel_rfl) (by kernel_rfl) (by kernel_rfl) (fun _ _ _ h => h) (Or.inl ⟨by rfl, ?_⟩) hS ?_
      rotate_left
      · intro wq hq
        first | (go_simp; done) | (go_simp; rfl)
      try simp only [Act.put, List.setIfInBounds_toArray, List.set_cons_zero, List.set_cons_succ]
      refine wpAnyH_take (i := 4) (oi := ⟨some 20, _, _, _, _, _⟩) (v := ?_) rfl (by kernel_rfl) (by kernel_rfl) (by kernel_rfl) (fun _ _ _ h => h) (Or.inl ⟨by rfl, ?_⟩) hS ?_
      rotate_left
      · intro wq hq
        first | (go_simp; done) | (go_simp; rfl)
      try simp only [Act.put, List.setIfInBounds_toArray, List.set_cons_zero, List.set_cons_succ]
      refine wpAnyH_take (i := 5) (oi := ⟨some 21, _, _, _, _, _⟩) (v := ?_) rfl (by kernel_rfl) (by kernel_rfl) (by kernel_rfl) (fun _ _ _ h => h) (Or.inl ⟨by rfl, ?_⟩) hS ?_
      rotate_left
      · intro wq hq
        first | (go_simp; done) | (go_simp; rfl)
      try simp only [Act.put, List.setIfInBounds_toArray, List.set_cons_zero, List.set_cons_succ]
      refine wpAnyH_take (i := 2) (oi := ⟨some 18, _, _, _, _, _⟩) (v := ?_) rfl (by kernel_rfl) (by kernel_rfl) (by kernel_rfl) (fun _ _ _ h => h) (Or.inl ⟨by rfl, ?_⟩) hS ?_
      rotate_left
      · intro wq hq
        first | (go_simp; done) | (go_simp; rfl)
      try simp only [Act.put, List.setIfInBounds_toArray, List.set_cons_zero, List.set_cons_succ]
      refine wpAnyH_take (i := 6) (oi := ⟨some 22, _, _, _, _, _⟩) (v := ?_) rfl (by kernel_rfl) (by kernel_rfl) (by kernel_rfl) (fun _ _ _ h => h) (Or.inl ⟨by rfl, ?_⟩) hS ?_
      rotate_left
      · intro wq hq
        first | (go_simp; done) | (go_simp; rfl)
      try simp only [Act.put, List.setIfInBounds_toArray, List.set_cons_zero, List.set_cons_succ]
      refine wpAnyH_take (i := 3) (oi := ⟨some 19, _, _, _, _, _⟩) rfl (by kernel_rfl) (by kernel_rfl) (by kernel_rfl) (fun _ _ _ h => h) (yieldsIf_load_mid (by rfl) 52 _ rfl _ _ rfl (u8s y) _ (fun wq hq => HR1.out wq hq) Tryd.underlying52 rfl (by simpa using comm_size y ok.1)) hS ?_
      try simp only [Act.put, List.setIfInBounds_toArray, List.set_cons_zero, List.set_cons_succ]
      refine wpAnyH_take (i := 7) (oi := ⟨some 23, _, _, _, _, _⟩) rfl (by kernel_rfl) (by kernel_rfl) (by kernel_rfl) (fun _ _ _ h => h) (yieldsIf_load_mid (by rfl) 52 _ rfl _ _ rfl (u8s y) _ (fun wq hq => HR2.out wq hq) Tryd.underlying52 rfl (by simpa using comm_size y ok.1)) hS ?_
      try simp only [Act.put, List.setIfInBounds_toArray, List.set_cons_zero, List.set_cons_succ]
      refine wpAnyH_take (i := 8) (oi := ⟨some 24, _, _, _, _, _⟩) (v := ?_) rfl (by kernel_rfl) (by kernel_rfl) (by kernel_rfl) (fun _ _ _ h => h) (Or.inl ⟨by rfl, ?_⟩) hS ?_
      rotate_left
      · intro wq hq
        first | (go_simp; done) | (go_simp; rfl)
      try simp only [Act.put, List.setIfInBounds_toArray, List.set_cons_zero, List.set_cons_succ]
      refine wpAnyH_done (by kernel_rfl) ?_ _
      go_wp2
      exact ⟨⟨m + 1, by omega, by go_num, hS⟩, by simp [intOf]; omega⟩
    · obtain rfl : m = n := by omega
      have HW := Lib.hid hw
      clear hw
      go_wp2
      go_ret
      exact ⟨rfl, HW.out⟩
end Go.Proofs.YtkaimdcepnhkdaaDoor
