/-
  Layer 8: readPart, refused, judged; slices.Equal.
-/
import Derived.Test.YtgfjjkckamppoaaDoorHeE
import Derived.Test.YtgfjjkckamppoaaDoorNlG
namespace Go.Proofs.YtgfjjkckamppoaaDoor
open Go.RowKit
set_option maxRecDepth 100000
set_option linter.unusedSimpArgs false
set_option linter.unusedVariables false

theorem num1_ok (l : List Int) (a : Nat) (h : a < l.length) : numVal l a 0 1 = l.getD a 0 ∧ numAt l a 0 1 = a + 1 ∧ numErr l a 0 1 = 0 := by
  have hok : numOk (1 : Int) := ⟨by omega, by omega⟩
  refine ⟨?_, ?_, ?_⟩
  · unfold numVal stepTook
    rw [if_pos hok, if_pos (by omega)]
    rw [show (1 : Int).toNat = 1 from rfl, List.drop_eq_getElem_cons h, List.take_succ_cons, List.take_zero]
    simp [numOf, List.getD, h]
  · unfold numAt stepAt; rw [if_pos hok, if_pos (by omega)]; rfl
  · unfold numErr stepErr; rw [if_pos hok, if_pos rfl, if_neg (by omega), if_neg (by omega)]
theorem num1_no (l : List Int) (a : Nat) (h : ¬ a < l.length) : numVal l a 0 1 = 0 ∧ numErr l a 0 1 = 3 := by
  have hok : numOk (1 : Int) := ⟨by omega, by omega⟩
  refine ⟨?_, ?_⟩
  · unfold numVal stepTook; rw [if_pos hok, if_neg (by omega)]; rfl
  · unfold numErr stepErr; rw [if_pos hok, if_pos rfl, if_neg (by omega), if_pos (by omega)]
theorem num1_bd (l : List Int) (ho : Oct l) (a : Nat) (e : Int) : 0 ≤ numVal l a e 1 ∧ numVal l a e 1 < 256 := by
  unfold numVal
  split
  · unfold stepTook
    split
    · have hb := numOf_bd _ (oct_dt ho a (1 : Int).toNat)
      have hl : ((l.drop a).take (1 : Int).toNat).length ≤ 1 := by simp; omega
      generalize ((l.drop a).take (1 : Int).toNat) = q at *
      have : (256 : Int) ^ q.length ≤ 256 := by
        match h : q.length, hl with
        | 0, _ => decide
        | 1, _ => decide
      omega
    · simp [numOf]
  · simp
/-- The steps of a part. -/
theorem part_math (l : List Int) (ho : Oct l) (a : Nat) (ha : a < l.length) :
    (∃ r', part1 (l.drop a) = some (numVal l a 0 1, stepTook l (numAt l (numAt l a 0 1) (numErr l a 0 1) 1) (numErr l (numAt l a 0 1) (numErr l a 0 1) 1) (numVal l (numAt l a 0 1) (numErr l a 0 1) 1), r') ∧ r' = l.drop (stepAt l (numAt l (numAt l a 0 1) (numErr l a 0 1) 1) (numErr l (numAt l a 0 1) (numErr l a 0 1) 1) (numVal l (numAt l a 0 1) (numErr l a 0 1) 1)) ∧
      stepErr l (numAt l (numAt l a 0 1) (numErr l a 0 1) 1) (numErr l (numAt l a 0 1) (numErr l a 0 1) 1) (numVal l (numAt l a 0 1) (numErr l a 0 1) 1) = 0) ∨
    (part1 (l.drop a) = none ∧ stepErr l (numAt l (numAt l a 0 1) (numErr l a 0 1) 1) (numErr l (numAt l a 0 1) (numErr l a 0 1) 1) (numVal l (numAt l a 0 1) (numErr l a 0 1) 1) = 3) := by
  obtain ⟨e1, e2, e3⟩ := num1_ok l a ha
  rw [e1, e2, e3]
  by_cases h1 : a + 1 < l.length
  · obtain ⟨f1, f2, f3⟩ := num1_ok l (a + 1) h1
    rw [f1, f2, f3]
    have hd : l.drop a = l.getD a 0 :: l.getD (a + 1) 0 :: l.drop (a + 2) := by
      rw [List.drop_eq_getElem_cons ha, List.drop_eq_getElem_cons h1]
      simp [List.getD, ha, h1]
    have hb := ho.getD (a + 1)
    generalize l.getD (a + 1) 0 = n at *
    rw [hd]
    simp only [part1, List.length_drop]
    by_cases h2 : n.toNat ≤ l.length - (a + 2)
    · left
      have hc : (0 : Int) = 0 ∧ 0 ≤ n ∧ ((a + 1 + 1 : Nat) : Int) + n ≤ l.length := ⟨rfl, hb.1, by omega⟩
      have hv : stepTook l (a + 1 + 1) 0 n = (l.drop (a + 2)).take n.toNat := by unfold stepTook; rw [if_pos hc]
      rw [if_pos h2, hv]
      refine ⟨_, rfl, ?_, ?_⟩
      · rw [List.drop_drop]; congr 1; unfold stepAt; rw [if_pos hc]
      · unfold stepErr; rw [if_pos rfl, if_neg (by omega), if_neg (by omega)]
    · right
      rw [if_neg h2]
      refine ⟨rfl, ?_⟩
      unfold stepErr; rw [if_pos rfl, if_neg (by omega), if_pos (by omega)]
  · right
    obtain ⟨f1, f3⟩ := num1_no l (a + 1) h1
    have hd : l.drop a = [l.getD a 0] := by
      rw [List.drop_eq_getElem_cons ha, List.drop_eq_nil_of_le (by omega)]
      simp [List.getD, ha]
    rw [hd, f1, f3]
    exact ⟨rfl, late_err _ _ _ _ (by decide)⟩
/-- What readPart comes to. -/
def PartPost (A0 : Option Addr) (c0 : Nat) (w : World) (g : Nat) (l : List Int) (a : Nat) (e : Ending) (w' : World) : Prop :=
  w.grownBy w' (some g) ∧ ∃ k A n, 0 ≤ k ∧ k < 256 ∧ match part1 (l.drop a) with
    | some (k', v, r) => k = k' ∧ n = v.length ∧ e = .returned (.tuple #[.int .i64 k, .slice A n n, .bool true]) ∧ New 5 w w' A n v ∧ ∃ a', IsCurX A0 c0 w' g l a' 0 ∧ r = l.drop a' ∧ a' ≤ l.length
    | none => e = .returned (.tuple #[.int .i64 k, .slice A n n, .bool false])

set_option maxHeartbeats 1000000 in
theorem rpart_is {A0 : Option Addr} {c0 : Nat} (w : World) (g : Nat) (l : List Int) (a : Nat) (h : IsCurX A0 c0 w g l a 0) (ho : Oct l) (ha : a < l.length) : Calls Tryd.prog 68 #[.pointer (some ⟨g, 0, none⟩)] w (PartPost A0 c0 w g l a) := by
  have HM := Lib.hid (part_math l ho a ha)
  have HC := Lib.hid h
  clear h
  go_enter Tryd.func68, Tryd.ntmps68
  go_wp2_with fail
  refine (num_isX w g l a 0 1 HC.out).mono ?_
  rintro e w1 ⟨rfl, hc1, hg1⟩
  have b1 := num1_bd l ho a 0
  generalize numVal l a 0 1 = k at *
  generalize numAt l a 0 1 = a1 at *
  generalize numErr l a 0 1 = e1 at *
  have HC1 := Lib.hid hc1
  have HG1 := Lib.hid hg1
  clear hc1 hg1 HC
  go_wp2_with fail
  refine (num_isX w1 g l a1 e1 1 HC1.out).mono ?_
  rintro e w2 ⟨rfl, hc2, hg2⟩
  have b2 := num1_bd l ho a1 e1
  generalize numVal l a1 e1 1 = m at *
  generalize numAt l a1 e1 1 = a2 at *
  generalize numErr l a1 e1 1 = e2 at *
  have HC2 := Lib.hid hc2
  have HG2 := Lib.hid (only_trans HG1.out hg2)
  clear hc2 hg2 HC1 HG1
  go_wp2_with fail
  refine (take_isX w2 g l a2 e2 m HC2.out).mono ?_
  rintro e w3 ⟨A, rfl, hn3, hc3, hg3⟩
  generalize stepTook l a2 e2 m = v at *
  generalize stepAt l a2 e2 m = a3 at *
  generalize stepErr l a2 e2 m = e3 at *
  have HN3 := Lib.hid (hn3.from_ HG2.out.size)
  have HC3 := Lib.hid hc3
  have HG3 := Lib.hid (only_trans HG2.out hg3)
  clear hn3 hc3 hg3 HC2 HG2
  go_wp2_with fail
  refine (err_is w3 g l a3 e3 HC3.out.toIsCurT).mono ?_
  rintro e w4 ⟨rfl, rfl⟩
  rcases HM.out with ⟨r', h1, h2, h3⟩ | ⟨h1, h3⟩
  · have H1 := Lib.hid h1
    have H2 := Lib.hid h2
    clear h1 h2 HM
    subst h3
    go_wp2
    go_ret3
    unfold PartPost
    rw [H1.out]
    exact ⟨HG3.out, k, A, v.length, b1.1, b1.2, rfl, rfl, rfl, HN3.out, a3, HC3.out, H2.out, HC3.out.le⟩
  · have H1 := Lib.hid h1
    clear h1 HM
    subst h3
    go_wp2
    go_ret3
    unfold PartPost
    rw [H1.out]
    exact ⟨HG3.out, k, A, v.length, b1.1, b1.2, rfl⟩

theorem eq_step {l l2 : List Int} {m : Nat} (h1 : m < l.length) (h2 : m < l2.length) (ht : l.take m = l2.take m) : l.take (m + 1) = l2.take (m + 1) ↔ l.getD m 0 = l2.getD m 0 := by
  have a1 : l.take (m + 1) = l.take m ++ [l.getD m 0] := by rw [List.take_succ_eq_append_getElem h1]; simp [List.getD, h1]
  have a2 : l2.take (m + 1) = l2.take m ++ [l2.getD m 0] := by rw [List.take_succ_eq_append_getElem h2]; simp [List.getD, h2]
  rw [a1, a2, ht]
  simp
theorem eq_no {l l2 : List Int} {m : Nat} (h1 : m < l.length) (h2 : m < l2.length) (h : l.getD m 0 ≠ l2.getD m 0) : l ≠ l2 := fun e => h (by rw [e])
set_option maxHeartbeats 1000000 in
theorem equal_is (w : World) (B : Nat) (A A2 : Option Addr) (n n2 c c2 : Nat) (l l2 : List Int) (h : Rd w B A n l) (h2 : Rd w B A2 n2 l2) (hB : B ≤ w.heap.size) (hn : n ≤ 1000000) (hn2 : n2 ≤ 1000000) :
    Calls Tryd.prog 76 #[.slice A n c, .slice A2 n2 c2] w fun e w' => e = .returned (.bool (decide (l = l2))) ∧ Below w.heap.size w w' := by
  have hl := h.len
  have hl2 := h2.len
  by_cases hne : n = n2
  · subst hne
    have H := Lib.hid h
    have H2 := Lib.hid h2
    have HB := Lib.hid hB
    have HL := Lib.hid hl
    have HL2 := Lib.hid hl2
    have he : ((n : Int) != (n : Int)) = false := by simp
    clear h h2 hB hl hl2
    go_enter Tryd.func76, Tryd.ntmps76
    go_wp2
    go_loopw [13] (fun i wr => ∃ m : Nat, m ≤ n ∧ i = .int .i64 m ∧ l.take m = l2.take m ∧ Below w.heap.size w wr) (fun i _ => n - (intOf i).toNat)
    case atStart => exact ⟨0, Nat.zero_le _, rfl, rfl, Below.refl _ _⟩
    case round =>
      obtain ⟨m, hm, rfl, ht, hw⟩ := hrel
      by_cases hlt : m < n
      · have hml : m < l.length := by have := HL.out; omega
        have hml2 : m < l2.length := by have := HL2.out; omega
        have HT := Lib.hid (eq_step hml hml2 ht)
        have HNo := Lib.hid (fun h => eq_no hml hml2 h)
        have HW := Lib.hid hw
        obtain ⟨b, off, rfl, hb, hcell⟩ := (H.out.below (hw.mono HB.out)).at_ (by omega)
        obtain ⟨b2, off2, rfl, hb2, hcell2⟩ := (H2.out.below (hw.mono HB.out)).at_ (by omega)
        have x1 := hcell m hlt
        have x2 := hcell2 m hlt
        have y1 : ∀ k, (wr.drewN k).cell? ⟨b, off + m, none⟩ = some (.int .u8 (l.getD m 0)) := fun k => x1
        have y2 : ∀ k, (wr.drewN k).cell? ⟨b2, off2 + m, none⟩ = some (.int .u8 (l2.getD m 0)) := fun k => x2
        generalize l.getD m 0 = x at *
        generalize l2.getD m 0 = y at *
        clear hcell hcell2 ht hw
        by_cases hxy : x = y
        · subst hxy
          have hE := HT.out.2 rfl
          have e1 : (x != x) = false := by simp
          have HE := Lib.hid hE
          clear hE HT HNo
          go_wp2
          go_region_with (fail)
          all_goals
            go_wp2
            exact ⟨⟨m + 1, by omega, by go_num, HE.out, below_drewN HW.out 1⟩, by simp [intOf]; omega⟩
        · have HN := Lib.hid (decide_eq_false (HNo.out hxy))
          have e1 : (x != y) = true := by simpa using hxy
          clear HT HNo hxy
          go_wp2
          go_region_with (fail)
          all_goals
            go_wp2
            go_ret
            exact ⟨by rw [HN.out]; rfl, below_drewN HW.out 1⟩
      · obtain rfl : m = n := by omega
        have hE : l = l2 := by
          have e1 := HL.out
          have e2 := HL2.out
          rwa [List.take_of_length_le (by omega), List.take_of_length_le (by omega)] at ht
        have HE := Lib.hid (decide_eq_true hE)
        have HW := Lib.hid hw
        clear ht hw hE
        go_wp2
        go_ret
        exact ⟨by rw [HE.out]; rfl, HW.out⟩
  · have hE : Hid (decide (l = l2) = false) := Lib.hid (decide_eq_false (fun e => hne (by rw [← hl, ← hl2, e])))
    have he : ((n : Int) != (n2 : Int)) = true := by simp; omega
    clear h h2 hl hl2 hne
    go_enter Tryd.func76, Tryd.ntmps76
    go_wp2
    go_ret
    exact ⟨by rw [hE.out]; rfl, Below.refl _ _⟩

/-- Two variables that are told: a hello's in block b, a fault's behind it. -/
structure ResS (w W : World) (b : Nat) : Prop where
  low : Below w.heap.size w W
  lb : w.heap.size ≤ b
  hb : ∃ old, Blk W b 24 old ∧ old.size = 6
  fb : ∃ old, Blk W (b + 1) 34 old ∧ old.size = 3
theorem ResS.below {w W W' : World} {b : Nat} (k : ResS w W b) (hB : Below W.heap.size W W') : ResS w W' b := by
  obtain ⟨o1, h1, z1⟩ := k.hb
  obtain ⟨o2, h2, z2⟩ := k.fb
  exact ⟨k.low.trans (hB.mono k.low.size), k.lb, ⟨o1, h1.below hB h1.lt, z1⟩, ⟨o2, h2.below hB h2.lt, z2⟩⟩
theorem ResS.grown {w W W' : World} {b g : Nat} (k : ResS w W b) (hg : W.grownBy W' (some g)) (hw : w.heap.size ≤ g) (h1 : g ≠ b) (h2 : g ≠ b + 1) : ResS w W' b := by
  obtain ⟨o1, k1, z1⟩ := k.hb
  obtain ⟨o2, k2, z2⟩ := k.fb
  exact ⟨below_only k.low hg k.low.size (fun i e => by injection e with e; omega), k.lb, ⟨o1, k1.grown hg (fun e => by injection e with e; omega), z1⟩, ⟨o2, k2.grown hg (fun e => by injection e with e; omega), z2⟩⟩
theorem num4_is {v : List Int} (h : v.length = 4) : numVal v 0 0 4 = numOf v := by
  unfold numVal stepTook
  rw [if_pos ⟨by omega, by omega⟩, if_pos (by omega), List.drop_zero, show (4 : Int).toNat = 4 from rfl, List.take_of_length_le (by omega)]
theorem Blk.setRow_other8 {w : World} {g g' : Nat} {t : TypeId} {cs : Array Value} (h : Blk w g t cs) (hne : g ≠ g') (cs' : Array Value) : Blk (w.setRow g' cs') g t cs := (setRow_other w g' g _ hne).trans h
theorem res_new (w : World) : ResS w ((w.alloc (.cells #[.int .u32 0, .int .i64 0, .int .u32 0, .bool false, .bool false, .bool false] 24)).alloc (.cells #[.int .i64 0, .int .i64 0, .slice none 0 0] 34)) w.heap.size := by
  have h1 := Blk.new w 24 #[.int .u32 0, .int .i64 0, .int .u32 0, .bool false, .bool false, .bool false]
  have h2 := h1.alloc (.cells #[.int .i64 0, .int .i64 0, .slice none 0 0] 34)
  have h3 := Blk.new (w.alloc (.cells #[.int .u32 0, .int .i64 0, .int .u32 0, .bool false, .bool false, .bool false] 24)) 34 #[.int .i64 0, .int .i64 0, .slice none 0 0]
  rw [show (w.alloc (.cells #[.int .u32 0, .int .i64 0, .int .u32 0, .bool false, .bool false, .bool false] 24)).heap.size = w.heap.size + 1 by simp] at h3
  exact ⟨(below_one8 _ _).trans ((below_one8 _ _).mono (below_one8 _ _).size), Nat.le_refl _, ⟨_, h2, rfl⟩, ⟨_, h3, rfl⟩⟩
/-- Told: two variables and a slot. -/
theorem res_end {fn : Func} {p q r : Tmp} (hres : fn.results = #[.cell p 24, .cell q 34, .tmp r]) {R : Ending → World → Prop} (a : Act) (w W : World) (b : Nat) (k : ResS w W b) (h : Hl) (c s : Int) (A : Option Addr) (n m : Nat) (u : Value)
    (hp : a.tmps.getD p undef = .pointer (some ⟨b, 0, none⟩)) (hq : a.tmps.getD q undef = .pointer (some ⟨b + 1, 0, none⟩)) (hr : a.tmps.getD r undef = u) (hd : a.defers = [])
    (hR : Below w.heap.size w ((W.setRow b (hlc h).toArray).setRow (b + 1) #[.int .i64 c, .int .i64 s, .slice A n m]) → R (.returned (.tuple #[.agg (hlc h).toArray, .agg #[.int .i64 c, .int .i64 s, .slice A n m], u])) ((W.setRow b (hlc h).toArray).setRow (b + 1) #[.int .i64 c, .int .i64 s, .slice A n m])) :
    bodyPost Tryd.prog fn R .ret a ((W.setRow b (hlc h).toArray).setRow (b + 1) #[.int .i64 c, .int .i64 s, .slice A n m]) := by
  obtain ⟨o1, k1, z1⟩ := k.hb
  obtain ⟨o2, k2, z2⟩ := k.fb
  have e1 := Blk.setRow k1 (hlc h).toArray
  have e2 := Blk.setRow_other8 k2 (show b + 1 ≠ b by omega) (hlc h).toArray
  have f1 := Blk.setRow_other8 e1 (show b ≠ b + 1 by omega) #[.int .i64 c, .int .i64 s, .slice A n m]
  have f2 := Blk.setRow e2 #[.int .i64 c, .int .i64 s, .slice A n m]
  refine bodyPost_ret (results_cells3 hres _ _ b (b + 1) 24 34 _ _ _ _ u hp hq hr f1 f2 Tryd.underlying24 rfl hsz Tryd.underlying34 rfl fsz) hd (hR ?_)
  exact k.low.trans (((below_setRow W b _ k.lb).trans (below_setRow _ (b + 1) _ (by have := k.lb; omega))))
theorem res_store {ops : Array Oper} {rest : List Oper} {o : Oper} {a : Act} {w W : World} {Q : Exit → Act → World → Prop} {b : Nat} (k : ResS w W b) (hgd : o.guard = none) (x y : Operand) (ho : o.op = .store 24 x y) (h : Hl)
    (hx : a.eval x = .pointer (some ⟨b, 0, none⟩)) (hy : a.eval y = .agg (hlc h).toArray)
    (k : wpList Tryd.prog ops Q rest (a.put o.dst undef) (W.setRow b (hlc h).toArray)) : wpList Tryd.prog ops Q (o :: rest) a W := by
  obtain ⟨o1, k1, z1⟩ := ResS.hb ‹_›
  exact h_store hgd x y ho b h hx hy 24 o1 k1 z1 k
theorem res_store2 {ops : Array Oper} {rest : List Oper} {o : Oper} {a : Act} {w W : World} {Q : Exit → Act → World → Prop} {b : Nat} (k : ResS w W b) (h : Hl) (hgd : o.guard = none) (x y : Operand) (ho : o.op = .store 34 x y) (c s : Int) (A : Option Addr) (n m : Nat)
    (hx : a.eval x = .pointer (some ⟨b + 1, 0, none⟩)) (hy : a.eval y = .agg #[.int .i64 c, .int .i64 s, .slice A n m])
    (kk : wpList Tryd.prog ops Q rest (a.put o.dst undef) ((W.setRow b (hlc h).toArray).setRow (b + 1) #[.int .i64 c, .int .i64 s, .slice A n m])) : wpList Tryd.prog ops Q (o :: rest) a (W.setRow b (hlc h).toArray) := by
  obtain ⟨o2, k2, z2⟩ := k.fb
  exact f_store hgd x y ho (b + 1) c s A n m hx hy 34 o2 (Blk.setRow_other8 k2 (show b + 1 ≠ b by omega) (hlc h).toArray) z2 kk

/-- Refused, with what the fault says. -/
def Refd (w : World) (s : Int) (A : Option Addr) (n c : Nat) (e : Ending) (w' : World) : Prop := e = .returned (.tuple #[.agg (hlc hl0).toArray, .agg #[.int .i64 2, .int .i64 s, .slice A n c], .bool false]) ∧ Below w.heap.size w w'
set_option maxHeartbeats 1000000 in
theorem refused_is (w : World) (s : Int) (A : Option Addr) (n c : Nat) : Calls Tryd.prog 41 #[.int .i64 s, .slice A n c] w (Refd w s A n c) := by
  have HS := Lib.hid (res_new w)
  go_enter Tryd.func41, Tryd.ntmps41
  go_wp2_with fail
  refine (fault_is _ s A n c).mono ?_
  generalize ((w.alloc (.cells #[.int .u32 0, .int .i64 0, .int .u32 0, .bool false, .bool false, .bool false] 24)).alloc (.cells #[.int .i64 0, .int .i64 0, .slice none 0 0] 34)) = w1 at *
  rintro e W ⟨rfl, hB⟩
  have HS2 := Lib.hid (HS.out.below hB)
  clear hB HS
  go_wp2_with (first
    | (refine res_store HS2.out rfl _ _ rfl hl0 rfl rfl ?_)
    | (refine res_store2 HS2.out hl0 rfl _ _ rfl 2 s A n c rfl rfl ?_))
  try simp only [Exit.inBlock, Exit.then]
  exact res_end rfl _ w W w.heap.size HS2.out hl0 2 s A n c _ rfl rfl rfl rfl (fun hb => ⟨rfl, hb⟩)
end Go.Proofs.YtgfjjkckamppoaaDoor
