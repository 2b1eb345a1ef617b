/-
  Layer 3 (frame): contracts of New, Waits, missing, look, finish.
-/
import Derived.Test.YtoiigalaijnoeaaFrC
import Derived.Deep.CutRange
import Derived.Deep.DeepCutAuto
import Derived.Deep.RegionHeld3
namespace Go.Proofs.Ytoiigalaijnoeaa
open Go.RowKit

theorem still_tail_any {P : Program} {id : Nat} {Q : Exit → Act → World → Prop} {a : Act} {w : World} {l : List Oper} (n : Nat) (hm : P.follows .mixedOrders = true) (hB : Region.lexTailB .any l.toArray n = true)
    (h : ∀ W, W = w.drewN 1 → wpStill P l.toArray W (fun a' => wpList P l.toArray Q (l.drop n) a' W) (l.take n) a) : (Code.region id l.toArray true).wp P Q a w :=
  wp_region_still_tail n hm hB (h _ rfl)

/-- A stream's block: what has come, its length, its fault, whether it is broken. -/
def StrB (w : World) (g : Nat) (cv : Value) (L code sub : Int) (dv : Value) (br : Bool) : Prop := Blk w g 59 #[cv, .int .i64 L, .int .i64 code, .int .i64 sub, dv, .bool br]

def NewS (w : World) (e : Ending) (w' : World) : Prop :=
  e = .returned (.pointer (some ⟨w.heap.size, 0, none⟩)) ∧ StrB w' w.heap.size (.slice none 0 0) 0 0 0 (.slice none 0 0) false ∧ Below w.heap.size w w' ∧ w'.heap.size = w.heap.size + 1

theorem newS_is (w : World) : Calls Try.prog 18 #[] w (NewS w) := by
  go_enter Try.func18, Try.ntmps18
  go_wp2
  go_ret
  exact ⟨rfl, Blk.new w _ _, (Below.refl _ _).alloc (Nat.le_refl _) _, by simp⟩

theorem waits_is (w : World) (g : Nat) (A : Option Addr) (n c : Nat) (L code sub : Int) (dv : Value) (br : Bool) (h : StrB w g (.slice A n c) L code sub dv br) :
    Calls Try.prog 26 #[.pointer (some ⟨g, 0, none⟩)] w fun e w' => e = .returned (.int .i64 n) ∧ w = w' := by
  have c0 : w.cell? ⟨g, 0, none⟩ = some (.slice A n c) := Blk.cell h 0
  clear h
  go_enter Try.func26, Try.ntmps26
  go_wp2
  go_ret
  exact ⟨rfl, rfl⟩

theorem missing_0 (w : World) (g : Nat) (A : Option Addr) (n c : Nat) (code sub : Int) (dv : Value) (br : Bool) (h : StrB w g (.slice A n c) 0 code sub dv br) (hn : n ≤ 5000) :
    Calls Try.prog 32 #[.pointer (some ⟨g, 0, none⟩)] w fun e w' => e = .returned (.int .i64 (19 - (n : Int))) ∧ ∃ k, w' = w.drewN k := by
  have c0 : w.cell? ⟨g, 0, none⟩ = some (.slice A n c) := Blk.cell h 0
  have c1 : w.cell? ⟨g, 1, none⟩ = some (.int .i64 0) := Blk.cell h 1
  clear h
  go_enter Try.func32, Try.ntmps32
  go_wp2
  go_ret
  exact ⟨rfl, 0, rfl⟩
theorem missing_1 (w : World) (g : Nat) (A : Option Addr) (n c : Nat) (L code sub : Int) (dv : Value) (br : Bool) (h : StrB w g (.slice A n c) L code sub dv br) (hn : n ≤ 5000) (hL : 19 ≤ L) (hL2 : L ≤ 5000) :
    Calls Try.prog 32 #[.pointer (some ⟨g, 0, none⟩)] w fun e w' => e = .returned (.int .i64 (L - (n : Int))) ∧ ∃ k, w' = w.drewN k := by
  have c0 : w.cell? ⟨g, 0, none⟩ = some (.slice A n c) := Blk.cell h 0
  have c1 : w.cell? ⟨g, 1, none⟩ = some (.int .i64 L) := Blk.cell h 1
  have e1 : (L == 0) = false := by simp; omega
  have e2 : IntKind.i64.wrap (L - (n : Int)) = L - (n : Int) := IntWalk.i64_in _ (by omega)
  clear h
  go_enter Try.func32, Try.ntmps32
  go_wp2
  go_quiet (fail)
  go_wp2
  go_ret
  exact ⟨rfl, nq, rfl⟩

/-- look's answer: the fault, or the length. -/
def Looked (w : World) (g : Nat) (A : Option Addr) (n c : Nat) (l : List Int) (e : Ending) (w' : World) : Prop :=
  e = .returned (.tuple #[]) ∧ w.grownBy w' (some g) ∧ match hdr l with
    | some f => ∃ A1 n1, StrB w' g (.slice none 0 0) 0 f.code f.sub (.slice A1 n1 n1) true ∧ Fresh w.heap.size w' A1 n1 f.data
    | none => ∃ dv, StrB w' g (.slice A n c) (lenI l) 0 0 dv false

theorem only_set1 {a w : World} {g : Nat} (h : a.grownBy w (some g)) (i : Nat) (u : Value) : a.grownBy (w.setCell ⟨g, i, none⟩ u) (some g) := only_setCell h (.inl rfl) u
theorem only_set4 {a w : World} {g : Nat} (h : a.grownBy w (some g)) (x y z u : Value) :
    a.grownBy ((((w.setCell ⟨g, 2, none⟩ x).setCell ⟨g, 3, none⟩ y).setCell ⟨g, 4, none⟩ z).setCell ⟨g, 5, none⟩ u) (some g) := only_set1 (only_set1 (only_set1 (only_set1 h 2 x) 3 y) 4 z) 5 u
theorem heap_far5 (w : World) (g i : Nat) (h : i ≠ g) (x y z u v : Value) : (((((w.setCell ⟨g, 2, none⟩ x).setCell ⟨g, 3, none⟩ y).setCell ⟨g, 4, none⟩ z).setCell ⟨g, 5, none⟩ u).setCell ⟨g, 0, none⟩ v).heap[i]? = w.heap[i]? := by
  rw [Below.heap_setCell _ _ _ _ (by exact h), Below.heap_setCell _ _ _ _ (by exact h), Below.heap_setCell _ _ _ _ (by exact h), Below.heap_setCell _ _ _ _ (by exact h), Below.heap_setCell _ _ _ _ (by exact h)]
theorem setCell6 {w : World} {g : Nat} {a b c d e f : Value} (h : Blk w g 59 #[a, b, c, d, e, f]) (x y z u : Value) :
    Blk ((((w.setCell ⟨g, 2, none⟩ x).setCell ⟨g, 3, none⟩ y).setCell ⟨g, 4, none⟩ z).setCell ⟨g, 5, none⟩ u) g 59 #[a, b, x, y, z, u] :=
  (((h.set_ 2 x).set_ 3 y).set_ 4 z).set_ 5 u

set_option maxHeartbeats 2000000 in
theorem look_bad (w : World) (g : Nat) (A : Option Addr) (n c : Nat) (l : List Int) (code sub : Int) (dv : Value) (br : Bool) (f : Flt) (h : StrB w g (.slice A n c) 0 code sub dv br) (hr : Rd w w.heap.size A n l) (hn : 19 ≤ n) (hnc : n ≤ c) (hm : n ≤ 5000)
    (hf : hdr l = some f) : Calls Try.prog 33 #[.pointer (some ⟨g, 0, none⟩)] w (Looked w g A n c l) := by
  have c0 : w.cell? ⟨g, 0, none⟩ = some (.slice A n c) := Blk.cell h 0
  have H := Lib.hid h
  have HR := Lib.hid hr
  have HF := Lib.hid hf
  have hg := Blk.lt h
  clear h hr hf
  go_enter Try.func33, Try.ntmps33
  go_wp2_with fail
  refine (headerFault_is w A n c l HR.out hn hnc (by omega)).mono ?_
  rintro e w1 ⟨v, rfl, hv, hb⟩
  rw [HF.out] at hv ⊢
  obtain ⟨A1, n1, rfl, hfr⟩ := hv
  have hB1 : StrB w1 g (.slice A n c) 0 code sub dv br := Blk.below H.out hb hg
  have d2 : w1.cell? ⟨g, 2, none⟩ = some (.int .i64 code) := Blk.cell hB1 2
  have d3 : w1.cell? ⟨g, 3, none⟩ = some (.int .i64 sub) := Blk.cell hB1 3
  have d4 : w1.cell? ⟨g, 4, none⟩ = some dv := Blk.cell hB1 4
  have d5 : w1.cell? ⟨g, 5, none⟩ = some (.bool br) := Blk.cell hB1 5
  have f2 : w1.frozen? ⟨g, 2, none⟩ = false := Blk.frozen hB1 2
  have f3 : w1.frozen? ⟨g, 3, none⟩ = false := Blk.frozen hB1 3
  have f4 : w1.frozen? ⟨g, 4, none⟩ = false := Blk.frozen hB1 4
  have f5 : w1.frozen? ⟨g, 5, none⟩ = false := Blk.frozen hB1 5
  have d0 : w1.cell? ⟨g, 0, none⟩ = some (.slice A n c) := Blk.cell hB1 0
  have f0 : w1.frozen? ⟨g, 0, none⟩ = false := Blk.frozen hB1 0
  have HB1 := Lib.hid hB1
  have HW := Lib.hid hb
  have HFR := Lib.hid hfr
  clear hB1 hb hfr
  go_wp2
  go_end0
  refine ⟨rfl, ?_, ?_⟩
  · exact only_set1 (only_set4 (only_of_below HW.out _) _ _ _ _) 0 _
  · rw [HF.out]
    refine ⟨A1, n1, Blk.set_ (setCell6 HB1.out _ _ _ _) 0 _, HFR.out.keep fun i hi _ => heap_far5 w1 g i (by omega) _ _ _ _ _⟩

set_option maxHeartbeats 2000000 in
theorem look_ok (w : World) (g : Nat) (A : Option Addr) (n c : Nat) (l : List Int) (code sub : Int) (dv : Value) (br : Bool) (h : StrB w g (.slice A n c) 0 code sub dv br) (hr : Rd w w.heap.size A n l) (hn : 19 ≤ n) (hnc : n ≤ c) (hm : n ≤ 5000)
    (hA : ∀ b off, A = some ⟨b, off, none⟩ → b ≠ g) (hf : hdr l = none) : Calls Try.prog 33 #[.pointer (some ⟨g, 0, none⟩)] w (Looked w g A n c l) := by
  have c0 : w.cell? ⟨g, 0, none⟩ = some (.slice A n c) := Blk.cell h 0
  have H := Lib.hid h
  have HR := Lib.hid hr
  have HF := Lib.hid hf
  have HA := Lib.hid hA
  have hg := Blk.lt h
  clear h hr hf hA
  go_enter Try.func33, Try.ntmps33
  go_wp2_with fail
  refine (headerFault_is w A n c l HR.out hn hnc (by omega)).mono ?_
  rintro e w1 ⟨v, rfl, hv, hb⟩
  rw [HF.out] at hv ⊢
  obtain ⟨A1, n1, rfl, hfr⟩ := hv
  have hB1 : StrB w1 g (.slice A n c) 0 code sub dv br := Blk.below H.out hb hg
  have d2 : w1.cell? ⟨g, 2, none⟩ = some (.int .i64 code) := Blk.cell hB1 2
  have d3 : w1.cell? ⟨g, 3, none⟩ = some (.int .i64 sub) := Blk.cell hB1 3
  have d4 : w1.cell? ⟨g, 4, none⟩ = some dv := Blk.cell hB1 4
  have d5 : w1.cell? ⟨g, 5, none⟩ = some (.bool br) := Blk.cell hB1 5
  have f2 : w1.frozen? ⟨g, 2, none⟩ = false := Blk.frozen hB1 2
  have f3 : w1.frozen? ⟨g, 3, none⟩ = false := Blk.frozen hB1 3
  have f4 : w1.frozen? ⟨g, 4, none⟩ = false := Blk.frozen hB1 4
  have f5 : w1.frozen? ⟨g, 5, none⟩ = false := Blk.frozen hB1 5
  have d0 : w1.cell? ⟨g, 0, none⟩ = some (.slice A n c) := Blk.cell hB1 0
  have HB2 := Lib.hid (setCell6 hB1 (.int .i64 0) (.int .i64 0) (.slice A1 n1 n1) (.bool false))
  have HO2 := Lib.hid (only_set4 (only_of_below hb (some g)) (.int .i64 0) (.int .i64 0) (.slice A1 n1 n1) (.bool false))
  clear hB1 hb hfr
  go_wp2_with fail
  generalize (((w1.setCell ⟨g, 2, none⟩ (.int .i64 0)).setCell ⟨g, 3, none⟩ (.int .i64 0)).setCell ⟨g, 4, none⟩ (.slice A1 n1 n1)).setCell ⟨g, 5, none⟩ (.bool false) = w2 at *
  have HR2 : Hid (Rd w2 w.heap.size A n l) := Lib.hid (HR.out.apart HO2.out (Nat.le_refl _) HA.out)
  clear d0 d2 d3 d4 d5 f2 f3 f4 f5 c0
  refine (lengthOf_is w2 w.heap.size A n c l HR2.out hn (by omega)).mono ?_
  rintro e w3 ⟨rfl, k, rfl⟩
  have d1 : w2.cell? ⟨g, 1, none⟩ = some (.int .i64 0) := Blk.cell HB2.out 1
  have f1 : w2.frozen? ⟨g, 1, none⟩ = false := Blk.frozen HB2.out 1
  go_wp2
  go_end0
  refine ⟨rfl, only_setCell (only_drewN HO2.out k) (.inl rfl) _, ?_⟩
  rw [HF.out]
  exact ⟨_, Blk.set_ (w := w2.drewN k) HB2.out 1 _⟩

theorem look_is (w : World) (g : Nat) (A : Option Addr) (n c : Nat) (l : List Int) (code sub : Int) (dv : Value) (br : Bool) (h : StrB w g (.slice A n c) 0 code sub dv br) (hr : Rd w w.heap.size A n l) (hn : 19 ≤ n) (hnc : n ≤ c) (hm : n ≤ 5000)
    (hA : ∀ b off, A = some ⟨b, off, none⟩ → b ≠ g) : Calls Try.prog 33 #[.pointer (some ⟨g, 0, none⟩)] w (Looked w g A n c l) := by
  cases hf : hdr l with
  | some f => exact look_bad w g A n c l code sub dv br f h hr hn hnc hm hf
  | none => exact look_ok w g A n c l code sub dv br h hr hn hnc hm hA hf

/-- finish's answer: the message, its body in new memory; nothing is left. -/
def Finished (w : World) (g : Nat) (l : List Int) (code sub : Int) (dv : Value) (e : Ending) (w' : World) : Prop :=
  ∃ A1, e = .returned (.agg #[.int .i64 (kindI l), .slice A1 (l.length - 19) (l.length - 19)]) ∧ Fresh w.heap.size w' A1 (l.length - 19) (l.drop 19) ∧ w.grownBy w' (some g) ∧ StrB w' g (.slice none 0 0) 0 code sub dv false

theorem kindOf_still (w : World) (B : Nat) (A : Option Addr) (n c : Nat) (l : List Int) (h : Rd w B A n l) (hn : 19 ≤ n) (hm : n ≤ 140737488355328) :
    Calls Try.prog 39 #[.slice A n c] w fun e w' => e = .returned (.int .i64 (kindI l)) ∧ w' = w :=
  (kindOf_is w B A n c l h hn hm).mono fun _ _ ⟨a, b⟩ => ⟨a, b.symm⟩

theorem below_set2 {B v : Nat} {a w : World} (h : Below B a w) (hv : B ≤ v) (x y : Value) : Below B a ((w.setCell ⟨v, 0, none⟩ x).setCell ⟨v, 1, none⟩ y) := (h.setCell (p := ⟨v, 0, none⟩) hv x).setCell (p := ⟨v, 1, none⟩) hv y
/-- A message in a variable of its own. -/
def Boxed (w1 : World) (k : Int) (l : List Int) (s : Value) (wx : World) : Prop :=
  ∃ v A1, s = .pointer (some ⟨v, 0, none⟩) ∧ w1.heap.size ≤ v ∧ Blk wx v 24 #[.int .i64 k, .slice A1 l.length l.length] ∧ Fresh w1.heap.size wx A1 l.length l ∧ Below w1.heap.size w1 wx
theorem boxed_new {w1 w2 : World} {k : Int} {l : List Int} {A1 : Option Addr} (hf : Fresh w1.heap.size w2 A1 l.length l) (hb : Below w1.heap.size w1 w2) :
    Boxed w1 k l (.pointer (some ⟨w2.heap.size, 0, none⟩)) (w2.alloc (.cells #[.int .i64 k, .slice A1 l.length l.length] 24)) :=
  ⟨_, A1, rfl, hb.size, Blk.new _ _ _, hf.keep fun _ _ hi => Below.heap_alloc _ _ _ hi, hb.alloc hb.size _⟩
theorem boxed_set {w1 w2 : World} {v : Nat} {x y : Value} {k : Int} {l : List Int} {A1 : Option Addr} (hv : w1.heap.size ≤ v) (hB : Blk w2 v 24 #[x, y]) (hf : Fresh w1.heap.size w2 A1 l.length l) (hb : Below w1.heap.size w1 w2) :
    Boxed w1 k l (.pointer (some ⟨v, 0, none⟩)) ((w2.setCell ⟨v, 0, none⟩ (.int .i64 k)).setCell ⟨v, 1, none⟩ (.slice A1 l.length l.length)) := by
  refine ⟨_, A1, rfl, hv, (hB.set_ 0 _).set_ 1 _, ⟨hf.1, hf.2.1, hf.2.2.imp id ?_⟩, (hb.setCell hv _).setCell hv _⟩
  rintro ⟨g, a, b, c⟩
  have hne : g ≠ v := by
    rintro rfl
    unfold Byt at c
    unfold Blk at hB
    rw [hB] at c
    injection c with c
    injection c with c1 c2
    exact absurd c2 (by decide)
  exact ⟨g, a, b, (c.far (by exact hne) _).far (by exact hne) _⟩

set_option maxHeartbeats 4000000 in
theorem finish_is (w : World) (g : Nat) (A : Option Addr) (n c : Nat) (l : List Int) (L code sub : Int) (dv : Value) (h : StrB w g (.slice A n c) L code sub dv false) (hr : Rd w w.heap.size A n l) (hn : 19 ≤ n) (hnc : n ≤ c) (hm : n ≤ 5000) :
    Calls Try.prog 34 #[.pointer (some ⟨g, 0, none⟩)] w (Finished w g l code sub dv) := by
  have hlen := Lib.hid hr.len
  obtain ⟨b, off, rfl, hbb, _⟩ := hr.at_ (by omega)
  have hg := Blk.lt h
  have HM0 := Lib.hid (Blk.new w 24 #[.int .i64 0, .slice none 0 0])
  have HB0 := Lib.hid (Blk.alloc h (.cells #[.int .i64 0, .slice none 0 0] 24))
  have HW0 := Lib.hid ((Below.refl w.heap.size w).alloc (Nat.le_refl _) (.cells #[.int .i64 0, .slice none 0 0] 24))
  have hs1 : w.heap.size < (w.alloc (.cells #[.int .i64 0, .slice none 0 0] 24)).heap.size := by simp
  have HR := Lib.hid hr
  clear h hr
  go_enter Try.func34, Try.ntmps34
  go_upto_region 1 with fail
  generalize w.alloc (.cells #[.int .i64 0, .slice none 0 0] 24) = w1 at *
  have HC : Hid (∀ W, Below w1.heap.size w1 W → W.cell? ⟨g, 0, none⟩ = some (.slice (some ⟨b, off, none⟩) n c)) := Lib.hid fun W hW => (hW.cell (p := ⟨g, 0, none⟩) (by show g < _; omega)).trans (Blk.cell HB0.out 0)
  have HRd : Hid (∀ W, Below w1.heap.size w1 W → Rd W W.heap.size (some ⟨b, off, none⟩) n l) := Lib.hid fun W hW => ((HR.out.below (HW0.out.trans (hW.mono (by omega)))).more (by have := hW.size; omega))
  obtain ⟨A', hA', HCt⟩ : ∃ A' : Option Addr, (if c = 19 then some (⟨b, off, none⟩ : Addr) else some ⟨b, off + 19, none⟩) = A' ∧ Hid (∀ W, Below w1.heap.size w1 W → Rd W W.heap.size A' (l.drop 19).length (l.drop 19)) := by
    refine ⟨_, rfl, Lib.hid fun W hW => ?_⟩
    have h1 := (HRd.out W hW).cut (k := 19) (m := n - 19) (by omega) hnc
    rw [List.take_of_length_le (by have := hlen.out; simp; omega)] at h1
    have e : (if c = 19 then some (⟨b, off, none⟩ : Addr) else (some (⟨b, off, none⟩ : Addr)).map (fun x => x.add 19)) = (if c = 19 then some (⟨b, off, none⟩ : Addr) else some ⟨b, off + 19, none⟩) := by
      split
      · rfl
      · simp [Addr.add]
    rw [e] at h1
    rwa [show (l.drop 19).length = n - 19 from by have := hlen.out; simp; omega]
  have hdl : n - 19 = (l.drop 19).length := by have := hlen.out; simp; omega
  have hdm : (l.drop 19).length ≤ 5000 := by omega
  have hnI : (19 : Int) ≤ (n : Int) := by omega
  generalize hD : l.drop 19 = D at *
  have HD := Lib.hid hD
  generalize hKv : kindI l = k at *
  have HKv := Lib.hid hKv
  clear hD hKv
  go_cut [3] (fun s3 wx => Boxed w1 k D s3 wx)
  case first =>
    refine wp_region_held_drew (S := fun W => Below w1.heap.size w1 W) (by kernel_rfl) (below_drewN (Below.refl _ w1) 1) (fun hS => ?_)
    refine wpAnyH_take (i := 0) (oi := ⟨some 4, _, _, _, _, _⟩) (v := ?_) rfl (by kernel_rfl) (by kernel_rfl) (by kernel_rfl) (fun _ _ _ h => h) (Or.inl ⟨by rfl, ?_⟩) hS ?_
    rotate_left
    · intro wq hq
      first | (go_simp; done) | (go_simp; rfl)
    try simp only [Act.put, List.setIfInBounds_toArray, List.set_cons_zero, List.set_cons_succ]
    refine wpAnyH_take (i := 1) (oi := ⟨some 5, _, _, _, _, _⟩) (v := ?_) rfl (by kernel_rfl) (by kernel_rfl) (by kernel_rfl) (fun _ _ _ h => h) (Or.inl ⟨by rfl, ?_⟩) hS ?_
    rotate_left
    · intro wq hq
      first | (go_simp; done) | (go_simp; rfl)
    try simp only [Act.put, List.setIfInBounds_toArray, List.set_cons_zero, List.set_cons_succ]
    refine wpAnyH_take (i := 2) (oi := ⟨some 6, _, _, _, _, _⟩) (v := ?_) rfl (by kernel_rfl) (by kernel_rfl) (by kernel_rfl) (fun _ _ _ h => h) (Or.inl ⟨by rfl, ?_⟩) hS ?_
    rotate_left
    · intro wq hq
      first | (go_simp; done) | (go_simp; rfl)
    try simp only [Act.put, List.setIfInBounds_toArray, List.set_cons_zero, List.set_cons_succ]
    refine wpAnyH_take (i := 3) (oi := ⟨some 7, _, _, _, _, _⟩) (v := ?_) rfl (by kernel_rfl) (by kernel_rfl) (by kernel_rfl) (fun _ _ _ h => h) (Or.inl ⟨by rfl, ?_⟩) hS ?_
    rotate_left
    · intro wq hq
      have hc := HC.out wq hq
      first | (go_simp; done) | (go_simp; rfl)
    try simp only [Act.put, List.setIfInBounds_toArray, List.set_cons_zero, List.set_cons_succ]
    refine wpAnyH_take (i := 5) (oi := ⟨some 9, _, _, _, _, _⟩) (v := ?_) rfl (by kernel_rfl) (by kernel_rfl) (by kernel_rfl) (fun _ _ _ h => h) (Or.inl ⟨by rfl, ?_⟩) hS ?_
    rotate_left
    · intro wq hq
      first | (go_simp; done) | (go_simp; rfl)
    try simp only [Act.put, List.setIfInBounds_toArray, List.set_cons_zero, List.set_cons_succ]
    refine wpAnyH_take (i := 6) (oi := ⟨some 10, _, _, _, _, _⟩) (v := ?_) rfl (by kernel_rfl) (by kernel_rfl) (by kernel_rfl) (fun _ _ _ h => h) (Or.inl ⟨by rfl, ?_⟩) hS ?_
    rotate_left
    · intro wq hq
      first | (go_simp; done) | (go_simp; rfl)
    try simp only [Act.put, List.setIfInBounds_toArray, List.set_cons_zero, List.set_cons_succ]
    refine wpAnyH_take (i := 7) (oi := ⟨some 11, _, _, _, _, _⟩) (v := ?_) rfl (by kernel_rfl) (by kernel_rfl) (by kernel_rfl) (fun _ _ _ h => h) (Or.inl ⟨by rfl, ?_⟩) hS ?_
    rotate_left
    · intro wq hq
      first | (go_simp; done) | (go_simp; rfl)
    try simp only [Act.put, List.setIfInBounds_toArray, List.set_cons_zero, List.set_cons_succ]
    refine wpAnyH_take (i := 8) (oi := ⟨some 12, _, _, _, _, _⟩) (v := ?_) rfl (by kernel_rfl) (by kernel_rfl) (by kernel_rfl) (fun _ _ _ h => h) (Or.inl ⟨by rfl, ?_⟩) hS ?_
    rotate_left
    · intro wq hq
      have hc := HC.out wq hq
      first | (go_simp; done) | (go_simp; rfl)
    try simp only [Act.put, List.setIfInBounds_toArray, List.set_cons_zero, List.set_cons_succ]
    refine wpAnyH_take (i := 9) (oi := ⟨some 13, _, _, _, _, _⟩) (v := ?_) rfl (by kernel_rfl) (by kernel_rfl) (by kernel_rfl) (fun _ _ _ h => h) (Or.inl ⟨by rfl, ?_⟩) hS ?_
    rotate_left
    · intro wq hq
      first | (go_simp; done) | (go_simp; rfl)
    try simp only [Act.put, List.setIfInBounds_toArray, List.set_cons_zero, List.set_cons_succ]
    refine wpAnyH_ready (rs := [4, 12]) (by kernel_rfl) (by simp) ?_
    refine AllReadyH.cons (o := ⟨some 8, _, _, _, _, _⟩) rfl (fun K hK => ?_) (AllReadyH.cons (o := ⟨some 3, _, _, _, _, _⟩) rfl (fun K hK => ?_) AllReadyH.nil)
    · rw [if_pos (by rfl)]
      go_wp2_with fail
      refine (kindOf_is _ _ _ n c l (HRd.out _ hS) hn (by omega)).mono ?_
      rintro e' w' ⟨rfl, rfl⟩
      rw [HKv.out]
      have hS1 := hS
      refine hK.out _ _ hS1 (fun hS => ?_)
      clear hK K hS1
      try simp only [Act.put, List.setIfInBounds_toArray, List.set_cons_zero, List.set_cons_succ]
      refine wpAnyH_ready (rs := [10, 12]) (by kernel_rfl) (by simp) ?_
      refine AllReadyH.cons (o := ⟨some 14, _, _, _, _, _⟩) rfl (fun K hK => ?_) (AllReadyH.cons (o := ⟨some 3, _, _, _, _, _⟩) rfl (fun K hK => ?_) AllReadyH.nil)
      · rw [if_pos (by rfl)]
        go_wp2_with fail
        refine (fcopied_is _ A' D.length (c - 19) D (HCt.out _ hS) (by omega)).mono ?_
        rintro e' w2 ⟨A1, rfl, hf, hb⟩
        have hF2 : Fresh w1.heap.size w2 A1 D.length D := hf.more hS.size
        have hS2 : Below w1.heap.size w1 w2 := hS.trans (hb.mono hS.size)
        refine hK.out _ _ hS2 (fun hS => ?_)
        clear hK K
        try simp only [Act.put, List.setIfInBounds_toArray, List.set_cons_zero, List.set_cons_succ]
        refine wpAnyH_take (i := 11) (oi := ⟨some 15, _, _, _, _, _⟩) (v := ?_) rfl (by kernel_rfl) (by kernel_rfl) (by kernel_rfl) (fun _ _ _ h => h) (Or.inl ⟨by rfl, ?_⟩) hS ?_
        rotate_left
        · intro wq hq
          first | (go_simp; done) | (go_simp; rfl)
        try simp only [Act.put, List.setIfInBounds_toArray, List.set_cons_zero, List.set_cons_succ]
        refine wpAnyH_ready (rs := [12]) (by kernel_rfl) (by simp) ?_
        refine AllReadyH.cons (o := ⟨some 3, _, _, _, _, _⟩) rfl (fun K hK => ?_) AllReadyH.nil
        rw [if_pos (by rfl)]
        go_wp2
        refine hK.out _ _ (hS2.alloc hS2.size _) (fun hS => ?_)
        clear hK K
        try simp only [Act.put, List.setIfInBounds_toArray, List.set_cons_zero, List.set_cons_succ]
        refine wpAnyH_ready (rs := [13]) (by kernel_rfl) (by simp) ?_
        refine AllReadyH.cons (o := ⟨none, _, _, _, _, _⟩) rfl (fun K hK => ?_) AllReadyH.nil
        rw [if_pos (by rfl)]
        go_wp2
        refine hK.out _ _ (hS2.alloc hS2.size _) (fun hS => ?_)
        clear hK K
        try simp only [Act.put, List.setIfInBounds_toArray, List.set_cons_zero, List.set_cons_succ]
        refine wpAnyH_done (by kernel_rfl) ?_ _
        go_wp2_with fail
        go_meet
        exact boxed_new hF2 hS2
      · rw [if_pos (by rfl)]
        go_wp2
        have hv : Blk (w1.drew.alloc (.cells #[.int .i64 0, .slice none 0 0] 24)) w1.heap.size 24 #[.int .i64 0, .slice none 0 0] := Blk.new w1.drew _ _
        have hSa : Below w1.heap.size w1 (w1.drew.alloc (.cells #[.int .i64 0, .slice none 0 0] 24)) := hS.alloc (Nat.le_refl _) _
        refine hK.out _ _ hSa (fun hS => ?_)
        clear hK K hSa
        try simp only [Act.put, List.setIfInBounds_toArray, List.set_cons_zero, List.set_cons_succ]
        refine wpAnyH_ready (rs := [10]) (by kernel_rfl) (by simp) ?_
        refine AllReadyH.cons (o := ⟨some 14, _, _, _, _, _⟩) rfl (fun K hK => ?_) AllReadyH.nil
        rw [if_pos (by rfl)]
        go_wp2_with fail
        refine (fcopied_is _ A' D.length (c - 19) D (HCt.out _ hS) (by omega)).mono ?_
        rintro e' w2 ⟨A1, rfl, hf, hb⟩
        have hF2 : Fresh w1.heap.size w2 A1 D.length D := hf.more hS.size
        have hS2 : Below w1.heap.size w1 w2 := hS.trans (hb.mono hS.size)
        have hv2 : Blk w2 w1.heap.size 24 #[.int .i64 0, .slice none 0 0] := hv.below hb (by simp)
        have m0 : w2.cell? ⟨w1.heap.size, 0, none⟩ = some (.int .i64 0) := hv2.cell 0
        have m1 : w2.cell? ⟨w1.heap.size, 1, none⟩ = some (.slice none 0 0) := hv2.cell 1
        have k0 : w2.frozen? ⟨w1.heap.size, 0, none⟩ = false := hv2.frozen 0
        have k1 : w2.frozen? ⟨w1.heap.size, 1, none⟩ = false := hv2.frozen 1
        refine hK.out _ _ hS2 (fun hS => ?_)
        clear hK K
        try simp only [Act.put, List.setIfInBounds_toArray, List.set_cons_zero, List.set_cons_succ]
        refine wpAnyH_take (i := 11) (oi := ⟨some 15, _, _, _, _, _⟩) (v := ?_) rfl (by kernel_rfl) (by kernel_rfl) (by kernel_rfl) (fun _ _ _ h => h) (Or.inl ⟨by rfl, ?_⟩) hS ?_
        rotate_left
        · intro wq hq
          first | (go_simp; done) | (go_simp; rfl)
        try simp only [Act.put, List.setIfInBounds_toArray, List.set_cons_zero, List.set_cons_succ]
        refine wpAnyH_ready (rs := [13]) (by kernel_rfl) (by simp) ?_
        refine AllReadyH.cons (o := ⟨none, _, _, _, _, _⟩) rfl (fun K hK => ?_) AllReadyH.nil
        rw [if_pos (by rfl)]
        go_wp2
        refine hK.out _ _ (below_set2 hS2 (Nat.le_refl _) _ _) (fun hS => ?_)
        clear hK K
        try simp only [Act.put, List.setIfInBounds_toArray, List.set_cons_zero, List.set_cons_succ]
        refine wpAnyH_done (by kernel_rfl) ?_ _
        go_wp2_with fail
        go_meet
        exact boxed_set (Nat.le_refl _) hv2 hF2 hS2
    · rw [if_pos (by rfl)]
      go_wp2
      have hv : Blk (w1.drew.alloc (.cells #[.int .i64 0, .slice none 0 0] 24)) w1.heap.size 24 #[.int .i64 0, .slice none 0 0] := Blk.new w1.drew _ _
      have hSa : Below w1.heap.size w1 (w1.drew.alloc (.cells #[.int .i64 0, .slice none 0 0] 24)) := hS.alloc (Nat.le_refl _) _
      refine hK.out _ _ hSa (fun hS => ?_)
      clear hK K hSa
      try simp only [Act.put, List.setIfInBounds_toArray, List.set_cons_zero, List.set_cons_succ]
      refine wpAnyH_ready (rs := [4]) (by kernel_rfl) (by simp) ?_
      refine AllReadyH.cons (o := ⟨some 8, _, _, _, _, _⟩) rfl (fun K hK => ?_) AllReadyH.nil
      rw [if_pos (by rfl)]
      go_wp2_with fail
      refine (kindOf_is _ _ _ n c l (HRd.out _ hS) hn (by omega)).mono ?_
      rintro e' w' ⟨rfl, rfl⟩
      rw [HKv.out]
      have hS1 := hS
      refine hK.out _ _ hS1 (fun hS => ?_)
      clear hK K hS1
      try simp only [Act.put, List.setIfInBounds_toArray, List.set_cons_zero, List.set_cons_succ]
      refine wpAnyH_ready (rs := [10]) (by kernel_rfl) (by simp) ?_
      refine AllReadyH.cons (o := ⟨some 14, _, _, _, _, _⟩) rfl (fun K hK => ?_) AllReadyH.nil
      rw [if_pos (by rfl)]
      go_wp2_with fail
      refine (fcopied_is _ A' D.length (c - 19) D (HCt.out _ hS) (by omega)).mono ?_
      rintro e' w2 ⟨A1, rfl, hf, hb⟩
      have hF2 : Fresh w1.heap.size w2 A1 D.length D := hf.more hS.size
      have hS2 : Below w1.heap.size w1 w2 := hS.trans (hb.mono hS.size)
      have hv2 : Blk w2 w1.heap.size 24 #[.int .i64 0, .slice none 0 0] := hv.below hb (by simp)
      have m0 : w2.cell? ⟨w1.heap.size, 0, none⟩ = some (.int .i64 0) := hv2.cell 0
      have m1 : w2.cell? ⟨w1.heap.size, 1, none⟩ = some (.slice none 0 0) := hv2.cell 1
      have k0 : w2.frozen? ⟨w1.heap.size, 0, none⟩ = false := hv2.frozen 0
      have k1 : w2.frozen? ⟨w1.heap.size, 1, none⟩ = false := hv2.frozen 1
      refine hK.out _ _ hS2 (fun hS => ?_)
      clear hK K
      try simp only [Act.put, List.setIfInBounds_toArray, List.set_cons_zero, List.set_cons_succ]
      refine wpAnyH_take (i := 11) (oi := ⟨some 15, _, _, _, _, _⟩) (v := ?_) rfl (by kernel_rfl) (by kernel_rfl) (by kernel_rfl) (fun _ _ _ h => h) (Or.inl ⟨by rfl, ?_⟩) hS ?_
      rotate_left
      · intro wq hq
        first | (go_simp; done) | (go_simp; rfl)
      try simp only [Act.put, List.setIfInBounds_toArray, List.set_cons_zero, List.set_cons_succ]
      refine wpAnyH_ready (rs := [13]) (by kernel_rfl) (by simp) ?_
      refine AllReadyH.cons (o := ⟨none, _, _, _, _, _⟩) rfl (fun K hK => ?_) AllReadyH.nil
      rw [if_pos (by rfl)]
      go_wp2
      refine hK.out _ _ (below_set2 hS2 (Nat.le_refl _) _ _) (fun hS => ?_)
      clear hK K
      try simp only [Act.put, List.setIfInBounds_toArray, List.set_cons_zero, List.set_cons_succ]
      refine wpAnyH_done (by kernel_rfl) ?_ _
      go_wp2_with fail
      go_meet
      exact boxed_set (Nat.le_refl _) hv2 hF2 hS2
  case rest =>
    obtain ⟨v, A1, rfl, hv, hB, hF, hBl⟩ := hcut
    have hS : StrB wc g (.slice (some ⟨b, off, none⟩) n c) L code sub dv false := Blk.below HB0.out hBl (by omega)
    have hM : Blk wc w.heap.size 24 #[.int .i64 0, .slice none 0 0] := Blk.below HM0.out hBl (by omega)
    have c0 : wc.cell? ⟨g, 0, none⟩ = some (.slice (some ⟨b, off, none⟩) n c) := Blk.cell hS 0
    have c1 : wc.cell? ⟨g, 1, none⟩ = some (.int .i64 L) := Blk.cell hS 1
    have f0 : wc.frozen? ⟨g, 0, none⟩ = false := Blk.frozen hS 0
    have f1 : wc.frozen? ⟨g, 1, none⟩ = false := Blk.frozen hS 1
    have m0 : wc.cell? ⟨v, 0, none⟩ = some (.int .i64 k) := Blk.cell hB 0
    have m1 : wc.cell? ⟨v, 1, none⟩ = some (.slice A1 D.length D.length) := Blk.cell hB 1
    have r0 : wc.cell? ⟨w.heap.size, 0, none⟩ = some (.int .i64 0) := Blk.cell hM 0
    have r1 : wc.cell? ⟨w.heap.size, 1, none⟩ = some (.slice none 0 0) := Blk.cell hM 1
    have s0 : wc.frozen? ⟨w.heap.size, 0, none⟩ = false := Blk.frozen hM 0
    have s1 : wc.frozen? ⟨w.heap.size, 1, none⟩ = false := Blk.frozen hM 1
    have n1 : g ≠ v := by omega
    have n2 : v ≠ g := by omega
    have n3 : g ≠ w.heap.size := by omega
    have n4 : v ≠ w.heap.size := by omega
    have n5 : w.heap.size ≠ v := by omega
    have n6 : w.heap.size ≠ g := by omega
    have HS := Lib.hid hS
    have HF := Lib.hid hF
    have HBl := Lib.hid hBl
    clear hS hM hB hF hBl hA' hdl
    go_wp2
    refine bodyPost_ret (v := .agg #[.int .i64 k, .slice A1 D.length D.length]) (by simp [results, Try.results34, go_sem, r0, r1]) rfl ?_
    have hDl : l.length - 19 = D.length := by rw [← HD.out]; simp
    refine ⟨A1, by rw [HKv.out, hDl], ?_, ?_, ?_⟩
    · rw [hDl, HD.out]
      exact (HF.out.keep fun i hi _ => by
        rw [Below.heap_setCell _ _ _ _ (by show i ≠ w.heap.size; omega), Below.heap_setCell _ _ _ _ (by show i ≠ w.heap.size; omega), Below.heap_setCell _ _ _ _ (by show i ≠ g; omega), Below.heap_setCell _ _ _ _ (by show i ≠ g; omega)]).more (by omega)
    · have h1 : w.grownBy wc (some g) := only_of_below (HW0.out.trans (HBl.out.mono (by omega))) _
      exact only_setCell (only_setCell (only_set1 (only_set1 h1 0 _) 1 _) (p := ⟨w.heap.size, 0, none⟩) (.inr (Nat.le_refl _)) _) (p := ⟨w.heap.size, 1, none⟩) (.inr (Nat.le_refl _)) _
    · exact Blk.far (Blk.far (Blk.set_ (Blk.set_ HS.out 0 _) 1 _) (p := ⟨w.heap.size, 0, none⟩) n3 _) (p := ⟨w.heap.size, 1, none⟩) n3 _
end Go.Proofs.Ytoiigalaijnoeaa
