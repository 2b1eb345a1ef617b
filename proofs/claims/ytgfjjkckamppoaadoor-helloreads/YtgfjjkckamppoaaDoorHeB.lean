/-
  Layer 8: part, isRight.
-/
import Derived.Test.YtgfjjkckamppoaaDoorHeA
namespace Go.Proofs.YtgfjjkckamppoaaDoor
open Go.RowKit
set_option maxRecDepth 100000
set_option linter.unusedSimpArgs false
set_option linter.unusedVariables false

/-- Slices of bytes that read as ls. -/
def RdAll (W : World) (B : Nat) : List (Option Addr × Nat × Nat) → List (List Int) → Prop
  | [], [] => True
  | v :: vs, l :: ls => Rd W B v.1 v.2.1 l ∧ RdAll W B vs ls
  | _, _ => False
theorem RdAll.len {W : World} {B : Nat} : ∀ {vs : List (Option Addr × Nat × Nat)} {ls : List (List Int)}, RdAll W B vs ls → vs.length = ls.length
  | [], [], _ => rfl
  | _ :: _, _ :: _, h => by simp [RdAll.len h.2]
  | [], _ :: _, h => h.elim
  | _ :: _, [], h => h.elim
theorem RdAll.get {W : World} {B : Nat} : ∀ {vs : List (Option Addr × Nat × Nat)} {ls : List (List Int)}, RdAll W B vs ls → ∀ i (h : i < ls.length), ∃ A n c, vs[i]? = some (A, n, c) ∧ Rd W B A n ls[i]
  | [], [], _, i, h => by simp at h
  | v :: vs, l :: ls, h, 0, _ => ⟨v.1, v.2.1, v.2.2, rfl, h.1⟩
  | v :: vs, l :: ls, h, i + 1, hi => by
    obtain ⟨A, n, c, h1, h2⟩ := RdAll.get h.2 i (by simpa using hi)
    exact ⟨A, n, c, by simpa using h1, by simpa using h2⟩
  | [], _ :: _, h, _, _ => h.elim
  | _ :: _, [], h, _, _ => h.elim
/-- A new row of them, at the address as the walk spells it. -/
theorem rdl_new_at {W : World} {vs : List (Option Addr × Nat × Nat)} {ls : List (List Int)} (h : RdAll W W.heap.size vs ls) (t : TypeId) (cs : Array Value) (hcs : cs = (vs.map fun v => Value.slice v.1 v.2.1 v.2.2).toArray) (g : Nat) (hg : g = W.heap.size) :
    RdL (W.alloc (.cells cs t)) (W.alloc (.cells cs t)).heap.size (some ⟨g, 0, none⟩) ls.length ls := by
  subst hg
  have hb : Below W.heap.size W (W.alloc (.cells cs t)) := (Below.refl _ _).alloc (Nat.le_refl _) _
  have hB := Blk.new W t cs
  refine ⟨rfl, fun _ => ⟨W.heap.size, 0, rfl, by simp, fun i hi => ?_⟩⟩
  obtain ⟨A, n, c, h1, h2⟩ := h.get i hi
  refine ⟨A, n, c, ?_, (h2.below hb).more (by simp)⟩
  rw [Nat.zero_add, hB.cell, hcs]
  simp [h1]
theorem byt2_rd (W : World) (x y : Int) (h : Oct [x, y]) : Rd (W.alloc (.cells #[.int .u8 x, .int .u8 y] 5)) (W.alloc (.cells #[.int .u8 x, .int .u8 y] 5)).heap.size (some ⟨W.heap.size, 0, none⟩) 2 [x, y] := by
  have hb : Byt (W.alloc (.cells #[.int .u8 x, .int .u8 y] 5)) W.heap.size 5 [x, y] := Blk.new W 5 #[.int .u8 x, .int .u8 y]
  exact hb.rd_all h (by simp)
theorem oct2 {x y : Int} (hx : 0 ≤ x ∧ x < 256) (hy : 0 ≤ y ∧ y < 256) : Oct [x, y] := fun z hz => by
  simp only [List.mem_cons, List.mem_nil_iff, or_false] at hz
  rcases hz with rfl | rfl
  · exact hx
  · exact hy

set_option maxHeartbeats 1000000 in
theorem part_is (w : World) (k : Int) (hk : 0 ≤ k ∧ k < 256) (A : Option Addr) (n c : Nat) (l : List Int) (hr : Rd w w.heap.size A n l) (hn : n ≤ 255) : Calls Tryd.prog 56 #[.int .u8 k, .slice A n c] w fun e w' => ∃ v, e = .returned v ∧ OwnB w.heap.size w' v (k :: (n : Int) :: l) ∧ Below w.heap.size w w' := by
  have hb2 := byt2_rd w k n (oct2 hk (by omega))
  have HLd : Hid (RdL ((w.alloc (.cells #[.int .u8 k, .int .u8 (n : Int)] 5)).alloc (.cells #[.slice (some ⟨w.heap.size, 0, none⟩) 2 2, .slice A n c] 25)) ((w.alloc (.cells #[.int .u8 k, .int .u8 (n : Int)] 5)).alloc (.cells #[.slice (some ⟨w.heap.size, 0, none⟩) 2 2, .slice A n c] 25)).heap.size (some ⟨w.heap.size + 1, 0, none⟩) 2 [[k, (n : Int)], l]) := Lib.hid (rdl_new_at (W := w.alloc (.cells #[.int .u8 k, .int .u8 (n : Int)] 5)) (vs := [(some ⟨w.heap.size, 0, none⟩, 2, 2), (A, n, c)]) (ls := [[k, (n : Int)], l]) ⟨hb2, (hr.below (below_one8 _ _)).more (below_one8 _ _).size, trivial⟩ 25 _ rfl _ (by simp))
  have hlen := hr.len
  have h256 : (n : Int) < 256 := by omega
  have h255 : (0 : Int) ≤ (n : Int) := by omega
  clear hr hb2
  go_enter Tryd.func56, Tryd.ntmps56
  go_wp2_with fail
  refine (concat_is _ _ 2 2 _ HLd.out (by omega) (by simp; omega)).mono ?_
  rintro e w9 ⟨v, rfl, hO, hB9⟩
  have hfl : ([[k, (n : Int)], l] : List (List Int)).flatten = k :: (n : Int) :: l := by simp
  rw [hfl] at hO
  have HO := Lib.hid (hO.low (lo' := w.heap.size) (by simp; omega))
  have HB9 := Lib.hid ((below_one8 w (.cells #[.int .u8 k, .int .u8 (n : Int)] 5)).trans (((below_one8 _ _).trans (hB9.mono (by simp))).mono (by simp)))
  clear hO hB9 HLd
  go_wp2
  go_ret
  exact ⟨v, rfl, HO.out, HB9.out⟩

/-- A hello that is right. -/
def rightH (h : Hl) : Bool := decide (0 < h.as_ ∧ (h.wd = true ∨ h.as_ ≤ 65535) ∧ 0 < h.id_ ∧ (h.hold = 0 ∨ (3 ≤ h.hold ∧ h.hold ≤ 65535)))
set_option maxHeartbeats 1000000 in
theorem isRight_is (w : World) (h : Hl) : Calls Tryd.prog 33 #[.agg (hlc h).toArray] w fun e w' => e = .returned (.bool (rightH h)) ∧ Below w.heap.size w w' := by
  obtain ⟨a, o, i, ev, wd, rf⟩ := h
  have HB := Lib.hid (below_one8 w (.cells (hlc ⟨a, o, i, ev, wd, rf⟩).toArray 24))
  have hc : ∀ j, (w.alloc (.cells (hlc ⟨a, o, i, ev, wd, rf⟩).toArray 24)).cell? ⟨w.heap.size, j, none⟩ = (hlc ⟨a, o, i, ev, wd, rf⟩).toArray[j]? := fun j => (Blk.new w 24 (hlc ⟨a, o, i, ev, wd, rf⟩).toArray).cell j
  have c0 := hc 0
  have c1 := hc 1
  have c2 := hc 2
  have c4 := hc 4
  generalize hz : (hlc ⟨a, o, i, ev, wd, rf⟩).toArray = z at *
  have d0 : z[0]? = some (.int .u32 a) := by rw [← hz]; rfl
  have d1 : z[1]? = some (.int .i64 o) := by rw [← hz]; rfl
  have d2 : z[2]? = some (.int .u32 i) := by rw [← hz]; rfl
  have d4 : z[4]? = some (.bool wd) := by rw [← hz]; rfl
  rw [d0] at c0
  rw [d1] at c1
  rw [d2] at c2
  rw [d4] at c4
  clear hc hz d0 d1 d2 d4
  by_cases ha : 0 < a
  case neg =>
    have HE : Hid (false = rightH ⟨a, o, i, ev, wd, rf⟩) := Lib.hid (by unfold rightH; simp; omega)
    go_enter Tryd.func33, Tryd.ntmps33
    go_wp2
    go_ret
    exact ⟨by rw [← HE.out]; rfl, HB.out⟩
  by_cases hw : wd = true ∨ a ≤ 65535
  case neg =>
    have HE : Hid (false = rightH ⟨a, o, i, ev, wd, rf⟩) := Lib.hid (by unfold rightH; exact (decide_eq_false (fun h => hw h.2.1)).symm)
    obtain rfl : wd = false := by cases wd <;> simp_all
    have hw2 : ¬ a ≤ 65535 := by simp at hw; omega
    clear hw
    go_enter Tryd.func33, Tryd.ntmps33
    go_wp2
    go_ret
    exact ⟨by rw [← HE.out]; rfl, HB.out⟩
  by_cases hi : 0 < i
  case neg =>
    have HE : Hid (false = rightH ⟨a, o, i, ev, wd, rf⟩) := Lib.hid (by unfold rightH; simp; omega)
    cases wd with
    | true =>
      clear hw
      go_enter Tryd.func33, Tryd.ntmps33
      go_wp2
      go_ret
      exact ⟨by rw [← HE.out]; rfl, HB.out⟩
    | false =>
      have hw2 : a ≤ 65535 := by simpa using hw
      clear hw
      go_enter Tryd.func33, Tryd.ntmps33
      go_wp2
      go_ret
      exact ⟨by rw [← HE.out]; rfl, HB.out⟩
  by_cases h0 : o = 0
  case pos =>
    have HE : Hid (true = rightH ⟨a, o, i, ev, wd, rf⟩) := Lib.hid (by unfold rightH; simp; exact ⟨ha, hw, hi, Or.inl h0⟩)
    subst h0
    cases wd with
    | true =>
      clear hw
      go_enter Tryd.func33, Tryd.ntmps33
      go_wp2
      go_ret
      exact ⟨by rw [← HE.out]; rfl, HB.out⟩
    | false =>
      have hw2 : a ≤ 65535 := by simpa using hw
      clear hw
      go_enter Tryd.func33, Tryd.ntmps33
      go_wp2
      go_ret
      exact ⟨by rw [← HE.out]; rfl, HB.out⟩
  have e0 : (o == 0) = false := by simpa using h0
  by_cases h3 : 3 ≤ o
  case neg =>
    have HE : Hid (false = rightH ⟨a, o, i, ev, wd, rf⟩) := Lib.hid (by unfold rightH; simp; omega)
    clear h0
    cases wd with
    | true =>
      clear hw
      go_enter Tryd.func33, Tryd.ntmps33
      go_wp2
      go_ret
      exact ⟨by rw [← HE.out]; rfl, HB.out⟩
    | false =>
      have hw2 : a ≤ 65535 := by simpa using hw
      clear hw
      go_enter Tryd.func33, Tryd.ntmps33
      go_wp2
      go_ret
      exact ⟨by rw [← HE.out]; rfl, HB.out⟩
  by_cases h6 : o ≤ 65535
  case neg =>
    have HE : Hid (false = rightH ⟨a, o, i, ev, wd, rf⟩) := Lib.hid (by unfold rightH; simp; omega)
    clear h0
    cases wd with
    | true =>
      clear hw
      go_enter Tryd.func33, Tryd.ntmps33
      go_wp2
      go_ret
      exact ⟨by rw [← HE.out]; rfl, HB.out⟩
    | false =>
      have hw2 : a ≤ 65535 := by simpa using hw
      clear hw
      go_enter Tryd.func33, Tryd.ntmps33
      go_wp2
      go_ret
      exact ⟨by rw [← HE.out]; rfl, HB.out⟩
  have HE : Hid (true = rightH ⟨a, o, i, ev, wd, rf⟩) := Lib.hid (by unfold rightH; simp; exact ⟨ha, hw, hi, Or.inr ⟨h3, h6⟩⟩)
  clear h0
  cases wd with
  | true =>
    clear hw
    go_enter Tryd.func33, Tryd.ntmps33
    go_wp2
    go_ret
    exact ⟨by rw [← HE.out]; rfl, HB.out⟩
  | false =>
    have hw2 : a ≤ 65535 := by simpa using hw
    clear hw
    go_enter Tryd.func33, Tryd.ntmps33
    go_wp2
    go_ret
    exact ⟨by rw [← HE.out]; rfl, HB.out⟩
end Go.Proofs.YtgfjjkckamppoaaDoor
