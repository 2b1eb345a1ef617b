/-
  Layer 3 (frame): Feed of a broken stream and of none, Fault, Waits; the law's own same and alike; Count.
-/
import Derived.Test.YtoiigalaijnoeaaFrG
namespace Go.Proofs.Ytoiigalaijnoeaa
open Go.RowKit
set_option linter.unusedSimpArgs false
set_option linter.unusedVariables false

set_option maxHeartbeats 1000000 in
set_option maxRecDepth 100000 in
theorem feed_broken (w : World) (g : Nat) (d : Option Nat) (f : Flt) (A : Option Addr) (n c : Nat) (h : Broken w g d f) :
    Calls Try.prog 20 #[.pointer (some ⟨g, 0, none⟩), .slice A n c] w fun e w' => e = .returned (.slice none 0 0) ∧ w = w' := by
  obtain ⟨A1, n1, hS, _, _, _⟩ := h
  have c5 : w.cell? ⟨g, 5, none⟩ = some (.bool true) := Blk.cell hS 5
  clear hS
  by_cases hn : n = 0
  · subst hn
    go_enter Try.func20, Try.ntmps20
    go_wp2
    refine wp_loop_rounds 1 ?_
    rw [rounds_succ]
    go_wp2
    go_ret
    exact ⟨rfl, rfl⟩
  · have hpos : (n : Int) > 0 := by omega
    go_enter Try.func20, Try.ntmps20
    go_wp2
    refine wp_loop_rounds 1 ?_
    rw [rounds_succ]
    go_wp2
    go_ret
    exact ⟨rfl, rfl⟩

theorem feed_none (w : World) (A : Option Addr) (n c : Nat) : Calls Try.prog 20 #[.pointer none, .slice A n c] w fun e w' => e = .returned (.slice none 0 0) ∧ w = w' := by
  go_enter Try.func20, Try.ntmps20
  go_wp2
  go_ret
  exact ⟨rfl, rfl⟩
theorem waits_none (w : World) : Calls Try.prog 26 #[.pointer none] w fun e w' => e = .returned (.int .i64 0) ∧ w = w' := by
  go_enter Try.func26, Try.ntmps26
  go_wp2
  go_ret
  exact ⟨rfl, rfl⟩

/-- What Feed answers, whatever the stream. -/
def FedS (w : World) (g : Nat) (q d : Option Nat) (st : St) (b : List Int) (e : Ending) (w' : World) : Prop :=
  ∃ (v : Value) (q' d' : Option Nat), e = .returned v ∧ Told w.heap.size w' q' v (feed st b).1 ∧ IsS w' g q' d' (feed st b).2 ∧ At w.heap.size q q' ∧ At w.heap.size d d' ∧ Fr g q w w'
theorem feed_any (w : World) (g : Nat) (q d : Option Nat) (st : St) (b : List Int) (A : Option Addr) (c : Nat) (h : IsS w g q d st) (hr : Rd w w.heap.size A b.length b) (hc : b.length ≤ c) (hA : ∀ i off, A = some ⟨i, off, none⟩ → i ≠ g ∧ some i ≠ q) (hm : b.length ≤ 4000000000000) :
    Calls Try.prog 20 #[.pointer (some ⟨g, 0, none⟩), .slice A b.length c] w (FedS w g q d st b) := by
  cases st with
  | wait C =>
    refine (feed_is w g q C b A c h hr hc hA hm).mono ?_
    rintro e w' ⟨v, q', d', rfl, h1, h2, h3, h4, h5, _⟩
    refine ⟨v, q', d', rfl, h1, h2, h3, ?_, h5⟩
    cases d' with
    | none => exact .inr (.inl rfl)
    | some i => exact .inr (.inr ⟨i, rfl, h4 i rfl⟩)
  | bad f =>
    refine (feed_broken w g d f A b.length c h).mono ?_
    rintro e w' ⟨rfl, rfl⟩
    exact ⟨_, none, d, rfl, ⟨[], World.ownsRow_nil _ _ _ _, Ms.nil_⟩, h, .inr (.inl rfl), .inl rfl, Fr.refl _ _ _⟩

def waitsN : St → Nat
  | .wait c => c.length
  | .bad _ => 0
theorem waits_any (w : World) (g : Nat) (q d : Option Nat) (st : St) (h : IsS w g q d st) : Calls Try.prog 26 #[.pointer (some ⟨g, 0, none⟩)] w fun e w' => e = .returned (.int .i64 (waitsN st)) ∧ w = w' := by
  cases st with
  | wait c =>
    obtain ⟨cv, code, sub, dv, hS, hO, _⟩ := h.ex
    obtain ⟨A, k, rfl, _⟩ := own_at hO h.oct
    exact waits_is w g A c.length k _ code sub dv false hS
  | bad f =>
    obtain ⟨A, n, hS, _⟩ := h
    exact waits_is w g none 0 0 _ _ _ _ true hS

def fltOf : St → Flt
  | .wait _ => ⟨0, 0, []⟩
  | .bad f => f
def badB : St → Bool
  | .wait _ => false
  | .bad _ => true
/-- What Fault answers: a fault of its own, its data in new memory. -/
def Faulted (w : World) (st : St) (e : Ending) (w' : World) : Prop :=
  ∃ A n, e = .returned (.tuple #[.agg #[.int .i64 (fltOf st).code, .int .i64 (fltOf st).sub, .slice A n n], .bool (badB st)]) ∧ Fresh w.heap.size w' A n (fltOf st).data ∧ Below w.heap.size w w'

theorem fault_none (w : World) : Calls Try.prog 22 #[.pointer none] w (Faulted w (.wait [])) := by
  go_enter Try.func22, Try.ntmps22
  go_wp2
  refine bodyPost_ret (v := .tuple #[.agg #[.int .i64 0, .int .i64 0, .slice none 0 0], .bool false]) (by simp [results, Try.results22, go_sem]) rfl ⟨_, _, rfl, Fresh.none_, ?_⟩
  exact (Below.refl _ _).alloc (Nat.le_refl _) _

set_option maxHeartbeats 1000000 in
theorem fault_wait (w : World) (g : Nat) (q : Option Nat) (c : List Int) (h : Waiting w g q c) : Calls Try.prog 22 #[.pointer (some ⟨g, 0, none⟩)] w (Faulted w (.wait c)) := by
  obtain ⟨cv, code, sub, dv, hS, hO, _⟩ := h.ex
  have c5 : w.cell? ⟨g, 5, none⟩ = some (.bool false) := Blk.cell hS 5
  have hg := Blk.lt hS
  clear hS hO h
  go_enter Try.func22, Try.ntmps22
  go_wp2
  refine bodyPost_ret (v := .tuple #[.agg #[.int .i64 0, .int .i64 0, .slice none 0 0], .bool false]) (by simp [results, Try.results22, go_sem]) rfl ⟨_, _, rfl, Fresh.none_, ?_⟩
  exact (Below.refl _ _).alloc (Nat.le_refl _) _

set_option maxHeartbeats 2000000 in
theorem fault_bad (w : World) (g : Nat) (d : Option Nat) (f : Flt) (h : Broken w g d f) (hl : f.data.length ≤ 2) : Calls Try.prog 22 #[.pointer (some ⟨g, 0, none⟩)] w (Faulted w (.bad f)) := by
  obtain ⟨A, n, hS, ho, hn, hd⟩ := h
  have hrd : Rd w w.heap.size A n f.data := by
    rcases hd with rfl | ⟨i, rfl, _, hb⟩
    · obtain h0 : f.data = [] := List.eq_nil_of_length_eq_zero hn
      rw [h0]
      exact Rd.nil_ A
    · subst hn
      exact hb.rd_all ho hb.lt
  have c5 : w.cell? ⟨g, 5, none⟩ = some (.bool true) := Blk.cell hS 5
  have c2 : w.cell? ⟨g, 2, none⟩ = some (.int .i64 f.code) := Blk.cell hS 2
  have c3 : w.cell? ⟨g, 3, none⟩ = some (.int .i64 f.sub) := Blk.cell hS 3
  have c4 : w.cell? ⟨g, 4, none⟩ = some (.slice A n n) := Blk.cell hS 4
  have hg := Blk.lt hS
  have HN := Lib.hid hn
  have HRd := Lib.hid hrd
  have hn2 : n ≤ 2 := by omega
  clear hS hd hrd hn
  have HW2 : Hid (Below w.heap.size w ((w.alloc (.cells #[.int .i64 0, .int .i64 0, .slice none 0 0] 43)).alloc (.cells #[.int .i64 f.code, .int .i64 f.sub, .slice A n n] 43))) := Lib.hid (((Below.refl _ _).alloc (Nat.le_refl _) _).alloc (by simp) _)
  have HB0 : Hid (Blk ((w.alloc (.cells #[.int .i64 0, .int .i64 0, .slice none 0 0] 43)).alloc (.cells #[.int .i64 f.code, .int .i64 f.sub, .slice A n n] 43)) w.heap.size 43 #[.int .i64 0, .int .i64 0, .slice none 0 0]) := Lib.hid ((Blk.new w _ _).alloc _)
  have HB1 : Hid (Blk ((w.alloc (.cells #[.int .i64 0, .int .i64 0, .slice none 0 0] 43)).alloc (.cells #[.int .i64 f.code, .int .i64 f.sub, .slice A n n] 43)) (w.heap.size + 1) 43 #[.int .i64 f.code, .int .i64 f.sub, .slice A n n]) := Lib.hid (by
    have e := Blk.new (w.alloc (.cells #[.int .i64 0, .int .i64 0, .slice none 0 0] 43)) 43 #[.int .i64 f.code, .int .i64 f.sub, .slice A n n]
    simp only [World.size_alloc] at e
    exact e)
  have hsz : w.heap.size + 2 ≤ ((w.alloc (.cells #[.int .i64 0, .int .i64 0, .slice none 0 0] 43)).alloc (.cells #[.int .i64 f.code, .int .i64 f.sub, .slice A n n] 43)).heap.size := by simp
  go_enter Try.func22, Try.ntmps22
  go_wp2_with fail
  generalize (w.alloc (.cells #[.int .i64 0, .int .i64 0, .slice none 0 0] 43)).alloc (.cells #[.int .i64 f.code, .int .i64 f.sub, .slice A n n] 43) = w2 at *
  refine (fcopied_is w2 A n n f.data ((HRd.out.below HW2.out).more HW2.out.size) (by omega)).mono ?_
  rintro e w3 ⟨A3, rfl, hf3, hb3⟩
  have h0 := HB0.out.below hb3 (by omega)
  have h1 := HB1.out.below hb3 (by omega)
  have d0 : w3.cell? ⟨w.heap.size + 1, 0, none⟩ = some (.int .i64 f.code) := h1.cell 0
  have d1 : w3.cell? ⟨w.heap.size + 1, 1, none⟩ = some (.int .i64 f.sub) := h1.cell 1
  have d2 : w3.cell? ⟨w.heap.size + 1, 2, none⟩ = some (.slice A n n) := h1.cell 2
  have e2 : w3.frozen? ⟨w.heap.size + 1, 2, none⟩ = false := h1.frozen 2
  have r0 : w3.cell? ⟨w.heap.size, 0, none⟩ = some (.int .i64 0) := h0.cell 0
  have r1 : w3.cell? ⟨w.heap.size, 1, none⟩ = some (.int .i64 0) := h0.cell 1
  have r2 : w3.cell? ⟨w.heap.size, 2, none⟩ = some (.slice none 0 0) := h0.cell 2
  have s0 : w3.frozen? ⟨w.heap.size, 0, none⟩ = false := h0.frozen 0
  have s1 : w3.frozen? ⟨w.heap.size, 1, none⟩ = false := h0.frozen 1
  have s2 : w3.frozen? ⟨w.heap.size, 2, none⟩ = false := h0.frozen 2
  have HF3 := Lib.hid hf3
  have HB3 := Lib.hid hb3
  clear h0 h1 hf3 hb3 c2 c3 c4 c5
  go_wp2
  refine bodyPost_ret (v := .tuple #[.agg #[.int .i64 f.code, .int .i64 f.sub, .slice A3 n n], .bool true]) (by simp [results, Try.results22, go_sem, r0, r1, r2]) rfl ⟨A3, n, rfl, ?_, ?_⟩
  · refine (HF3.out.keep fun i hi _ => ?_).more HW2.out.size
    rw [heap_far3 _ _ _ (by omega), Below.heap_setCell _ _ _ _ (by show i ≠ w.heap.size + 1; omega)]
  · have h1 : Below w.heap.size w (w3.setCell ⟨w.heap.size + 1, 2, none⟩ (.slice A3 n n)) := (HW2.out.trans (HB3.out.mono HW2.out.size)).setCell (by show w.heap.size ≤ w.heap.size + 1; omega) _
    exact ((h1.setCell (p := ⟨w.heap.size, 0, none⟩) (Nat.le_refl _) _).setCell (p := ⟨w.heap.size, 1, none⟩) (Nat.le_refl _) _).setCell (p := ⟨w.heap.size, 2, none⟩) (Nat.le_refl _) _

theorem fault_any (w : World) (g : Nat) (q d : Option Nat) (st : St) (h : IsS w g q d st) (hf : Fine st) : Calls Try.prog 22 #[.pointer (some ⟨g, 0, none⟩)] w (Faulted w st) := by
  cases st with
  | wait c => exact fault_wait w g q c h
  | bad f => exact fault_bad w g d f h hf.2.1

/-- Count: how many of so many. -/
def cnt (a m : Int) : Int := a.tmod m + (if a.tmod m < 0 then m else 0)
theorem cnt_bd {a m : Int} (h : 1 ≤ m) : 0 ≤ cnt a m ∧ cnt a m < m := by
  have h1 := Int.tmod_lt_of_pos a (show 0 < m by omega)
  have h2 := Int.lt_tmod_of_pos a (show 0 < m by omega)
  unfold cnt
  split <;> omega
set_option maxHeartbeats 400000 in
theorem count_is (w : World) (a m : Int) (h : 1 ≤ m) (hm : m ≤ 1000000000000000) : Calls Try.prog 28 #[.int .i64 a, .int .i64 m] w fun e w' => e = .returned (.int .i64 (cnt a m)) ∧ w = w' := by
  have h1 := Int.tmod_lt_of_pos a (show 0 < m by omega)
  have h2 := Int.lt_tmod_of_pos a (show 0 < m by omega)
  have hz : (m == 0) = false := by simp; omega
  unfold cnt
  by_cases hlt : a.tmod m < 0
  · rw [if_pos hlt]
    generalize hq : a.tmod m = r at *
    go_enter Try.func28, Try.ntmps28
    go_wp2
    go_ret
    exact ⟨rfl, rfl⟩
  · rw [if_neg hlt]
    generalize hq : a.tmod m = r at *
    go_enter Try.func28, Try.ntmps28
    go_wp2
    go_ret
    exact ⟨by simp, rfl⟩
end Go.Proofs.Ytoiigalaijnoeaa
