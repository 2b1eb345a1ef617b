/-
  Layer 2 (addr): runs of groups that are 0.
-/
import Derived.Test.YtkaimdcepnhkdaaDoorAdI
namespace Go.Proofs.YtkaimdcepnhkdaaDoor
open Go.RowKit
set_option linter.unusedSimpArgs false
set_option linter.unusedVariables false

/-- How many from place a on are 0. -/
def zerosFrom (l : List Int) (a : Nat) : Nat := ((l.drop a).takeWhile (· == 0)).length
theorem takeWhile_len (p : Int → Bool) : ∀ (l : List Int) (k : Nat), k ≤ l.length → (∀ i, i < k → p (l.getD i 0) = true) → (k = l.length ∨ p (l.getD k 0) = false) → (l.takeWhile p).length = k
  | [], 0, _, _, _ => rfl
  | x :: l, 0, _, _, h => by
    rcases h with h | h
    · cases h
    · simp at h; simp [List.takeWhile_cons, h]
  | x :: l, k + 1, hk, h, h2 => by
    have hx := h 0 (by omega)
    simp at hx
    have ih := takeWhile_len p l k (by simpa using hk) (fun i hi => by simpa using h (i + 1) (by omega)) (by
      rcases h2 with h2 | h2
      · left; simpa using h2
      · right; simpa using h2)
    simp [List.takeWhile_cons, hx, ih]
theorem zf_eq (l : List Int) (a k : Nat) (hk : a + k ≤ l.length) (h : ∀ i, i < k → l.getD (a + i) 0 = 0) (h2 : a + k = l.length ∨ l.getD (a + k) 0 ≠ 0) : zerosFrom l a = k := by
  unfold zerosFrom
  have e : ∀ i, (l.drop a).getD i 0 = l.getD (a + i) 0 := by intro i; simp [List.getD]
  refine takeWhile_len _ _ k (by simp; omega) (fun i hi => by rw [e]; simpa using h i hi) ?_
  rcases h2 with h2 | h2
  · left; simp; omega
  · right; rw [e]; simpa using h2
theorem zf_le (l : List Int) (a : Nat) : zerosFrom l a ≤ l.length - a := by
  unfold zerosFrom
  have := (List.takeWhile_prefix (· == 0) (l := l.drop a)).length_le
  simpa using this
/-- The first of the longest runs of those that begin below k. -/
def lzTo (l : List Int) : Nat → Nat × Nat
  | 0 => (0, 0)
  | k + 1 => if (lzTo l k).2 < zerosFrom l k then (k, zerosFrom l k) else lzTo l k
theorem lz_le (l : List Int) : ∀ k, k ≤ l.length → (lzTo l k).1 + (lzTo l k).2 ≤ l.length
  | 0, _ => by simp [lzTo]
  | k + 1, h => by
    unfold lzTo
    split
    · have := zf_le l k; simp; omega
    · exact lz_le l k (by omega)

set_option maxHeartbeats 1000000 in
theorem zf_is (w : World) (l : List Int) (a : Nat) (hl : l.length = 8) (ha : a < 8) :
    Calls Tryd.prog 128 #[.agg (u16s l).toArray, .int .i64 a] w fun e w' => e = .returned (.int .i64 (zerosFrom l a)) ∧ Below w.heap.size w w' := by
  have hr := range_new w 130 (u16s l)
  have HR := Lib.hid hr
  clear hr
  go_enter Tryd.func128, Tryd.ntmps128
  go_wp2
  go_loop [5] (fun n => ∃ k : Nat, a + k ≤ 8 ∧ n = .int .i64 k ∧ ∀ i, i < k → l.getD (a + i) 0 = 0) (fun n => 8 - (intOf n).toNat)
  case atStart => exact ⟨0, by omega, rfl, fun i hi => absurd hi (by omega)⟩
  case round =>
    obtain ⟨k, hk, rfl, hz⟩ := hrel
    have HZ := Lib.hid hz
    clear hz
    by_cases hlt : a + k < 8
    · have hc := HR.out (a + k) (.int .u16 (l.getD (a + k) 0)) (by simp [List.getD, show a + k < l.length by omega])
      rw [Nat.zero_add] at hc
      by_cases h0 : l.getD (a + k) 0 = 0
      · rw [h0] at hc
        have H0 := Lib.hid h0
        clear h0
        go_wp2
        exact ⟨⟨k + 1, by omega, by go_num, fun i hi => by
          rcases Nat.lt_or_ge i k with h | h
          · exact HZ.out i h
          · obtain rfl : i = k := by omega
            exact H0.out⟩, by simp [intOf]; omega⟩
      · have hb : (l.getD (a + k) 0 == 0) = false := by simpa using h0
        have HF := Lib.hid (zf_eq l a k (by omega) HZ.out (.inr h0))
        clear h0
        generalize l.getD (a + k) 0 = x at *
        go_wp2
        go_ret
        exact ⟨by rw [HF.out]; rfl, (Below.refl _ _).alloc (Nat.le_refl _) _⟩
    · have HF := Lib.hid (zf_eq l a k (by omega) HZ.out (.inl (by omega)))
      have hlt' : ¬ ((a : Int) + (k : Int) < 8) := by omega
      go_wp2
      go_ret
      exact ⟨by rw [HF.out]; rfl, (Below.refl _ _).alloc (Nat.le_refl _) _⟩

set_option maxHeartbeats 1000000 in
theorem lz_is (w : World) (l : List Int) (hl : l.length = 8) :
    Calls Tryd.prog 109 #[.agg (u16s l).toArray] w fun e w' => e = .returned (.tuple #[.int .i64 (lzTo l 8).1, .int .i64 (lzTo l 8).2]) ∧ Below w.heap.size w w' := by
  have HR := Lib.hid (range_new w 130 (u16s l))
  go_enter Tryd.func109, Tryd.ntmps109
  go_wp2
  go_loopw [2, 3, 4, 5, 6] (fun f c _ _ i wr => ∃ k : Nat, k ≤ 8 ∧ i = .int .i64 k ∧ f = .int .i64 (lzTo l k).1 ∧ c = .int .i64 (lzTo l k).2 ∧ wr.rangeAt w.heap.size 0 (u16s l) ∧ Below w.heap.size w wr ∧ w.heap.size < wr.heap.size) (fun _ _ _ _ i _ => 8 - (intOf i).toNat)
  case atStart => exact ⟨0, by omega, rfl, rfl, rfl, HR.out, (Below.refl _ _).alloc (Nat.le_refl _) _, by simp⟩
  case round =>
    obtain ⟨k, hk, rfl, rfl, rfl, hr, hB, hs⟩ := hrel
    have HR1 := Lib.hid hr
    have HB := Lib.hid hB
    clear hr hB
    by_cases hlt : k < 8
    · have HL : Hid (lzTo l (k + 1) = if (lzTo l k).2 < zerosFrom l k then (k, zerosFrom l k) else lzTo l k) := Lib.hid rfl
      go_wp2_with (refine grp_fetch rfl _ rfl w.heap.size l hl rfl HR1.out ?_)
      refine (zf_is wr l k hl hlt).mono ?_
      rintro e w1 ⟨rfl, hB1⟩
      have HR2 := Lib.hid (range_below HR1.out hB1 hs)
      have HB2 := Lib.hid (HB.out.trans (hB1.mono HB.out.size))
      have hs2 : w.heap.size < w1.heap.size := Nat.lt_of_lt_of_le hs hB1.size
      clear hB1
      by_cases hc : (lzTo l k).2 < zerosFrom l k
      · have HE : Hid (lzTo l (k + 1) = (k, zerosFrom l k)) := Lib.hid (by rw [HL.out, if_pos hc])
        clear HL
        generalize zerosFrom l k = z at *
        generalize lzTo l k = p at *
        go_wp2
        exact ⟨⟨k + 1, by omega, by go_num, by rw [HE.out], by rw [HE.out], HR2.out, HB2.out, hs2⟩, by simp [intOf]; omega⟩
      · have HE : Hid (lzTo l (k + 1) = lzTo l k) := Lib.hid (by rw [HL.out, if_neg hc])
        clear HL
        generalize zerosFrom l k = z at *
        generalize hp : lzTo l k = p at *
        have HP := Lib.hid hp
        clear hp
        go_wp2
        exact ⟨⟨k + 1, by omega, by go_num, by rw [HE.out], by rw [HE.out], HR2.out, HB2.out, hs2⟩, by simp [intOf]; omega⟩
    · obtain rfl : k = 8 := by omega
      go_wp2
      go_ret2
      exact ⟨rfl, HB.out⟩
end Go.Proofs.YtkaimdcepnhkdaaDoor
