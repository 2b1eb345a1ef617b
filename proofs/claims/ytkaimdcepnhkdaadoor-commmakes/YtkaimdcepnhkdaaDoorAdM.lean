/-
  Layer 2: plain mathematics of decimal digits.
-/
namespace Go.Proofs.YtkaimdcepnhkdaaDoor

def isDig (c : UInt8) : Bool := decide (48 ≤ (c.toNat : Int)) && decide ((c.toNat : Int) ≤ 57)
/-- The number of decimal digits. -/
def decN (l : List UInt8) : Int := l.foldl (fun n c => 10 * n + ((c.toNat : Int) - 48)) 0
theorem decN_snoc (l : List UInt8) (c : UInt8) : decN (l ++ [c]) = 10 * decN l + ((c.toNat : Int) - 48) := by simp [decN]
theorem isDig_iff (c : UInt8) : isDig c = true ↔ 48 ≤ (c.toNat : Int) ∧ (c.toNat : Int) ≤ 57 := by simp [isDig]
def bad0 (l : List UInt8) : Bool := l.isEmpty || (l.head? == some 48 && decide (1 < l.length))
/-- Digits. -/
def digits (l : List UInt8) (most : Int) : Option Int :=
  if bad0 l || !(l.all isDig) || decide (most < decN l) then none else some (decN l)
theorem decN_nn : ∀ (l : List UInt8) (k : Nat), l.all isDig = true → 0 ≤ decN (l.take k)
  | l, 0, _ => by simp [decN]
  | l, k + 1, h => by
    by_cases hk : k < l.length
    · have hc := (isDig_iff l[k]).1 (by simpa using List.all_eq_true.1 h l[k] (List.getElem_mem hk))
      have := decN_nn l k h
      rw [List.take_succ_eq_append_getElem hk, decN_snoc]
      omega
    · rw [List.take_of_length_le (by omega)]
      have := decN_nn l k h
      rwa [List.take_of_length_le (by omega)] at this
theorem decN_mono1 (l : List UInt8) (k : Nat) (h : l.all isDig = true) : decN (l.take k) ≤ decN (l.take (k + 1)) := by
  by_cases hk : k < l.length
  · have hc := (isDig_iff l[k]).1 (by simpa using List.all_eq_true.1 h l[k] (List.getElem_mem hk))
    have := decN_nn l k h
    rw [List.take_succ_eq_append_getElem hk, decN_snoc]
    omega
  · rw [List.take_of_length_le (by omega), List.take_of_length_le (by omega)]
    omega
theorem decN_mono (l : List UInt8) (h : l.all isDig = true) : ∀ (k j : Nat), decN (l.take k) ≤ decN (l.take (k + j))
  | k, 0 => by simp
  | k, j + 1 => Int.le_trans (decN_mono l h k j) (by have := decN_mono1 l (k + j) h; rwa [Nat.add_assoc] at this)
theorem decN_le (l : List UInt8) (k : Nat) (h : l.all isDig = true) : decN (l.take k) ≤ decN l := by
  by_cases hk : k ≤ l.length
  · have := decN_mono l h k (l.length - k)
    rwa [show k + (l.length - k) = l.length by omega, List.take_length] at this
  · rw [List.take_of_length_le (by omega)]; omega
theorem digits_nd (l : List UInt8) (most : Int) (k : Nat) (hk : k < l.length) (h : isDig l[k] = false) : digits l most = none := by
  have : l.all isDig = false := by rw [List.all_eq_false]; exact ⟨l[k], List.getElem_mem hk, by simp [h]⟩
  simp [digits, this]
theorem digits_big (l : List UInt8) (most : Int) (k : Nat) (h : most < decN (l.take k)) : digits l most = none := by
  unfold digits
  cases ha : l.all isDig
  · simp
  · have := decN_le l k ha
    rw [decide_eq_true (show most < decN l by omega)]
    simp
theorem digits_ok (l : List UInt8) (most : Int) (h0 : bad0 l = false) (ha : l.all isDig = true) (hm : decN l ≤ most) : digits l most = some (decN l) := by
  unfold digits
  rw [h0, ha, decide_eq_false (show ¬ most < decN l by omega)]
  simp
theorem digits_bad (l : List UInt8) (most : Int) (h0 : bad0 l = true) : digits l most = none := by simp [digits, h0]
theorem all_take_succ (l : List UInt8) (k : Nat) (hk : k < l.length) (h : (l.take k).all isDig = true) (hc : isDig l[k] = true) : (l.take (k + 1)).all isDig = true := by
  rw [List.take_succ_eq_append_getElem hk, List.all_append, h]; simp [hc]
theorem digits_lt (l : List UInt8) (most n : Int) (h : digits l most = some n) : 0 ≤ n ∧ n ≤ most := by
  unfold digits at h
  split at h
  · cases h
  · rename_i hc
    simp at hc h
    have h0 := decN_nn l l.length (by simpa using hc.1.2)
    rw [List.take_length] at h0
    omega
end Go.Proofs.YtkaimdcepnhkdaaDoor
