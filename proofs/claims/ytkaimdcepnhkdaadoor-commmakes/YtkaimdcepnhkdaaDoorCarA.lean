/-
  Layer 2 (addr): pairs of digits.
-/
import Derived.Test.YtkaimdcepnhkdaaDoorAdV
import Derived.IntWalk
namespace Go.Proofs.YtkaimdcepnhkdaaDoor
open Go.RowKit
set_option linter.unusedSimpArgs false
set_option linter.unusedVariables false

set_option maxHeartbeats 1000000 in
theorem digit_is (w : World) (c : Int) (h0 : 0 ≤ c) (h1 : c < 256) :
    Calls Tryd.prog 137 #[.int .u8 c] w fun e w' => e = .returned (.int .i64 ((hexD c).getD (-1))) ∧ w = w' := by
  have hcases : (48 ≤ c ∧ c ≤ 57 ∧ hexD c = some (c - 48)) ∨ (97 ≤ c ∧ c ≤ 102 ∧ hexD c = some (c - 87)) ∨ (65 ≤ c ∧ c ≤ 70 ∧ hexD c = some (c - 55)) ∨ (¬ (48 ≤ c ∧ c ≤ 57) ∧ ¬ (97 ≤ c ∧ c ≤ 102) ∧ ¬ (65 ≤ c ∧ c ≤ 70) ∧ hexD c = none) := by
    unfold hexD
    by_cases a : 48 ≤ c ∧ c ≤ 57
    · exact .inl ⟨a.1, a.2, if_pos a⟩
    · rw [if_neg a]
      by_cases b : 97 ≤ c ∧ c ≤ 102
      · exact .inr (.inl ⟨b.1, b.2, if_pos b⟩)
      · rw [if_neg b]
        by_cases d : 65 ≤ c ∧ c ≤ 70
        · exact .inr (.inr (.inl ⟨d.1, d.2, if_pos d⟩))
        · exact .inr (.inr (.inr ⟨a, b, d, if_neg d⟩))
  rcases hcases with ⟨a, b, h⟩ | ⟨a, b, h⟩ | ⟨a, b, h⟩ | ⟨a, b, d, h⟩
  · have H := Lib.hid h
    clear h
    go_enter Tryd.func137, Tryd.ntmps137
    go_wp2
    go_ret
    exact ⟨by rw [H.out]; rfl, rfl⟩
  · have H := Lib.hid h
    have n1 : ¬ c ≤ 57 := by omega
    clear h
    go_enter Tryd.func137, Tryd.ntmps137
    go_wp2
    go_ret
    refine ⟨?_, rfl⟩
    rw [H.out]
    refine congrArg (fun z => Ending.returned (Value.int IntKind.i64 z)) ?_
    show _ = c - 87
    omega
  · have H := Lib.hid h
    have n1 : ¬ c ≤ 57 := by omega
    have n2 : ¬ c ≥ 97 := by omega
    clear h
    go_enter Tryd.func137, Tryd.ntmps137
    go_wp2
    go_ret
    refine ⟨?_, rfl⟩
    rw [H.out]
    refine congrArg (fun z => Ending.returned (Value.int IntKind.i64 z)) ?_
    show _ = c - 55
    omega
  · have H := Lib.hid h
    clear h
    have e1 : (c < 48) ∨ (57 < c ∧ c < 65) ∨ (70 < c ∧ c < 97) ∨ 102 < c := by omega
    rcases e1 with e | e | e | e
    all_goals
      clear a b d
      go_enter Tryd.func137, Tryd.ntmps137
      go_wp2
      go_ret
      exact ⟨by rw [H.out]; rfl, rfl⟩
theorem letter_is (w : World) (n : Int) (h0 : 0 ≤ n) (h1 : n < 16) :
    Calls Tryd.prog 112 #[.int .i64 n] w fun e w' => e = .returned (.int .u8 (hexI n)) ∧ w = w' := by
  by_cases h : n < 10
  · have H : Hid (hexI n = 48 + n) := Lib.hid (by unfold hexI; rw [if_pos h])
    go_enter Tryd.func112, Tryd.ntmps112
    go_wp2
    go_ret
    refine ⟨?_, rfl⟩
    rw [H.out]
    rfl
  · have H : Hid (hexI n = 87 + n) := Lib.hid (by unfold hexI; rw [if_neg h])
    go_enter Tryd.func112, Tryd.ntmps112
    go_wp2
    go_ret
    refine ⟨?_, rfl⟩
    rw [H.out]
    refine congrArg (fun z => Ending.returned (Value.int IntKind.u8 z)) ?_
    omega
/-- The byte at i, as a number. -/
def at8 (s : ByteArray) (i : Nat) : Int := ((s.data.toList.getD i 0).toNat : Int)
theorem at8_get (s : ByteArray) (i : Nat) (h : i < s.size) : at8 s i = (s[i].toNat : Int) := by
  unfold at8
  rw [List.getD_eq_getElem?_getD, List.getElem?_eq_getElem (by simpa using h)]
  rfl
def both (a b : Option Int) : Option Int := match a, b with
  | some h, some l => some (16 * h + l)
  | _, _ => none
def pairAt (s : ByteArray) (i : Nat) : Option Int := if 0 < i ∧ at8 s (3 * i - 1) ≠ 58 then none else both (hexD (at8 s (3 * i))) (hexD (at8 s (3 * i + 1)))
def prTo (s : ByteArray) : Nat → Option (List Int)
  | 0 => some []
  | k + 1 => (prTo s k).bind fun l => (pairAt s k).map fun x => l ++ [x]
def prs (s : ByteArray) (n : Nat) : Option (List Int) := if s.size + 1 = 3 * n then prTo s n else none
theorem prTo_len (s : ByteArray) : ∀ k l, prTo s k = some l → l.length = k
  | 0, l, h => by cases h; rfl
  | k + 1, l, h => by
    unfold prTo at h
    cases h1 : prTo s k with
    | none => rw [h1] at h; cases h
    | some l1 =>
      rw [h1] at h
      cases h2 : pairAt s k with
      | none => rw [h2] at h; cases h
      | some x => rw [h2] at h; cases h; simp [prTo_len s k l1 h1]
theorem both_bd {a b : Int} {x : Int} (h : both (hexD a) (hexD b) = some x) : 0 ≤ x ∧ x < 256 := by
  cases h1 : hexD a with
  | none => rw [h1] at h; cases h
  | some p =>
    cases h2 : hexD b with
    | none => rw [h1, h2] at h; cases h
    | some q =>
      rw [h1, h2] at h
      have := hexD_bd h1
      have := hexD_bd h2
      cases h
      omega
theorem pairAt_bd {s : ByteArray} {i : Nat} {x : Int} (h : pairAt s i = some x) : 0 ≤ x ∧ x < 256 := by
  unfold pairAt at h
  split at h
  · cases h
  · exact both_bd h
theorem prTo_oct (s : ByteArray) : ∀ k l, prTo s k = some l → Oct l
  | 0, l, h => by cases h; intro x hx; cases hx
  | k + 1, l, h => by
    unfold prTo at h
    cases h1 : prTo s k with
    | none => rw [h1] at h; cases h
    | some l1 =>
      rw [h1] at h
      cases h2 : pairAt s k with
      | none => rw [h2] at h; cases h
      | some x =>
        rw [h2] at h
        cases h
        intro y hy
        rcases List.mem_append.1 hy with hy | hy
        · exact prTo_oct s k l1 h1 y hy
        · rw [List.mem_singleton] at hy
          subst hy
          exact pairAt_bd h2
theorem prTo_none (s : ByteArray) (k : Nat) (h : prTo s k = none) : ∀ m, k ≤ m → prTo s m = none
  | 0, hm => by obtain rfl : k = 0 := by omega
                exact h
  | m + 1, hm => by
    rcases Nat.lt_or_ge k (m + 1) with h1 | h1
    · unfold prTo; rw [prTo_none s k h m (by omega)]; rfl
    · obtain rfl : k = m + 1 := by omega
      exact h
theorem prTo_fail (s : ByteArray) (k n : Nat) (hk : k < n) (h : pairAt s k = none) : prTo s n = none :=
  prTo_none s (k + 1) (by unfold prTo; rw [h]; cases prTo s k <;> rfl) n hk
theorem or8_all : ∀ h l : Fin 16, bits .or .u8 ((h.val : Int) * 16) (l.val : Int) = 16 * (h.val : Int) + (l.val : Int) := by decide +kernel
theorem or8 (h l : Int) (h0 : 0 ≤ h) (h1 : h < 16) (l0 : 0 ≤ l) (l1 : l < 16) : bits .or .u8 (h * 16) l = 16 * h + l := by
  have := or8_all ⟨h.toNat, by omega⟩ ⟨l.toNat, by omega⟩
  simpa [Int.toNat_of_nonneg h0, Int.toNat_of_nonneg l0] using this
theorem cell_mid (ds : List Int) (n k : Nat) (hd : ds.length = k) (hk : k < n) : (u8s (ds ++ List.replicate (n - k) 0)).toArray[k]? = some (.int .u8 0) := by
  rw [show n - k = (n - (k + 1)) + 1 by omega, List.replicate_succ]
  subst hd
  simp
theorem set_mid (ds : List Int) (n k : Nat) (x : Int) (hd : ds.length = k) (hk : k < n) : (u8s (ds ++ List.replicate (n - k) 0)).toArray.setIfInBounds k (.int .u8 x) = (u8s ((ds ++ [x]) ++ List.replicate (n - (k + 1)) 0)).toArray := by
  rw [show n - k = (n - (k + 1)) + 1 by omega, List.replicate_succ]
  subst hd
  simp [List.set_append]
def RP (w : World) (g : Nat) (t : TypeId) (o : Option (List Int)) (e : Ending) (w' : World) : Prop := e = .returned (.bool o.isSome) ∧ (∀ l, o = some l → Blk w' g t (u8s l).toArray) ∧ Below g w w'
end Go.Proofs.YtkaimdcepnhkdaaDoor
