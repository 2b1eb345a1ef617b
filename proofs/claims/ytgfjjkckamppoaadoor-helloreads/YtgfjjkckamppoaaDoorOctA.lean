/-
  Layer 1 (octet): contracts of the small functions.
-/
import Derived.Test.YtgfjjkckamppoaaDoorProg
import Derived.Test.YtgfjjkckamppoaaDoorWords
import Derived.Outline
import Derived.BigQuiet
import Derived.WalkLawsBesides
namespace Go.Proofs.YtgfjjkckamppoaaDoor
open Go.RowKit
set_option maxRecDepth 100000

theorem isSize_yes (n : Int) (w : World) (h1 : 1 ≤ n) (h8 : n ≤ 8) :
    Calls Tryd.prog 66 #[.int .i64 n] w fun e w' => e = .returned (.bool true) ∧ w = w' := by
  go_enter Tryd.func66, Tryd.ntmps66
  go_wp2
  go_ret
  exact ⟨rfl, rfl⟩

theorem isSize_no (n : Int) (w : World) (h : n < 1 ∨ 8 < n) :
    Calls Tryd.prog 66 #[.int .i64 n] w fun e w' => e = .returned (.bool false) ∧ w = w' := by
  rcases h with h | h
  · go_enter Tryd.func66, Tryd.ntmps66
    go_wp2
    go_ret
    exact ⟨rfl, rfl⟩
  · have h1 : 1 ≤ n := by omega
    have h2 : ¬ n ≤ 8 := by omega
    go_enter Tryd.func66, Tryd.ntmps66
    go_wp2
    go_ret
    exact ⟨rfl, rfl⟩

theorem shr_zero (n : Int) (k : Nat) (hn : 0 ≤ n) : (n / 2 ^ (8 * k) == 0) = decide (n < 256 ^ k) := by
  have h : (2 : Int) ^ (8 * k) = 256 ^ k := by rw [Int.pow_mul]; rfl
  have hp : (0 : Int) < 256 ^ k := Int.pow_pos (by decide)
  rw [h, Bool.eq_iff_iff, beq_iff_eq, decide_eq_true_iff]
  constructor
  · intro e
    by_cases hlt : n < 256 ^ k
    · exact hlt
    · have := (Int.le_ediv_iff_mul_le hp (a := 1) (b := n)).2 (by omega)
      omega
  · intro hlt
    exact Int.ediv_eq_zero_of_lt hn hlt

theorem fits_is (n size : Int) (w : World) (h1 : 1 ≤ size) (h8 : size ≤ 8) (hn : 0 ≤ n) (hm : n < 18446744073709551616) (b : Bool) (hb : decide (n < 256 ^ size.toNat) = b) :
    Calls Tryd.prog 74 #[.int .u64 n, .int .i64 size] w fun e w' => e = .returned (.bool b) ∧ w = w' := by
  have H := Lib.hid hb
  clear hb
  by_cases h : size = 8
  · subst h
    have hb : b = true := by rw [← H.out]; simpa using hm
    subst hb
    clear H hm
    go_enter Tryd.func74, Tryd.ntmps74
    go_wp2
    go_ret
    exact ⟨rfl, rfl⟩
  · have hne : (size == 8) = false := by simpa using h
    have hz : (8 * size).toNat = 8 * size.toNat := by omega
    have H2 := Lib.hid (shr_zero n size.toNat hn)
    rw [← hz] at H2
    clear hm hz
    go_enter Tryd.func74, Tryd.ntmps74
    go_wp2
    go_ret
    rw [H2.out, H.out]
    exact ⟨rfl, rfl⟩
end Go.Proofs.YtgfjjkckamppoaaDoor
