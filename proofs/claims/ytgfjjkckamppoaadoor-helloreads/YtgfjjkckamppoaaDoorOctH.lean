/-
  Layer 1: contracts of the document's side: Kept, Put.
-/
import Derived.Test.YtgfjjkckamppoaaDoorOctG
namespace Go.Proofs.YtgfjjkckamppoaaDoor
open Go.RowKit
set_option maxRecDepth 100000

set_option maxHeartbeats 400000 in
theorem kept_is (w : World) (g B : Nat) (A : Option Addr) (n c : Nat) (l : List Int) (hb : Byt w g 5 (l ++ [165, 90])) (hr : Rd w B A n l) (hm : n ≤ 140737488355328) :
    Calls Tryd.prog 18 #[.slice (some ⟨g, 0, none⟩) n (n + 2), .slice A n c] w fun e w' => e = .returned (.bool true) ∧ w = w' := by
  have hl := hr.len
  have c1 : w.cell? ⟨g, n, none⟩ = some (.int .u8 165) := by
    rw [hb.cell (i := n) (by simp; omega), ← hl]; simp [List.getD]
  have c2 : w.cell? ⟨g, n + 1, none⟩ = some (.int .u8 90) := by
    rw [hb.cell (i := n + 1) (by simp; omega), ← hl]; simp [List.getD]
  have hro : Rd w (max B (g + 1)) (some ⟨g, 0, none⟩) n l := by
    refine ⟨hl, hr.oct, fun hn => ⟨g, 0, rfl, by omega, fun i hi => ?_⟩⟩
    rw [Nat.zero_add, hb.cell (i := i) (by simp; omega)]
    simp [List.getD, List.getElem?_append_left (show i < l.length by omega)]
  have H := Lib.hid (same_is w (max B (g + 1)) (some ⟨g, 0, none⟩) A n n (n + 2) c l l hro (hr.more (by omega)) true (by simp))
  have e1 : ((n : Int) != (n : Int)) = false := by simp
  clear hb hr hl hro
  go_enter Tryd.func18, Tryd.ntmps18
  go_wp2_with fail
  refine H.out.mono ?_
  rintro e w' ⟨rfl, rfl⟩
  go_wp2
  go_ret
  exact ⟨rfl, rfl⟩

def RPut (w : World) (l : List Int) (n size : Int) (e : Ending) (w' : World) : Prop :=
  Below w.heap.size w w' ∧ if 1 ≤ size ∧ size ≤ 8 ∧ n < 256 ^ size.toNat then
    e = .returned (.tuple #[.slice (some ⟨w.heap.size, 0, none⟩) (l.length + size.toNat) (l.length + size.toNat), .int .i64 0]) ∧ Byt w' w.heap.size 5 (l ++ be size.toNat n)
  else e = .returned (.tuple #[.slice none 0 0, .int .i64 2])

theorem div_zero_iff (n : Int) (s : Nat) (hn : 0 ≤ n) : (n / 256 ^ s != 0) = !decide (n < 256 ^ s) := by
  have hp : (0 : Int) < 256 ^ s := Int.pow_pos (by decide)
  have h := shr_zero n s hn
  have h2 : (2 : Int) ^ (8 * s) = 256 ^ s := by rw [Int.pow_mul]; rfl
  rw [h2] at h
  rw [← h]
  rfl

theorem quo_step (n : Int) (k : Nat) (hn : 0 ≤ n) (hn2 : n < 18446744073709551616) : IntKind.u64.wrap ((n / 256 ^ k).tdiv 256) = n / 256 ^ (k + 1) := by
  have hp : (0 : Int) < 256 ^ k := Int.pow_pos (by decide)
  have hq : 0 ≤ n / 256 ^ k := Int.ediv_nonneg hn (Int.le_of_lt hp)
  have hle : n / 256 ^ k ≤ n := Int.ediv_le_self _ hn
  rw [Int.tdiv_eq_ediv_of_nonneg hq, IntKind.wrap_u64, Int.emod_eq_of_lt (by omega) (by omega), Int.pow_succ, Int.ediv_ediv_of_nonneg (Int.le_of_lt hp)]

/-- Put, in one word. -/
def Put (w : World) (l : List Int) (n size : Int) (e : Ending) (w' : World) : Prop :=
  Below w.heap.size w w' ∧ if 1 ≤ size ∧ size ≤ 8 ∧ n < 256 ^ size.toNat then
    e = .returned (.tuple #[.slice (some ⟨w.heap.size, 0, none⟩) (l.length + size.toNat) (l.length + size.toNat), .int .i64 0]) ∧ Byt w' w.heap.size 5 (l ++ be size.toNat n)
  else e = .returned (.tuple #[.slice none 0 0, .int .i64 2])

theorem put_is (w : World) (A : Option Addr) (m c : Nat) (l : List Int) (n size : Int) (hr : Rd w w.heap.size A m l) (hm : m ≤ 140737488355328) (hn : 0 ≤ n) (hn2 : n < 18446744073709551616) :
    Calls Tryd.prog 63 #[.slice A m c, .int .u64 n, .int .i64 size] w (Put w l n size) := by
  by_cases h : 1 ≤ size ∧ size ≤ 8 ∧ n < 256 ^ size.toNat
  · refine (put_fits w A m c l n size hr hm hn hn2 h.1 h.2.1 h.2.2).mono ?_
    rintro e w' ⟨he, hb, hB⟩
    exact ⟨hB, by rw [if_pos h]; exact ⟨he, hb⟩⟩
  · refine (put_no w A m c n size hn hn2 h).mono ?_
    rintro e w' ⟨he, rfl⟩
    exact ⟨Below.refl _ _, by rw [if_neg h]; exact he⟩
end Go.Proofs.YtgfjjkckamppoaaDoor
