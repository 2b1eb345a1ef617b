/-
  Layer 4 (comm): numbers in bytes, there and back; a community's beginning; its flag.
-/
import Derived.Test.YtkaimdcepnhkdaaDoorProg
import Derived.Test.YtkaimdcepnhkdaaDoorMid
import Derived.Outline
import Derived.BigFrame
import Derived.BigQuiet
import Derived.WalkLawsBesides
namespace Go.Proofs.YtkaimdcepnhkdaaDoor
open Go.RowKit
set_option linter.unusedSimpArgs false
set_option linter.unusedVariables false

theorem numOf_or32 (N x : Int) (h0 : 0 ≤ N) (h1 : N < 16777216) (hx0 : 0 ≤ x) (hx1 : x < 256) :
    bits .or .u32 (IntKind.u32.wrap (N * 256)) (IntKind.u32.wrap x) = N * 256 + x := by
  rw [IntKind.wrap_u32, IntKind.wrap_u32, Int.emod_eq_of_lt (by omega) (by omega), Int.emod_eq_of_lt (by omega) (by omega), u32_or _ _ (by omega) (by omega) (by omega) (by omega)]
  obtain ⟨n, rfl⟩ := Int.eq_ofNat_of_zero_le h0
  obtain ⟨y, rfl⟩ := Int.eq_ofNat_of_zero_le hx0
  have hy : y < 2 ^ 8 := by omega
  have e : ((n : Int) * 256).toNat = 2 ^ 8 * n := by omega
  rw [e, Int.toNat_natCast, ← Nat.two_pow_add_eq_or_of_lt hy]
  omega
theorem pow256_3 : ∀ m, m < 4 → (256 : Int) ^ m ≤ 16777216 := by decide
theorem numOf_step32 (xs : List Int) (m : Nat) (hm : m < xs.length) (h4 : xs.length ≤ 4) (ho : Oct xs) :
    bits .or .u32 (IntKind.u32.wrap (numOf (xs.take m) * 256)) (IntKind.u32.wrap xs[m]) = numOf (xs.take (m + 1)) := by
  have hb := numOf_bd_take xs ho m (by omega)
  have hx := ho xs[m] (List.getElem_mem hm)
  have hp := pow256_3 m (by omega)
  rw [numOf_or32 _ _ hb.1 (by omega) hx.1 hx.2, List.take_succ_eq_append_getElem hm, numOf_snoc]
theorem numOf_step32' (xs : List Int) (m : Nat) (hm : m < xs.length) (h4 : xs.length ≤ 4) (ho : Oct xs) :
    bits .or .u32 (numOf (xs.take m) * 256 % 4294967296) (xs[m] % 4294967296) = numOf (xs.take (m + 1)) := by
  have := numOf_step32 xs m hm h4 ho
  rwa [IntKind.wrap_u32, IntKind.wrap_u32] at this

set_option maxHeartbeats 400000 in
theorem cnum_is (w : World) (B : Nat) (A : Option Addr) (n c : Nat) (l : List Int) (hr : Rd w B A n l) (h4 : n ≤ 4) :
    Calls Tryd.prog 96 #[.slice A n c] w fun e w' => e = .returned (.int .u32 (numOf l)) ∧ w = w' := by
  have H := Lib.hid hr
  obtain rfl := hr.len
  have HO := Lib.hid hr.oct
  clear hr
  go_enter Tryd.func96, Tryd.ntmps96
  go_wp2
  go_loop [3, 5, 8] (fun s _ i => ∃ m : Nat, m ≤ l.length ∧ i = .int .i64 m ∧ s = .int .u32 (numOf (l.take m))) (fun _ _ i => l.length - (intOf i).toNat)
  case atStart => exact ⟨0, Nat.zero_le _, rfl, rfl⟩
  case round =>
    obtain ⟨m, hm, rfl, rfl⟩ := hrel
    by_cases hlt : m < l.length
    · obtain ⟨b, off, rfl, hb, hcell⟩ := H.out.at_ (by omega)
      have hcm := hcell m hlt
      have HS := Lib.hid (numOf_step32' l m hlt h4 HO.out)
      clear hcell
      go_wp2
      refine ⟨⟨m + 1, by omega, by go_num, by rw [HS.out]⟩, by simp [intOf]; omega⟩
    · obtain rfl : m = l.length := by omega
      rw [List.take_length]
      go_wp2
      go_ret
      exact ⟨rfl, rfl⟩

/-- The lowest k bytes of n, the highest of them first. -/
def be : Nat → Int → List Int
  | 0, _ => []
  | k + 1, n => (n / 256 ^ k % 256) :: be k n
theorem be_len : ∀ k n, (be k n).length = k
  | 0, _ => rfl
  | k + 1, n => by simp [be, be_len k n]
theorem be_oct : ∀ k n, Oct (be k n)
  | 0, _ => by intro x h; cases h
  | k + 1, n => by
    intro x h
    rcases List.mem_cons.1 h with rfl | h
    · omega
    · exact be_oct k n x h
theorem cell_at8 (xs ys : List Int) (y : Int) (k : Nat) (hk : xs.length = k) : (u8s (xs ++ y :: ys)).toArray[k]? = some (.int .u8 y) := by
  subst hk; simp
theorem cell_set8 (xs ys : List Int) (y z : Int) (k : Nat) (hk : xs.length = k) : (u8s (xs ++ y :: ys)).toArray.setIfInBounds k (.int .u8 z) = (u8s (xs ++ z :: ys)).toArray := by
  subst hk; simp [List.set_append]
/-- l with the lowest j of m bytes of n laid at k. -/
def laid8 (l : List Int) (k m : Nat) (n : Int) (j : Nat) : List Int := l.take (k + (m - j)) ++ (be j n ++ l.drop (k + m))
theorem laid8_zero (l : List Int) (k m : Nat) (n : Int) (h : k + m ≤ l.length) : laid8 l k m n 0 = l := by simp [laid8, be]
theorem laid8_before (l : List Int) (k m : Nat) (n : Int) (j : Nat) (h : k + m ≤ l.length) (hj : j < m) : laid8 l k m n j = l.take (k + (m - 1 - j)) ++ l.getD (k + (m - 1 - j)) 0 :: (be j n ++ l.drop (k + m)) := by
  unfold laid8
  rw [show k + (m - j) = (k + (m - 1 - j)) + 1 by omega, List.take_succ_eq_append_getElem (show k + (m - 1 - j) < l.length by omega), List.append_assoc, List.getD_eq_getElem?_getD, List.getElem?_eq_getElem (show k + (m - 1 - j) < l.length by omega)]
  rfl
theorem laid8_behind (l : List Int) (k m : Nat) (n : Int) (j : Nat) (hj : j < m) : l.take (k + (m - 1 - j)) ++ (n / 256 ^ j % 256) :: (be j n ++ l.drop (k + m)) = laid8 l k m n (j + 1) := by
  unfold laid8
  rw [show k + (m - (j + 1)) = k + (m - 1 - j) by omega]
  rfl
def put8 (l : List Int) (k m : Nat) (n : Int) : List Int := l.take k ++ (be m n ++ l.drop (k + m))
theorem laid8_all (l : List Int) (k m : Nat) (n : Int) : laid8 l k m n m = put8 l k m n := by simp [laid8, put8]
theorem put8_len (l : List Int) (k m : Nat) (n : Int) (h : k + m ≤ l.length) : (put8 l k m n).length = l.length := by simp [put8, be_len]; omega
theorem put8_oct (l : List Int) (k m : Nat) (n : Int) (h : Oct l) : Oct (put8 l k m n) := by
  intro x hx
  rcases List.mem_append.1 hx with hx | hx
  · exact h x (List.mem_of_mem_take hx)
  · rcases List.mem_append.1 hx with hx | hx
    · exact be_oct _ _ x hx
    · exact h x (List.mem_of_mem_drop hx)
theorem div_pow (n : Int) (j : Nat) : n / 256 ^ j / 256 = n / 256 ^ (j + 1) := by
  rw [Int.pow_succ, Int.ediv_ediv_of_nonneg (Int.le_of_lt (Int.pow_pos (by decide)))]
theorem divp_bd (n : Int) (j : Nat) (h0 : 0 ≤ n) (h1 : n < 4294967296) : 0 ≤ n / 256 ^ j ∧ n / 256 ^ j < 4294967296 := by
  have hp : (0 : Int) < 256 ^ j := Int.pow_pos (by decide)
  exact ⟨Int.ediv_nonneg h0 (Int.le_of_lt hp), Int.lt_of_le_of_lt (Int.ediv_le_self _ h0) h1⟩

set_option maxHeartbeats 1000000 in
set_option maxRecDepth 100000 in
theorem pn_is (w : World) (g : Nat) (t : TypeId) (l : List Int) (k m c : Nat) (n : Int) (hb : Blk w g t (u8s l).toArray) (hk : k + m ≤ l.length) (hm : m ≤ 4) (h0 : 0 ≤ n) (h1 : n < 4294967296) :
    Calls Tryd.prog 89 #[.slice (some ⟨g, k, none⟩) m c, .int .u32 n] w fun e w' => e = .returned (.tuple #[]) ∧ Blk w' g t (u8s (put8 l k m n)).toArray ∧ w.grownBy w' (some g) := by
  have HB := Lib.hid hb
  clear hb
  go_enter Tryd.func89, Tryd.ntmps89
  go_wp2
  go_loopw [1, 4, 7] (fun s _ i wr => ∃ j : Nat, j ≤ m ∧ i = .int .i64 j ∧ s = .int .u32 (n / 256 ^ j) ∧ Blk wr g t (u8s (laid8 l k m n j)).toArray ∧ w.grownBy wr (some g)) (fun _ _ i _ => m - (intOf i).toNat)
  case atStart => exact ⟨0, by omega, rfl, by simp, by rw [laid8_zero l k m n hk]; exact HB.out, only_refl _ _⟩
  case round =>
    obtain ⟨j, hj, rfl, rfl, hb, hg⟩ := hrel
    have HG := Lib.hid hg
    clear hg HB
    by_cases hlt : j < m
    · rw [laid8_before l k m n j hk hlt] at hb
      have hlen : (l.take (k + (m - 1 - j))).length = k + (m - 1 - j) := by simp; omega
      have hc := hb.cell (k + (m - 1 - j))
      rw [cell_at8 _ _ _ _ hlen] at hc
      have hf := hb.frozen (k + (m - 1 - j))
      have hset := hb.set_ (k + (m - 1 - j)) (.int .u8 (n / 256 ^ j % 256))
      rw [cell_set8 _ _ _ _ _ hlen, laid8_behind l k m n j hlt] at hset
      have HS := Lib.hid hset
      have HG2 := Lib.hid (only_setCell HG.out (p := ⟨g, k + (m - 1 - j), none⟩) (.inl rfl) (.int .u8 (n / 256 ^ j % 256)))
      have HD := Lib.hid (div_pow n j)
      have hbd := divp_bd n j h0 h1
      clear hb hset hlen
      obtain ⟨n2, hn2⟩ : ∃ n2, n2 = n / 256 ^ (j + 1) := ⟨_, rfl⟩
      rw [← hn2] at HD
      have HN2 := Lib.hid hn2
      clear hn2
      generalize n / 256 ^ j = n1 at *
      go_wp2
      exact ⟨⟨j + 1, by omega, by go_num, by rw [HD.out, HN2.out], HS.out, HG2.out⟩, by simp [intOf]; omega⟩
    · obtain rfl : j = m := by omega
      rw [laid8_all] at hb
      have HBe := Lib.hid hb
      clear hb
      go_wp2
      go_end0
      exact ⟨rfl, HBe.out, HG.out⟩
end Go.Proofs.YtkaimdcepnhkdaaDoor
