/-
  Layer 1 (octet): contract of Num.
-/
import Derived.Test.YtplnlhbbleppmaaOctC
import Derived.Laws.BitsAllLaws
namespace Go.Proofs.Ytplnlhbbleppmaa
open Go.RowKit

/-- The number in bytes, the highest one first. -/
def numOf (l : List Int) : Int := l.foldl (fun n b => n * 256 + b) 0
theorem numOf_snoc (l : List Int) (b : Int) : numOf (l ++ [b]) = numOf l * 256 + b := by simp [numOf]
theorem numOf_bd_take (l : List Int) (h : Oct l) : ∀ m, m ≤ l.length → 0 ≤ numOf (l.take m) ∧ numOf (l.take m) < 256 ^ m
  | 0, _ => by simp [numOf]
  | m + 1, hm => by
    have ih := numOf_bd_take l h m (by omega)
    have hb := h l[m] (List.getElem_mem (by omega))
    rw [List.take_succ_eq_append_getElem (by omega), numOf_snoc, Int.pow_succ]
    omega
theorem numOf_bd (l : List Int) (h : Oct l) : 0 ≤ numOf l ∧ numOf l < 256 ^ l.length := by
  have := numOf_bd_take l h l.length (Nat.le_refl _)
  rwa [List.take_length] at this
theorem numOf_or (N x : Int) (h0 : 0 ≤ N) (h1 : N < 72057594037927936) (hx0 : 0 ≤ x) (hx1 : x < 256) :
    bits .or .u64 (IntKind.u64.wrap (N * 256)) (IntKind.u64.wrap x) = N * 256 + x := by
  rw [IntKind.wrap_u64, IntKind.wrap_u64, Int.emod_eq_of_lt (by omega) (by omega), Int.emod_eq_of_lt (by omega) (by omega), u64_or _ _ (by omega) (by omega) (by omega) (by omega)]
  obtain ⟨n, rfl⟩ := Int.eq_ofNat_of_zero_le h0
  obtain ⟨y, rfl⟩ := Int.eq_ofNat_of_zero_le hx0
  have hy : y < 2 ^ 8 := by omega
  have e : ((n : Int) * 256).toNat = 2 ^ 8 * n := by omega
  rw [e, Int.toNat_natCast, ← Nat.two_pow_add_eq_or_of_lt hy]
  omega
theorem pow256_7 : ∀ m, m < 8 → (256 : Int) ^ m ≤ 72057594037927936 := by decide
theorem numOf_step (xs : List Int) (m : Nat) (hm : m < xs.length) (h8 : xs.length ≤ 8) (ho : Oct xs) :
    bits .or .u64 (IntKind.u64.wrap (numOf (xs.take m) * 256)) (IntKind.u64.wrap xs[m]) = numOf (xs.take (m + 1)) := by
  have hb := numOf_bd_take xs ho m (by omega)
  have hx := ho xs[m] (List.getElem_mem hm)
  have hp := pow256_7 m (by omega)
  rw [numOf_or _ _ hb.1 (by omega) hx.1 hx.2, List.take_succ_eq_append_getElem hm, numOf_snoc]

abbrev numOk (k : Int) : Prop := 1 ≤ k ∧ k ≤ 8
def numErr (l : List Int) (at_ : Nat) (err k : Int) : Int := if numOk k then stepErr l at_ err k else if err = 0 then 2 else err
def numAt (l : List Int) (at_ : Nat) (err k : Int) : Nat := if numOk k then stepAt l at_ err k else at_
def numVal (l : List Int) (at_ : Nat) (err k : Int) : Int := if numOk k then numOf (stepTook l at_ err k) else 0

def Numd (w : World) (g : Nat) (l : List Int) (at_ : Nat) (err k : Int) (e : Ending) (w' : World) : Prop :=
  e = .returned (.int .u64 (numVal l at_ err k)) ∧ IsCur w' g l (numAt l at_ err k) (numErr l at_ err k) ∧ w.grownBy w' (some g)

set_option maxHeartbeats 400000 in
theorem num_bad (w : World) (g : Nat) (l : List Int) (at_ : Nat) (err k : Int) (h : IsCur w g l at_ err) (hk : ¬ numOk k) :
    Calls Try.prog 17 #[.pointer (some ⟨g, 0, none⟩), .int .i64 k] w (Numd w g l at_ err k) := by
  unfold Numd numVal numAt numErr
  simp only [if_neg hk]
  have hk' : k < 1 ∨ 8 < k := by unfold numOk at hk; omega
  have H := Lib.hid h
  obtain ⟨A, c, h0, _, _⟩ := h.ex
  have H0 := Lib.hid h0
  clear h h0 hk
  have H1 := Lib.hid hk'
  clear hk'
  by_cases he : err = 0
  · subst he
    go_enter Try.func17, Try.ntmps17
    go_wp2_with fail
    refine (isSize_no k w H1.out).mono ?_
    rintro e w' ⟨rfl, rfl⟩
    go_wp2_with fail
    refine (fail_first w g A _ c at_ 2 H0.out).mono ?_
    rintro e w' ⟨rfl, rfl⟩
    go_wp2
    go_ret
    exact ⟨rfl, H.out.set2, only_setCell (only_refl w _) (.inl rfl) _⟩
  · have he' : (err == 0) = false := by simpa using he
    simp only [if_neg he]
    go_enter Try.func17, Try.ntmps17
    go_wp2_with fail
    refine (isSize_no k w H1.out).mono ?_
    rintro e w' ⟨rfl, rfl⟩
    go_wp2_with fail
    refine (fail_later w g A _ c at_ err 2 H0.out he').mono ?_
    rintro e w' ⟨rfl, rfl⟩
    go_wp2
    go_ret
    exact ⟨rfl, H.out, only_refl w _⟩

set_option maxHeartbeats 1000000 in
theorem num_ok (w : World) (g : Nat) (l : List Int) (at_ : Nat) (err k : Int) (h : IsCur w g l at_ err) (hk : numOk k) :
    Calls Try.prog 17 #[.pointer (some ⟨g, 0, none⟩), .int .i64 k] w (Numd w g l at_ err k) := by
  unfold Numd numVal numAt numErr
  simp only [if_pos hk]
  have hlen : (stepTook l at_ err k).length ≤ 8 := by
    unfold numOk at hk
    unfold stepTook
    split
    · simp; omega
    · simp
  have H0 := Lib.hid (pass_is w g l at_ err k h)
  unfold Passed at H0
  generalize stepTook l at_ err k = xs at *
  generalize stepAt l at_ err k = at1 at *
  generalize stepErr l at_ err k = err1 at *
  obtain ⟨hk1, hk8⟩ := hk
  clear h
  go_enter Try.func17, Try.ntmps17
  go_wp2_with fail
  refine (isSize_yes k w hk1 hk8).mono ?_
  rintro e w' ⟨rfl, rfl⟩
  go_wp2_with fail
  refine H0.out.mono ?_
  rintro e w1 ⟨A, c, rfl, hr, hc, ho⟩
  have hoct := hr.oct
  have H1 := Lib.hid hr
  have H2 := Lib.hid hc
  have H3 := Lib.hid ho
  have HO := Lib.hid hoct
  clear hr hc ho hoct
  go_wp2
  go_loop [5, 7, 23] (fun s _ i => ∃ m : Nat, m ≤ xs.length ∧ i = .int .i64 m ∧ s = .int .u64 (numOf (xs.take m))) (fun _ _ i => xs.length - (intOf i).toNat)
  case atStart => exact ⟨0, Nat.zero_le _, rfl, rfl⟩
  case round =>
    obtain ⟨m, hm, rfl, rfl⟩ := hrel
    by_cases hlt : m < xs.length
    · obtain ⟨b, off, rfl, hb, hcell⟩ := H1.out.at_ (by omega)
      have hcm := hcell m hlt
      have HS := Lib.hid (numOf_step xs m hlt hlen HO.out)
      clear hcell
      go_wp2
      refine ⟨⟨m + 1, by omega, by go_num, by rw [HS.out]⟩, by simp [intOf]; omega⟩
    · obtain rfl : m = xs.length := by omega
      rw [List.take_length]
      go_wp2
      go_ret
      exact ⟨rfl, H2.out, H3.out⟩

theorem num_is (w : World) (g : Nat) (l : List Int) (at_ : Nat) (err k : Int) (h : IsCur w g l at_ err) :
    Calls Try.prog 17 #[.pointer (some ⟨g, 0, none⟩), .int .i64 k] w (Numd w g l at_ err k) := by
  by_cases hk : numOk k
  · exact num_ok w g l at_ err k h hk
  · exact num_bad w g l at_ err k h hk

theorem late_took (l : List Int) (at_ : Nat) (err k : Int) (h : err ≠ 0) : stepTook l at_ err k = [] := by unfold stepTook; rw [if_neg (fun x => h x.1)]
theorem late_at (l : List Int) (at_ : Nat) (err k : Int) (h : err ≠ 0) : stepAt l at_ err k = at_ := by unfold stepAt; rw [if_neg (fun x => h x.1)]
theorem late_err (l : List Int) (at_ : Nat) (err k : Int) (h : err ≠ 0) : stepErr l at_ err k = err := by unfold stepErr; rw [if_neg h]
theorem late_num (l : List Int) (at_ : Nat) (err k : Int) (h : err ≠ 0) : numVal l at_ err k = 0 := by
  unfold numVal
  rw [late_took l at_ err k h]
  split <;> rfl
theorem late_numAt (l : List Int) (at_ : Nat) (err k : Int) (h : err ≠ 0) : numAt l at_ err k = at_ := by
  unfold numAt
  rw [late_at l at_ err k h]
  split <;> rfl
theorem late_numErr (l : List Int) (at_ : Nat) (err k : Int) (h : err ≠ 0) : numErr l at_ err k = err := by
  unfold numErr
  rw [late_err l at_ err k h, if_neg h]
  split <;> rfl
end Go.Proofs.Ytplnlhbbleppmaa
