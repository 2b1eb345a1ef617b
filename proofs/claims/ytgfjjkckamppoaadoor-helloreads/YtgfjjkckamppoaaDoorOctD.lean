/-
  Layer 1 (octet): contract of Num.
-/
import Derived.Test.YtgfjjkckamppoaaDoorOctC
import Derived.Test.YtgfjjkckamppoaaDoorMid
import Derived.Laws.BitsAllLaws
namespace Go.Proofs.YtgfjjkckamppoaaDoor
open Go.RowKit
set_option maxRecDepth 100000

abbrev numOk (k : Int) : Prop := 1 ≤ k ∧ k ≤ 8
def numErr (l : List Int) (at_ : Nat) (err k : Int) : Int := if numOk k then stepErr l at_ err k else if err = 0 then 2 else err
def numAt (l : List Int) (at_ : Nat) (err k : Int) : Nat := if numOk k then stepAt l at_ err k else at_
def numVal (l : List Int) (at_ : Nat) (err k : Int) : Int := if numOk k then numOf (stepTook l at_ err k) else 0

def Numd (w : World) (g : Nat) (l : List Int) (at_ : Nat) (err k : Int) (e : Ending) (w' : World) : Prop :=
  e = .returned (.int .u64 (numVal l at_ err k)) ∧ IsCur w' g l (numAt l at_ err k) (numErr l at_ err k) ∧ w.grownBy w' (some g)

set_option maxHeartbeats 400000 in
theorem num_bad (w : World) (g : Nat) (l : List Int) (at_ : Nat) (err k : Int) (h : IsCur w g l at_ err) (hk : ¬ numOk k) :
    Calls Tryd.prog 44 #[.pointer (some ⟨g, 0, none⟩), .int .i64 k] w (Numd w g l at_ err k) := by
  unfold Numd numVal numAt numErr
  simp only [if_neg hk]
  have hk' : k < 1 ∨ 8 < k := by unfold numOk at hk; omega
  have H := Lib.hid h
  obtain ⟨A, c, h0, _, _⟩ := h.ex
  have H0 := Lib.hid h0
  clear h h0 hk
  have H1 := Lib.hid hk'
  clear hk'
  by_cases he : err = 0
  · subst he
    go_enter Tryd.func44, Tryd.ntmps44
    go_wp2_with fail
    refine (isSize_no k w H1.out).mono ?_
    rintro e w' ⟨rfl, rfl⟩
    go_wp2_with fail
    refine (fail_first w g A _ c at_ 2 H0.out).mono ?_
    rintro e w' ⟨rfl, rfl⟩
    go_wp2
    go_ret
    exact ⟨rfl, H.out.set2, only_setCell (only_refl w _) (.inl rfl) _⟩
  · have he' : (err == 0) = false := by simpa using he
    simp only [if_neg he]
    go_enter Tryd.func44, Tryd.ntmps44
    go_wp2_with fail
    refine (isSize_no k w H1.out).mono ?_
    rintro e w' ⟨rfl, rfl⟩
    go_wp2_with fail
    refine (fail_later w g A _ c at_ err 2 H0.out he').mono ?_
    rintro e w' ⟨rfl, rfl⟩
    go_wp2
    go_ret
    exact ⟨rfl, H.out, only_refl w _⟩

set_option maxHeartbeats 1000000 in
theorem num_ok (w : World) (g : Nat) (l : List Int) (at_ : Nat) (err k : Int) (h : IsCur w g l at_ err) (hk : numOk k) :
    Calls Tryd.prog 44 #[.pointer (some ⟨g, 0, none⟩), .int .i64 k] w (Numd w g l at_ err k) := by
  unfold Numd numVal numAt numErr
  simp only [if_pos hk]
  have hlen : (stepTook l at_ err k).length ≤ 8 := by
    unfold numOk at hk
    unfold stepTook
    split
    · simp; omega
    · simp
  have H0 := Lib.hid (pass_is w g l at_ err k h)
  unfold Passed at H0
  generalize stepTook l at_ err k = xs at *
  generalize stepAt l at_ err k = at1 at *
  generalize stepErr l at_ err k = err1 at *
  obtain ⟨hk1, hk8⟩ := hk
  clear h
  go_enter Tryd.func44, Tryd.ntmps44
  go_wp2_with fail
  refine (isSize_yes k w hk1 hk8).mono ?_
  rintro e w' ⟨rfl, rfl⟩
  go_wp2_with fail
  refine H0.out.mono ?_
  rintro e w1 ⟨A, c, rfl, hr, hc, ho⟩
  have hoct := hr.oct
  have H1 := Lib.hid hr
  have H2 := Lib.hid hc
  have H3 := Lib.hid ho
  have HO := Lib.hid hoct
  clear hr hc ho hoct
  go_wp2
  go_loop [5, 7, 23] (fun s _ i => ∃ m : Nat, m ≤ xs.length ∧ i = .int .i64 m ∧ s = .int .u64 (numOf (xs.take m))) (fun _ _ i => xs.length - (intOf i).toNat)
  case atStart => exact ⟨0, Nat.zero_le _, rfl, rfl⟩
  case round =>
    obtain ⟨m, hm, rfl, rfl⟩ := hrel
    by_cases hlt : m < xs.length
    · obtain ⟨b, off, rfl, hb, hcell⟩ := H1.out.at_ (by omega)
      have hcm := hcell m hlt
      have HS := Lib.hid (numOf_step xs m hlt hlen HO.out)
      clear hcell
      go_wp2
      refine ⟨⟨m + 1, by omega, by go_num, by rw [HS.out]⟩, by simp [intOf]; omega⟩
    · obtain rfl : m = xs.length := by omega
      rw [List.take_length]
      go_wp2
      go_ret
      exact ⟨rfl, H2.out, H3.out⟩

theorem num_is (w : World) (g : Nat) (l : List Int) (at_ : Nat) (err k : Int) (h : IsCur w g l at_ err) :
    Calls Tryd.prog 44 #[.pointer (some ⟨g, 0, none⟩), .int .i64 k] w (Numd w g l at_ err k) := by
  by_cases hk : numOk k
  · exact num_ok w g l at_ err k h hk
  · exact num_bad w g l at_ err k h hk

theorem late_took (l : List Int) (at_ : Nat) (err k : Int) (h : err ≠ 0) : stepTook l at_ err k = [] := by unfold stepTook; rw [if_neg (fun x => h x.1)]
theorem late_at (l : List Int) (at_ : Nat) (err k : Int) (h : err ≠ 0) : stepAt l at_ err k = at_ := by unfold stepAt; rw [if_neg (fun x => h x.1)]
theorem late_err (l : List Int) (at_ : Nat) (err k : Int) (h : err ≠ 0) : stepErr l at_ err k = err := by unfold stepErr; rw [if_neg h]
theorem late_num (l : List Int) (at_ : Nat) (err k : Int) (h : err ≠ 0) : numVal l at_ err k = 0 := by
  unfold numVal
  rw [late_took l at_ err k h]
  split <;> rfl
theorem late_numAt (l : List Int) (at_ : Nat) (err k : Int) (h : err ≠ 0) : numAt l at_ err k = at_ := by
  unfold numAt
  rw [late_at l at_ err k h]
  split <;> rfl
theorem late_numErr (l : List Int) (at_ : Nat) (err k : Int) (h : err ≠ 0) : numErr l at_ err k = err := by
  unfold numErr
  rw [late_err l at_ err k h, if_neg h]
  split <;> rfl
end Go.Proofs.YtgfjjkckamppoaaDoor
