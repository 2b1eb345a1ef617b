/-
  Layer 1's cursor once more: where its bytes lie is told, and does not change.
-/
import Derived.Test.YtgfjjkckamppoaaDoorOctD
namespace Go.Proofs.YtgfjjkckamppoaaDoor
open Go.RowKit
set_option maxRecDepth 100000
set_option linter.unusedSimpArgs false
set_option linter.unusedVariables false

/-- A cursor; its bytes lie at A0. -/
structure IsCurX (A0 : Option Addr) (c0 : Nat) (w : World) (g : Nat) (l : List Int) (at_ : Nat) (err : Int) : Prop extends IsCurT 92 w g l at_ err where
  fix : w.cell? ⟨g, 0, none⟩ = some (.slice A0 l.length c0)
section
variable {A0 : Option Addr} {c0 : Nat} {w w' : World} {g : Nat} {l : List Int} {at_ k : Nat} {err e0 : Int}
theorem IsCurX.keep (h : IsCurX A0 c0 w g l at_ err) (hk : Below (g + 1) w w') : IsCurX A0 c0 w' g l at_ err := ⟨h.toIsCurT.keep hk, (hk.cell (p := ⟨g, 0, none⟩) (Nat.lt_succ_self _)).trans h.fix⟩
theorem IsCurX.drewN (h : IsCurX A0 c0 w g l at_ err) (k : Nat) : IsCurX A0 c0 (w.drewN k) g l at_ err := h.keep (below_drewN (Below.refl _ _) k)
theorem IsCurX.set1 (h : IsCurX A0 c0 w g l at_ err) (hk : k ≤ l.length) : IsCurX A0 c0 (w.setCell ⟨g, 1, none⟩ (.int .i64 k)) g l k err := ⟨h.toIsCurT.set1 hk, (World.cell?_setCell_other _ _ _ _ (by simp)).trans h.fix⟩
theorem IsCurX.set2 (h : IsCurX A0 c0 w g l at_ err) : IsCurX A0 c0 (w.setCell ⟨g, 2, none⟩ (.int .i64 e0)) g l at_ e0 := ⟨h.toIsCurT.set2, (World.cell?_setCell_other _ _ _ _ (by simp)).trans h.fix⟩
/-- What is written elsewhere leaves it. -/
theorem IsCurX.far {b : Nat} (h : IsCurX A0 c0 w g l at_ err) (hk : ∀ i, i ≠ b → w'.heap[i]? = w.heap[i]?) (hg : g ≠ b) (hA : 0 < l.length → ∀ a, A0 = some a → a.block ≠ b) : IsCurX A0 c0 w' g l at_ err := by
  obtain ⟨A, c, h0, h1, h2⟩ := h.ex
  have e0 : w.cell? ⟨g, 0, none⟩ = some (.slice A l.length c) := Blk.cell h0 0
  have e1 := h.fix
  rw [e0] at e1
  injection e1 with e1
  injection e1 with e2 _ e3
  subst e2 e3
  refine ⟨⟨⟨A, c, (hk g hg).trans h0, ⟨h1.len, h1.oct, fun hn => ?_⟩, h2⟩, h.le, h.sm⟩, (World.cell?_of_block (hk g hg)).trans h.fix⟩
  obtain ⟨b', off, e, hlt, hc⟩ := h1.at_ hn
  exact ⟨b', off, e, hlt, fun i hi => (World.cell?_of_block (hk b' (hA hn _ e))).trans (hc i hi)⟩
end
/-- Passed: the next k bytes; the place moves on. -/
def PassOkX (A0 : Option Addr) (c0 : Nat) (w : World) (g : Nat) (l : List Int) (at_ k : Nat) (e : Ending) (w' : World) : Prop :=
  ∃ A c, e = .returned (.slice A k c) ∧ Rd w' g A k ((l.drop at_).take k) ∧ IsCurX A0 c0 w' g l (at_ + k) 0 ∧ w.grownBy w' (some g)

theorem pass_okX {A0 : Option Addr} {c0 : Nat} (w : World) (g : Nat) (l : List Int) (at_ k : Nat) (h : IsCurX A0 c0 w g l at_ 0) (hk : at_ + k ≤ l.length) :
    Calls Tryd.prog 65 #[.pointer (some ⟨g, 0, none⟩), .int .i64 k] w (PassOkX A0 c0 w g l at_ k) := by
  obtain ⟨A, c, h0, h1, h2⟩ := h.ex
  refine (pass_raw w g A l.length c at_ k h0 hk h2 h.sm).mono ?_
  rintro e w' ⟨rfl, k1, k2, rfl⟩
  have hc : IsCurX A0 c0 (((w.drewN k1).setCell ⟨g, 1, none⟩ (.int .i64 ((at_ + k : Nat) : Int))).drewN k2) g l (at_ + k) 0 := ((h.drewN k1).set1 hk).drewN k2
  refine ⟨_, _, rfl, ?_, hc, only_drewN (only_setCell (only_drewN (only_refl w _) k1) (.inl rfl) _) k2⟩
  refine (h1.cut hk h2).keep fun p hp => ?_
  exact World.cell?_setCell_other _ _ _ _ (fun e => by subst e; exact absurd hp (Nat.lt_irrefl _))

/-- Not passed: the cursor's error is e1 from now on, nothing is told. -/
def PassNoX (A0 : Option Addr) (c0 : Nat) (w : World) (g : Nat) (l : List Int) (at_ : Nat) (e1 : Int) (e : Ending) (w' : World) : Prop :=
  e = .returned (.slice none 0 0) ∧ IsCurX A0 c0 w' g l at_ e1 ∧ w.grownBy w' (some g)

set_option maxHeartbeats 400000 in
theorem pass_negX {A0 : Option Addr} {c0 : Nat} (w : World) (g : Nat) (l : List Int) (at_ : Nat) (k : Int) (h : IsCurX A0 c0 w g l at_ 0) (hk : k < 0) :
    Calls Tryd.prog 65 #[.pointer (some ⟨g, 0, none⟩), .int .i64 k] w (PassNoX A0 c0 w g l at_ 2) := by
  obtain ⟨A, c, h0, h1, h2⟩ := h.ex
  have c2 : (w.setCell ⟨g, 2, none⟩ (.int .i64 2)).cell? ⟨g, 2, none⟩ = some (.int .i64 2) := Blk.cell (Blk.set_ h0 2 _) 2
  have H := Lib.hid h
  have H0 := Lib.hid h0
  clear h h0 h1 h2
  go_enter Tryd.func65, Tryd.ntmps65
  go_wp2_with fail
  refine (fail_first w g A _ c at_ 2 H0.out).mono ?_
  rintro e w' ⟨rfl, rfl⟩
  go_wp2
  go_ret
  exact ⟨rfl, H.out.set2, only_setCell (only_refl w _) (.inl rfl) _⟩

set_option maxHeartbeats 400000 in
theorem pass_longX {A0 : Option Addr} {c0 : Nat} (w : World) (g : Nat) (l : List Int) (at_ : Nat) (k : Int) (h : IsCurX A0 c0 w g l at_ 0) (hk : (l.length : Int) - at_ < k) :
    Calls Tryd.prog 65 #[.pointer (some ⟨g, 0, none⟩), .int .i64 k] w (PassNoX A0 c0 w g l at_ 3) := by
  obtain ⟨A, c, h0, h1, h2⟩ := h.ex
  have c2 : ∀ n, ((w.drewN n).setCell ⟨g, 2, none⟩ (.int .i64 3)).cell? ⟨g, 2, none⟩ = some (.int .i64 3) := fun n => Blk.cell (Blk.set_ (w := w.drewN n) h0 2 _) 2
  have H := Lib.hid h
  have H0 := Lib.hid h0
  have hle := h.le
  have hsm := h.sm
  have hpos : 0 ≤ k := by omega
  clear h h0 h1 h2
  go_enter Tryd.func65, Tryd.ntmps65
  go_wp2_with fail
  refine (left_is w g A _ c at_ 0 H0.out (by omega) (by omega) hsm).mono ?_
  rintro e w' ⟨rfl, k1, rfl⟩
  go_wp2_with fail
  refine (fail_first (w.drewN k1) g A _ c at_ 3 H0.out).mono ?_
  rintro e w' ⟨rfl, rfl⟩
  go_wp2
  go_ret
  exact ⟨rfl, (H.out.drewN k1).set2, only_setCell (only_drewN (only_refl w _) k1) (.inl rfl) _⟩

set_option maxHeartbeats 400000 in
theorem pass_lateX {A0 : Option Addr} {c0 : Nat} (w : World) (g : Nat) (l : List Int) (at_ : Nat) (k err : Int) (h : IsCurX A0 c0 w g l at_ err) (hne : (err == 0) = false) :
    Calls Tryd.prog 65 #[.pointer (some ⟨g, 0, none⟩), .int .i64 k] w (PassNoX A0 c0 w g l at_ err) := by
  obtain ⟨A, c, h0, h1, h2⟩ := h.ex
  have c2 : w.cell? ⟨g, 2, none⟩ = some (.int .i64 err) := Blk.cell h0 2
  have H := Lib.hid h
  have H0 := Lib.hid h0
  have hle := h.le
  have hsm := h.sm
  have hne' : (err != 0) = true := by simpa using hne
  clear h h0 h1 h2
  by_cases hk : k < 0
  · go_enter Tryd.func65, Tryd.ntmps65
    go_wp2_with fail
    refine (fail_later w g A _ c at_ err 2 H0.out hne).mono ?_
    rintro e w' ⟨rfl, rfl⟩
    go_wp2
    go_ret
    exact ⟨rfl, H.out, only_refl w _⟩
  · have hpos : 0 ≤ k := by omega
    by_cases hl : (l.length : Int) - at_ < k
    · go_enter Tryd.func65, Tryd.ntmps65
      go_wp2_with fail
      refine (left_is w g A _ c at_ err H0.out (by omega) (by omega) hsm).mono ?_
      rintro e w' ⟨rfl, k1, rfl⟩
      go_wp2_with fail
      refine (fail_later (w.drewN k1) g A _ c at_ err 3 H0.out hne).mono ?_
      rintro e w' ⟨rfl, rfl⟩
      go_wp2
      go_ret
      exact ⟨rfl, H.out.drewN k1, only_drewN (only_refl w _) k1⟩
    · go_enter Tryd.func65, Tryd.ntmps65
      go_wp2_with fail
      refine (left_is w g A _ c at_ err H0.out (by omega) (by omega) hsm).mono ?_
      rintro e w' ⟨rfl, k1, rfl⟩
      go_wp2
      go_ret
      exact ⟨rfl, H.out.drewN k1, only_drewN (only_refl w _) k1⟩

/-- What pass comes to, in one word. -/
def PassedX (A0 : Option Addr) (c0 : Nat) (w : World) (g : Nat) (l : List Int) (at_ : Nat) (err k : Int) (e : Ending) (w' : World) : Prop :=
  ∃ A c, e = .returned (.slice A (stepTook l at_ err k).length c) ∧ Rd w' g A (stepTook l at_ err k).length (stepTook l at_ err k) ∧ IsCurX A0 c0 w' g l (stepAt l at_ err k) (stepErr l at_ err k) ∧ w.grownBy w' (some g)

theorem pass_isX {A0 : Option Addr} {c0 : Nat} (w : World) (g : Nat) (l : List Int) (at_ : Nat) (err k : Int) (h : IsCurX A0 c0 w g l at_ err) :
    Calls Tryd.prog 65 #[.pointer (some ⟨g, 0, none⟩), .int .i64 k] w (PassedX A0 c0 w g l at_ err k) := by
  have hle := h.le
  by_cases he : err = 0
  · subst he
    by_cases hk : k < 0
    · have e1 : stepTook l at_ 0 k = [] := by unfold stepTook; rw [if_neg (by omega)]
      have e2 : stepAt l at_ 0 k = at_ := by unfold stepAt; rw [if_neg (by omega)]
      have e3 : stepErr l at_ 0 k = 2 := by unfold stepErr; rw [if_pos rfl, if_pos hk]
      refine (pass_negX w g l at_ k h hk).mono ?_
      rintro e w' ⟨rfl, hc, ho⟩
      exact ⟨none, 0, by rw [e1]; rfl, by rw [e1]; exact Rd.nil_ _, by rw [e2, e3]; exact hc, ho⟩
    · by_cases hl : (l.length : Int) - at_ < k
      · have e1 : stepTook l at_ 0 k = [] := by unfold stepTook; rw [if_neg (by omega)]
        have e2 : stepAt l at_ 0 k = at_ := by unfold stepAt; rw [if_neg (by omega)]
        have e3 : stepErr l at_ 0 k = 3 := by unfold stepErr; rw [if_pos rfl, if_neg hk, if_pos hl]
        refine (pass_longX w g l at_ k h hl).mono ?_
        rintro e w' ⟨rfl, hc, ho⟩
        exact ⟨none, 0, by rw [e1]; rfl, by rw [e1]; exact Rd.nil_ _, by rw [e2, e3]; exact hc, ho⟩
      · obtain ⟨m, rfl⟩ : ∃ m : Nat, k = m := ⟨k.toNat, by omega⟩
        have e1 : stepTook l at_ 0 m = (l.drop at_).take m := by unfold stepTook; rw [if_pos (by omega)]; rfl
        have e2 : stepAt l at_ 0 m = at_ + m := by unfold stepAt; rw [if_pos (by omega)]; rfl
        have e3 : stepErr l at_ 0 m = 0 := by unfold stepErr; rw [if_pos rfl, if_neg hk, if_neg hl]
        have e4 : (stepTook l at_ 0 m).length = m := by rw [e1]; simp; omega
        refine (pass_okX w g l at_ m h (by omega)).mono ?_
        rintro e w' ⟨A, c, rfl, hr, hc, ho⟩
        exact ⟨A, c, by rw [e4], by rw [e4, e1]; exact hr, by rw [e2, e3]; exact hc, ho⟩
  · have e1 : stepTook l at_ err k = [] := by unfold stepTook; rw [if_neg (by omega)]
    have e2 : stepAt l at_ err k = at_ := by unfold stepAt; rw [if_neg (by omega)]
    have e3 : stepErr l at_ err k = err := by unfold stepErr; rw [if_neg he]
    refine (pass_lateX w g l at_ k err h (by simpa using he)).mono ?_
    rintro e w' ⟨rfl, hc, ho⟩
    exact ⟨none, 0, by rw [e1]; rfl, by rw [e1]; exact Rd.nil_ _, by rw [e2, e3]; exact hc, ho⟩

def TookX (A0 : Option Addr) (c0 : Nat) (w : World) (g : Nat) (l : List Int) (at_ : Nat) (err k : Int) (e : Ending) (w' : World) : Prop :=
  ∃ A, e = .returned (.slice A (stepTook l at_ err k).length (stepTook l at_ err k).length) ∧ New 5 w w' A (stepTook l at_ err k).length (stepTook l at_ err k) ∧
    IsCurX A0 c0 w' g l (stepAt l at_ err k) (stepErr l at_ err k) ∧ w.grownBy w' (some g)

theorem take_isX {A0 : Option Addr} {c0 : Nat} (w : World) (g : Nat) (l : List Int) (at_ : Nat) (err k : Int) (h : IsCurX A0 c0 w g l at_ err) :
    Calls Tryd.prog 46 #[.pointer (some ⟨g, 0, none⟩), .int .i64 k] w (TookX A0 c0 w g l at_ err k) := by
  have hsm := h.sm
  have H := Lib.hid h
  have hlen := stepTook_len l at_ err k
  unfold TookX
  have H0 := Lib.hid (pass_isX w g l at_ err k h)
  unfold PassedX at H0
  generalize stepTook l at_ err k = xs at *
  generalize stepAt l at_ err k = at1 at *
  generalize stepErr l at_ err k = err1 at *
  clear h
  go_enter Tryd.func46, Tryd.ntmps46
  go_wp2_with fail
  refine H0.out.mono ?_
  rintro e w1 ⟨A, c, rfl, hr, hc, ho⟩
  have H1 := Lib.hid hr
  have H2 := Lib.hid hc
  have H3 := Lib.hid ho
  clear hr hc ho
  go_wp2_with fail
  refine (copied_is w1 A _ c xs (H1.out.more (Nat.le_of_lt H2.out.lt)) (by omega)).mono ?_
  rintro e w2 ⟨A2, rfl, hn, hb⟩
  have H4 := Lib.hid hn
  have H5 := Lib.hid hb
  clear hn hb
  go_wp2
  go_ret
  exact ⟨A2, rfl, H4.out.from_ H3.out.size, H2.out.keep (H5.out.mono H2.out.lt), only_trans H3.out (only_of_below H5.out _)⟩

def NumdX (A0 : Option Addr) (c0 : Nat) (w : World) (g : Nat) (l : List Int) (at_ : Nat) (err k : Int) (e : Ending) (w' : World) : Prop :=
  e = .returned (.int .u64 (numVal l at_ err k)) ∧ IsCurX A0 c0 w' g l (numAt l at_ err k) (numErr l at_ err k) ∧ w.grownBy w' (some g)

set_option maxHeartbeats 400000 in
theorem num_badX {A0 : Option Addr} {c0 : Nat} (w : World) (g : Nat) (l : List Int) (at_ : Nat) (err k : Int) (h : IsCurX A0 c0 w g l at_ err) (hk : ¬ numOk k) :
    Calls Tryd.prog 44 #[.pointer (some ⟨g, 0, none⟩), .int .i64 k] w (NumdX A0 c0 w g l at_ err k) := by
  unfold NumdX numVal numAt numErr
  simp only [if_neg hk]
  have hk' : k < 1 ∨ 8 < k := by unfold numOk at hk; omega
  have H := Lib.hid h
  obtain ⟨A, c, h0, _, _⟩ := h.ex
  have H0 := Lib.hid h0
  clear h h0 hk
  have H1 := Lib.hid hk'
  clear hk'
  by_cases he : err = 0
  · subst he
    go_enter Tryd.func44, Tryd.ntmps44
    go_wp2_with fail
    refine (isSize_no k w H1.out).mono ?_
    rintro e w' ⟨rfl, rfl⟩
    go_wp2_with fail
    refine (fail_first w g A _ c at_ 2 H0.out).mono ?_
    rintro e w' ⟨rfl, rfl⟩
    go_wp2
    go_ret
    exact ⟨rfl, H.out.set2, only_setCell (only_refl w _) (.inl rfl) _⟩
  · have he' : (err == 0) = false := by simpa using he
    simp only [if_neg he]
    go_enter Tryd.func44, Tryd.ntmps44
    go_wp2_with fail
    refine (isSize_no k w H1.out).mono ?_
    rintro e w' ⟨rfl, rfl⟩
    go_wp2_with fail
    refine (fail_later w g A _ c at_ err 2 H0.out he').mono ?_
    rintro e w' ⟨rfl, rfl⟩
    go_wp2
    go_ret
    exact ⟨rfl, H.out, only_refl w _⟩

set_option maxHeartbeats 1000000 in
theorem num_okX {A0 : Option Addr} {c0 : Nat} (w : World) (g : Nat) (l : List Int) (at_ : Nat) (err k : Int) (h : IsCurX A0 c0 w g l at_ err) (hk : numOk k) :
    Calls Tryd.prog 44 #[.pointer (some ⟨g, 0, none⟩), .int .i64 k] w (NumdX A0 c0 w g l at_ err k) := by
  unfold NumdX numVal numAt numErr
  simp only [if_pos hk]
  have hlen : (stepTook l at_ err k).length ≤ 8 := by
    unfold numOk at hk
    unfold stepTook
    split
    · simp; omega
    · simp
  have H0 := Lib.hid (pass_isX w g l at_ err k h)
  unfold PassedX at H0
  generalize stepTook l at_ err k = xs at *
  generalize stepAt l at_ err k = at1 at *
  generalize stepErr l at_ err k = err1 at *
  obtain ⟨hk1, hk8⟩ := hk
  clear h
  go_enter Tryd.func44, Tryd.ntmps44
  go_wp2_with fail
  refine (isSize_yes k w hk1 hk8).mono ?_
  rintro e w' ⟨rfl, rfl⟩
  go_wp2_with fail
  refine H0.out.mono ?_
  rintro e w1 ⟨A, c, rfl, hr, hc, ho⟩
  have hoct := hr.oct
  have H1 := Lib.hid hr
  have H2 := Lib.hid hc
  have H3 := Lib.hid ho
  have HO := Lib.hid hoct
  clear hr hc ho hoct
  go_wp2
  go_loop [5, 7, 23] (fun s _ i => ∃ m : Nat, m ≤ xs.length ∧ i = .int .i64 m ∧ s = .int .u64 (numOf (xs.take m))) (fun _ _ i => xs.length - (intOf i).toNat)
  case atStart => exact ⟨0, Nat.zero_le _, rfl, rfl⟩
  case round =>
    obtain ⟨m, hm, rfl, rfl⟩ := hrel
    by_cases hlt : m < xs.length
    · obtain ⟨b, off, rfl, hb, hcell⟩ := H1.out.at_ (by omega)
      have hcm := hcell m hlt
      have HS := Lib.hid (numOf_step xs m hlt hlen HO.out)
      clear hcell
      go_wp2
      refine ⟨⟨m + 1, by omega, by go_num, by rw [HS.out]⟩, by simp [intOf]; omega⟩
    · obtain rfl : m = xs.length := by omega
      rw [List.take_length]
      go_wp2
      go_ret
      exact ⟨rfl, H2.out, H3.out⟩

theorem num_isX {A0 : Option Addr} {c0 : Nat} (w : World) (g : Nat) (l : List Int) (at_ : Nat) (err k : Int) (h : IsCurX A0 c0 w g l at_ err) :
    Calls Tryd.prog 44 #[.pointer (some ⟨g, 0, none⟩), .int .i64 k] w (NumdX A0 c0 w g l at_ err k) := by
  by_cases hk : numOk k
  · exact num_okX w g l at_ err k h hk
  · exact num_badX w g l at_ err k h hk

/-- A new cursor. -/
def NewCurX (w : World) (l : List Int) (e : Ending) (w' : World) : Prop :=
  ∃ g A0 c0, e = .returned (.pointer (some ⟨g, 0, none⟩)) ∧ w.heap.size ≤ g ∧ IsCurX A0 c0 w' g l 0 0 ∧ (0 < l.length → ∀ a, A0 = some a → w.heap.size ≤ a.block) ∧ Below w.heap.size w w'
theorem new_isX (w : World) (A : Option Addr) (n c : Nat) (l : List Int) (hr : Rd w w.heap.size A n l) (hm : n ≤ 281474976710656) :
    Calls Tryd.prog 42 #[.slice A n c] w (NewCurX w l) := by
  have H := Lib.hid hr
  clear hr
  go_enter Tryd.func42, Tryd.ntmps42
  go_wp2_with fail
  refine (copied_is w A n c l H.out hm).mono ?_
  rintro e w1 ⟨A1, rfl, hn, hb⟩
  have H1 := Lib.hid hn
  have H2 := Lib.hid hb
  clear hn hb
  go_wp2
  go_ret
  refine ⟨w1.heap.size, A1, n, rfl, H2.out.size, ⟨isCur_new H1.out hm, ?_⟩, ?_, H2.out.alloc H2.out.size _⟩
  · have := (Blk.new w1 92 #[.slice A1 n n, .int .i64 0, .int .i64 0]).cell 0
    rw [H1.out.2.1]
    exact this
  · intro hpos a ha
    rcases H1.out.2.2 with h | ⟨g, hg, hlo, _⟩
    · have := H1.out.2.1; omega
    · rw [hg] at ha; injection ha with ha; subst ha; exact hlo
end Go.Proofs.YtgfjjkckamppoaaDoor
