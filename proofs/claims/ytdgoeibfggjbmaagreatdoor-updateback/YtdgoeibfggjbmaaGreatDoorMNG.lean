/-
  Put together: NlG NlH NlI.
-/
import Derived.Test.YtdgoeibfggjbmaaGreatDoorMO
import Derived.Test.YtdgoeibfggjbmaaGreatDoorMNC
namespace Go.Proofs.YtdgoeibfggjbmaaGreatDoor
open Go.RowKit
set_option maxRecDepth 100000
set_option linter.unusedSimpArgs false
set_option linter.unusedVariables false

structure IsCurX (A0 : Option Addr) (c0 : Nat) (w : World) (g : Nat) (l : List Int) (at_ : Nat) (err : Int) : Prop extends IsCurT 212 w g l at_ err where
  fix : w.cell? ⟨g, 0, none⟩ = some (.slice A0 l.length c0)
section
variable {A0 : Option Addr} {c0 : Nat} {w w' : World} {g : Nat} {l : List Int} {at_ k : Nat} {err e0 : Int}
theorem IsCurX.keep (h : IsCurX A0 c0 w g l at_ err) (hk : Below (g + 1) w w') : IsCurX A0 c0 w' g l at_ err := ⟨h.toIsCurT.keep hk, (hk.cell (p := ⟨g, 0, none⟩) (Nat.lt_succ_self _)).trans h.fix⟩
theorem IsCurX.drewN (h : IsCurX A0 c0 w g l at_ err) (k : Nat) : IsCurX A0 c0 (w.drewN k) g l at_ err := h.keep (below_drewN (Below.refl _ _) k)
theorem IsCurX.set1 (h : IsCurX A0 c0 w g l at_ err) (hk : k ≤ l.length) : IsCurX A0 c0 (w.setCell ⟨g, 1, none⟩ (.int .i64 k)) g l k err := ⟨h.toIsCurT.set1 hk, (World.cell?_setCell_other _ _ _ _ (by simp)).trans h.fix⟩
theorem IsCurX.set2 (h : IsCurX A0 c0 w g l at_ err) : IsCurX A0 c0 (w.setCell ⟨g, 2, none⟩ (.int .i64 e0)) g l at_ e0 := ⟨h.toIsCurT.set2, (World.cell?_setCell_other _ _ _ _ (by simp)).trans h.fix⟩
theorem IsCurX.far {b : Nat} (h : IsCurX A0 c0 w g l at_ err) (hk : ∀ i, i ≠ b → w'.heap[i]? = w.heap[i]?) (hg : g ≠ b) (hA : 0 < l.length → ∀ a, A0 = some a → a.block ≠ b) : IsCurX A0 c0 w' g l at_ err := by
  obtain ⟨A, c, h0, h1, h2⟩ := h.ex
  have e0 : w.cell? ⟨g, 0, none⟩ = some (.slice A l.length c) := Blk.cell h0 0
  have e1 := h.fix
  rw [e0] at e1
  injection e1 with e1
  injection e1 with e2 _ e3
  subst e2 e3
  refine ⟨⟨⟨A, c, (hk g hg).trans h0, ⟨h1.len, h1.oct, fun hn => ?_⟩, h2⟩, h.le, h.sm⟩, (World.cell?_of_block (hk g hg)).trans h.fix⟩
  obtain ⟨b', off, e, hlt, hc⟩ := h1.at_ hn
  exact ⟨b', off, e, hlt, fun i hi => (World.cell?_of_block (hk b' (hA hn _ e))).trans (hc i hi)⟩
end
def PassOkX (A0 : Option Addr) (c0 : Nat) (w : World) (g : Nat) (l : List Int) (at_ k : Nat) (e : Ending) (w' : World) : Prop :=
  ∃ A c, e = .returned (.slice A k c) ∧ Rd w' g A k ((l.drop at_).take k) ∧ IsCurX A0 c0 w' g l (at_ + k) 0 ∧ w.grownBy w' (some g)

theorem pass_okX {A0 : Option Addr} {c0 : Nat} (w : World) (g : Nat) (l : List Int) (at_ k : Nat) (h : IsCurX A0 c0 w g l at_ 0) (hk : at_ + k ≤ l.length) :
    Calls Tryz.prog 165 #[.pointer (some ⟨g, 0, none⟩), .int .i64 k] w (PassOkX A0 c0 w g l at_ k) := by
  obtain ⟨A, c, h0, h1, h2⟩ := h.ex
  refine (pass_raw w g A l.length c at_ k h0 hk h2 h.sm).mono ?_
  rintro e w' ⟨rfl, k1, k2, rfl⟩
  have hc : IsCurX A0 c0 (((w.drewN k1).setCell ⟨g, 1, none⟩ (.int .i64 ((at_ + k : Nat) : Int))).drewN k2) g l (at_ + k) 0 := ((h.drewN k1).set1 hk).drewN k2
  refine ⟨_, _, rfl, ?_, hc, only_drewN (only_setCell (only_drewN (only_refl w _) k1) (.inl rfl) _) k2⟩
  refine (h1.cut hk h2).keep fun p hp => ?_
  exact World.cell?_setCell_other _ _ _ _ (fun e => by subst e; exact absurd hp (Nat.lt_irrefl _))

def PassNoX (A0 : Option Addr) (c0 : Nat) (w : World) (g : Nat) (l : List Int) (at_ : Nat) (e1 : Int) (e : Ending) (w' : World) : Prop :=
  e = .returned (.slice none 0 0) ∧ IsCurX A0 c0 w' g l at_ e1 ∧ w.grownBy w' (some g)

set_option maxHeartbeats 400000 in
theorem pass_negX {A0 : Option Addr} {c0 : Nat} (w : World) (g : Nat) (l : List Int) (at_ : Nat) (k : Int) (h : IsCurX A0 c0 w g l at_ 0) (hk : k < 0) :
    Calls Tryz.prog 165 #[.pointer (some ⟨g, 0, none⟩), .int .i64 k] w (PassNoX A0 c0 w g l at_ 2) := by
  obtain ⟨A, c, h0, h1, h2⟩ := h.ex
  have c2 : (w.setCell ⟨g, 2, none⟩ (.int .i64 2)).cell? ⟨g, 2, none⟩ = some (.int .i64 2) := Blk.cell (Blk.set_ h0 2 _) 2
  have H := Lib.hid h
  have H0 := Lib.hid h0
  clear h h0 h1 h2
  go_enter Tryz.func165, Tryz.ntmps165
  go_wp2_with fail
  refine (fail_first w g A _ c at_ 2 H0.out).mono ?_
  rintro e w' ⟨rfl, rfl⟩
  go_wp2
  go_ret
  exact ⟨rfl, H.out.set2, only_setCell (only_refl w _) (.inl rfl) _⟩

set_option maxHeartbeats 400000 in
theorem pass_longX {A0 : Option Addr} {c0 : Nat} (w : World) (g : Nat) (l : List Int) (at_ : Nat) (k : Int) (h : IsCurX A0 c0 w g l at_ 0) (hk : (l.length : Int) - at_ < k) :
    Calls Tryz.prog 165 #[.pointer (some ⟨g, 0, none⟩), .int .i64 k] w (PassNoX A0 c0 w g l at_ 3) := by
  obtain ⟨A, c, h0, h1, h2⟩ := h.ex
  have c2 : ∀ n, ((w.drewN n).setCell ⟨g, 2, none⟩ (.int .i64 3)).cell? ⟨g, 2, none⟩ = some (.int .i64 3) := fun n => Blk.cell (Blk.set_ (w := w.drewN n) h0 2 _) 2
  have H := Lib.hid h
  have H0 := Lib.hid h0
  have hle := h.le
  have hsm := h.sm
  have hpos : 0 ≤ k := by omega
  clear h h0 h1 h2
  go_enter Tryz.func165, Tryz.ntmps165
  go_wp2_with fail
  refine (left_is w g A _ c at_ 0 H0.out (by omega) (by omega) hsm).mono ?_
  rintro e w' ⟨rfl, k1, rfl⟩
  go_wp2_with fail
  refine (fail_first (w.drewN k1) g A _ c at_ 3 H0.out).mono ?_
  rintro e w' ⟨rfl, rfl⟩
  go_wp2
  go_ret
  exact ⟨rfl, (H.out.drewN k1).set2, only_setCell (only_drewN (only_refl w _) k1) (.inl rfl) _⟩

set_option maxHeartbeats 400000 in
theorem pass_lateX {A0 : Option Addr} {c0 : Nat} (w : World) (g : Nat) (l : List Int) (at_ : Nat) (k err : Int) (h : IsCurX A0 c0 w g l at_ err) (hne : (err == 0) = false) :
    Calls Tryz.prog 165 #[.pointer (some ⟨g, 0, none⟩), .int .i64 k] w (PassNoX A0 c0 w g l at_ err) := by
  obtain ⟨A, c, h0, h1, h2⟩ := h.ex
  have c2 : w.cell? ⟨g, 2, none⟩ = some (.int .i64 err) := Blk.cell h0 2
  have H := Lib.hid h
  have H0 := Lib.hid h0
  have hle := h.le
  have hsm := h.sm
  have hne' : (err != 0) = true := by simpa using hne
  clear h h0 h1 h2
  by_cases hk : k < 0
  · go_enter Tryz.func165, Tryz.ntmps165
    go_wp2_with fail
    refine (fail_later w g A _ c at_ err 2 H0.out hne).mono ?_
    rintro e w' ⟨rfl, rfl⟩
    go_wp2
    go_ret
    exact ⟨rfl, H.out, only_refl w _⟩
  · have hpos : 0 ≤ k := by omega
    by_cases hl : (l.length : Int) - at_ < k
    · go_enter Tryz.func165, Tryz.ntmps165
      go_wp2_with fail
      refine (left_is w g A _ c at_ err H0.out (by omega) (by omega) hsm).mono ?_
      rintro e w' ⟨rfl, k1, rfl⟩
      go_wp2_with fail
      refine (fail_later (w.drewN k1) g A _ c at_ err 3 H0.out hne).mono ?_
      rintro e w' ⟨rfl, rfl⟩
      go_wp2
      go_ret
      exact ⟨rfl, H.out.drewN k1, only_drewN (only_refl w _) k1⟩
    · go_enter Tryz.func165, Tryz.ntmps165
      go_wp2_with fail
      refine (left_is w g A _ c at_ err H0.out (by omega) (by omega) hsm).mono ?_
      rintro e w' ⟨rfl, k1, rfl⟩
      go_wp2
      go_ret
      exact ⟨rfl, H.out.drewN k1, only_drewN (only_refl w _) k1⟩

def PassedX (A0 : Option Addr) (c0 : Nat) (w : World) (g : Nat) (l : List Int) (at_ : Nat) (err k : Int) (e : Ending) (w' : World) : Prop :=
  ∃ A c, e = .returned (.slice A (stepTook l at_ err k).length c) ∧ Rd w' g A (stepTook l at_ err k).length (stepTook l at_ err k) ∧ IsCurX A0 c0 w' g l (stepAt l at_ err k) (stepErr l at_ err k) ∧ w.grownBy w' (some g)

theorem pass_isX {A0 : Option Addr} {c0 : Nat} (w : World) (g : Nat) (l : List Int) (at_ : Nat) (err k : Int) (h : IsCurX A0 c0 w g l at_ err) :
    Calls Tryz.prog 165 #[.pointer (some ⟨g, 0, none⟩), .int .i64 k] w (PassedX A0 c0 w g l at_ err k) := by
  have hle := h.le
  by_cases he : err = 0
  · subst he
    by_cases hk : k < 0
    · have e1 : stepTook l at_ 0 k = [] := by unfold stepTook; rw [if_neg (by omega)]
      have e2 : stepAt l at_ 0 k = at_ := by unfold stepAt; rw [if_neg (by omega)]
      have e3 : stepErr l at_ 0 k = 2 := by unfold stepErr; rw [if_pos rfl, if_pos hk]
      refine (pass_negX w g l at_ k h hk).mono ?_
      rintro e w' ⟨rfl, hc, ho⟩
      exact ⟨none, 0, by rw [e1]; rfl, by rw [e1]; exact Rd.nil_ _, by rw [e2, e3]; exact hc, ho⟩
    · by_cases hl : (l.length : Int) - at_ < k
      · have e1 : stepTook l at_ 0 k = [] := by unfold stepTook; rw [if_neg (by omega)]
        have e2 : stepAt l at_ 0 k = at_ := by unfold stepAt; rw [if_neg (by omega)]
        have e3 : stepErr l at_ 0 k = 3 := by unfold stepErr; rw [if_pos rfl, if_neg hk, if_pos hl]
        refine (pass_longX w g l at_ k h hl).mono ?_
        rintro e w' ⟨rfl, hc, ho⟩
        exact ⟨none, 0, by rw [e1]; rfl, by rw [e1]; exact Rd.nil_ _, by rw [e2, e3]; exact hc, ho⟩
      · obtain ⟨m, rfl⟩ : ∃ m : Nat, k = m := ⟨k.toNat, by omega⟩
        have e1 : stepTook l at_ 0 m = (l.drop at_).take m := by unfold stepTook; rw [if_pos (by omega)]; rfl
        have e2 : stepAt l at_ 0 m = at_ + m := by unfold stepAt; rw [if_pos (by omega)]; rfl
        have e3 : stepErr l at_ 0 m = 0 := by unfold stepErr; rw [if_pos rfl, if_neg hk, if_neg hl]
        have e4 : (stepTook l at_ 0 m).length = m := by rw [e1]; simp; omega
        refine (pass_okX w g l at_ m h (by omega)).mono ?_
        rintro e w' ⟨A, c, rfl, hr, hc, ho⟩
        exact ⟨A, c, by rw [e4], by rw [e4, e1]; exact hr, by rw [e2, e3]; exact hc, ho⟩
  · have e1 : stepTook l at_ err k = [] := by unfold stepTook; rw [if_neg (by omega)]
    have e2 : stepAt l at_ err k = at_ := by unfold stepAt; rw [if_neg (by omega)]
    have e3 : stepErr l at_ err k = err := by unfold stepErr; rw [if_neg he]
    refine (pass_lateX w g l at_ k err h (by simpa using he)).mono ?_
    rintro e w' ⟨rfl, hc, ho⟩
    exact ⟨none, 0, by rw [e1]; rfl, by rw [e1]; exact Rd.nil_ _, by rw [e2, e3]; exact hc, ho⟩

def TookX (A0 : Option Addr) (c0 : Nat) (w : World) (g : Nat) (l : List Int) (at_ : Nat) (err k : Int) (e : Ending) (w' : World) : Prop :=
  ∃ A, e = .returned (.slice A (stepTook l at_ err k).length (stepTook l at_ err k).length) ∧ New 5 w w' A (stepTook l at_ err k).length (stepTook l at_ err k) ∧
    IsCurX A0 c0 w' g l (stepAt l at_ err k) (stepErr l at_ err k) ∧ w.grownBy w' (some g)

theorem take_isX {A0 : Option Addr} {c0 : Nat} (w : World) (g : Nat) (l : List Int) (at_ : Nat) (err k : Int) (h : IsCurX A0 c0 w g l at_ err) :
    Calls Tryz.prog 114 #[.pointer (some ⟨g, 0, none⟩), .int .i64 k] w (TookX A0 c0 w g l at_ err k) := by
  have hsm := h.sm
  have H := Lib.hid h
  have hlen := stepTook_len l at_ err k
  unfold TookX
  have H0 := Lib.hid (pass_isX w g l at_ err k h)
  unfold PassedX at H0
  generalize stepTook l at_ err k = xs at *
  generalize stepAt l at_ err k = at1 at *
  generalize stepErr l at_ err k = err1 at *
  clear h
  go_enter Tryz.func114, Tryz.ntmps114
  go_wp2_with fail
  refine H0.out.mono ?_
  rintro e w1 ⟨A, c, rfl, hr, hc, ho⟩
  have H1 := Lib.hid hr
  have H2 := Lib.hid hc
  have H3 := Lib.hid ho
  clear hr hc ho
  go_wp2_with fail
  refine (copied_is w1 A _ c xs (H1.out.more (Nat.le_of_lt H2.out.lt)) (by omega)).mono ?_
  rintro e w2 ⟨A2, rfl, hn, hb⟩
  have H4 := Lib.hid hn
  have H5 := Lib.hid hb
  clear hn hb
  go_wp2
  go_ret
  exact ⟨A2, rfl, H4.out.from_ H3.out.size, H2.out.keep (H5.out.mono H2.out.lt), only_trans H3.out (only_of_below H5.out _)⟩

def NumdX (A0 : Option Addr) (c0 : Nat) (w : World) (g : Nat) (l : List Int) (at_ : Nat) (err k : Int) (e : Ending) (w' : World) : Prop :=
  e = .returned (.int .u64 (numVal l at_ err k)) ∧ IsCurX A0 c0 w' g l (numAt l at_ err k) (numErr l at_ err k) ∧ w.grownBy w' (some g)

set_option maxHeartbeats 400000 in
theorem num_badX {A0 : Option Addr} {c0 : Nat} (w : World) (g : Nat) (l : List Int) (at_ : Nat) (err k : Int) (h : IsCurX A0 c0 w g l at_ err) (hk : ¬ numOk k) :
    Calls Tryz.prog 113 #[.pointer (some ⟨g, 0, none⟩), .int .i64 k] w (NumdX A0 c0 w g l at_ err k) := by
  unfold NumdX numVal numAt numErr
  simp only [if_neg hk]
  have hk' : k < 1 ∨ 8 < k := by unfold numOk at hk; omega
  have H := Lib.hid h
  obtain ⟨A, c, h0, _, _⟩ := h.ex
  have H0 := Lib.hid h0
  clear h h0 hk
  have H1 := Lib.hid hk'
  clear hk'
  by_cases he : err = 0
  · subst he
    go_enter Tryz.func113, Tryz.ntmps113
    go_wp2_with fail
    refine (isSize_no k w H1.out).mono ?_
    rintro e w' ⟨rfl, rfl⟩
    go_wp2_with fail
    refine (fail_first w g A _ c at_ 2 H0.out).mono ?_
    rintro e w' ⟨rfl, rfl⟩
    go_wp2
    go_ret
    exact ⟨rfl, H.out.set2, only_setCell (only_refl w _) (.inl rfl) _⟩
  · have he' : (err == 0) = false := by simpa using he
    simp only [if_neg he]
    go_enter Tryz.func113, Tryz.ntmps113
    go_wp2_with fail
    refine (isSize_no k w H1.out).mono ?_
    rintro e w' ⟨rfl, rfl⟩
    go_wp2_with fail
    refine (fail_later w g A _ c at_ err 2 H0.out he').mono ?_
    rintro e w' ⟨rfl, rfl⟩
    go_wp2
    go_ret
    exact ⟨rfl, H.out, only_refl w _⟩

set_option maxHeartbeats 1000000 in
theorem num_okX {A0 : Option Addr} {c0 : Nat} (w : World) (g : Nat) (l : List Int) (at_ : Nat) (err k : Int) (h : IsCurX A0 c0 w g l at_ err) (hk : numOk k) :
    Calls Tryz.prog 113 #[.pointer (some ⟨g, 0, none⟩), .int .i64 k] w (NumdX A0 c0 w g l at_ err k) := by
  unfold NumdX numVal numAt numErr
  simp only [if_pos hk]
  have hlen : (stepTook l at_ err k).length ≤ 8 := by
    unfold numOk at hk
    unfold stepTook
    split
    · simp; omega
    · simp
  have H0 := Lib.hid (pass_isX w g l at_ err k h)
  unfold PassedX at H0
  generalize stepTook l at_ err k = xs at *
  generalize stepAt l at_ err k = at1 at *
  generalize stepErr l at_ err k = err1 at *
  obtain ⟨hk1, hk8⟩ := hk
  clear h
  go_enter Tryz.func113, Tryz.ntmps113
  go_wp2_with fail
  refine (isSize_yes k w hk1 hk8).mono ?_
  rintro e w' ⟨rfl, rfl⟩
  go_wp2_with fail
  refine H0.out.mono ?_
  rintro e w1 ⟨A, c, rfl, hr, hc, ho⟩
  have hoct := hr.oct
  have H1 := Lib.hid hr
  have H2 := Lib.hid hc
  have H3 := Lib.hid ho
  have HO := Lib.hid hoct
  clear hr hc ho hoct
  go_wp2
  go_loop [5, 7, 23] (fun s _ i => ∃ m : Nat, m ≤ xs.length ∧ i = .int .i64 m ∧ s = .int .u64 (numOf (xs.take m))) (fun _ _ i => xs.length - (intOf i).toNat)
  case atStart => exact ⟨0, Nat.zero_le _, rfl, rfl⟩
  case round =>
    obtain ⟨m, hm, rfl, rfl⟩ := hrel
    by_cases hlt : m < xs.length
    · obtain ⟨b, off, rfl, hb, hcell⟩ := H1.out.at_ (by omega)
      have hcm := hcell m hlt
      have HS := Lib.hid (numOf_step xs m hlt hlen HO.out)
      clear hcell
      go_wp2
      refine ⟨⟨m + 1, by omega, by go_num, by rw [HS.out]⟩, by simp [intOf]; omega⟩
    · obtain rfl : m = xs.length := by omega
      rw [List.take_length]
      go_wp2
      go_ret
      exact ⟨rfl, H2.out, H3.out⟩

theorem num_isX {A0 : Option Addr} {c0 : Nat} (w : World) (g : Nat) (l : List Int) (at_ : Nat) (err k : Int) (h : IsCurX A0 c0 w g l at_ err) :
    Calls Tryz.prog 113 #[.pointer (some ⟨g, 0, none⟩), .int .i64 k] w (NumdX A0 c0 w g l at_ err k) := by
  by_cases hk : numOk k
  · exact num_okX w g l at_ err k h hk
  · exact num_badX w g l at_ err k h hk

def NewCurX (w : World) (l : List Int) (e : Ending) (w' : World) : Prop :=
  ∃ g A0 c0, e = .returned (.pointer (some ⟨g, 0, none⟩)) ∧ w.heap.size ≤ g ∧ IsCurX A0 c0 w' g l 0 0 ∧ (0 < l.length → ∀ a, A0 = some a → w.heap.size ≤ a.block) ∧ Below w.heap.size w w'
theorem new_isX (w : World) (A : Option Addr) (n c : Nat) (l : List Int) (hr : Rd w w.heap.size A n l) (hm : n ≤ 281474976710656) :
    Calls Tryz.prog 111 #[.slice A n c] w (NewCurX w l) := by
  have H := Lib.hid hr
  clear hr
  go_enter Tryz.func111, Tryz.ntmps111
  go_wp2_with fail
  refine (copied_is w A n c l H.out hm).mono ?_
  rintro e w1 ⟨A1, rfl, hn, hb⟩
  have H1 := Lib.hid hn
  have H2 := Lib.hid hb
  clear hn hb
  go_wp2
  go_ret
  refine ⟨w1.heap.size, A1, n, rfl, H2.out.size, ⟨isCur_new H1.out hm, ?_⟩, ?_, H2.out.alloc H2.out.size _⟩
  · have := (Blk.new w1 212 #[.slice A1 n n, .int .i64 0, .int .i64 0]).cell 0
    rw [H1.out.2.1]
    exact this
  · intro hpos a ha
    rcases H1.out.2.2 with h | ⟨g, hg, hlo, _⟩
    · have := H1.out.2.1; omega
    · rw [hg] at ha; injection ha with ha; subst ha; exact hlo
end Go.Proofs.YtdgoeibfggjbmaaGreatDoor
namespace Go.Proofs.YtdgoeibfggjbmaaGreatDoor
open Go.RowKit
set_option maxRecDepth 100000
set_option linter.unusedSimpArgs false
set_option linter.unusedVariables false

abbrev CS := Nat × Int
def nV (l : List Int) (s : CS) (k : Int) : Int := numVal l s.1 s.2 k
def nS (l : List Int) (s : CS) (k : Int) : CS := (numAt l s.1 s.2 k, numErr l s.1 s.2 k)
def tV (l : List Int) (s : CS) (k : Int) : List Int := stepTook l s.1 s.2 k
def tS (l : List Int) (s : CS) (k : Int) : CS := (stepAt l s.1 s.2 k, stepErr l s.1 s.2 k)
abbrev CurS (A0 : Option Addr) (c0 : Nat) (w : World) (g : Nat) (l : List Int) (s : CS) : Prop := IsCurX A0 c0 w g l s.1 s.2
section
variable {A0 : Option Addr} {c0 : Nat}
theorem numS (w : World) (g : Nat) (l : List Int) (s : CS) (k : Int) (h : CurS A0 c0 w g l s) :
    Calls Tryz.prog 113 #[.pointer (some ⟨g, 0, none⟩), .int .i64 k] w fun e w' => e = .returned (.int .u64 (nV l s k)) ∧ CurS A0 c0 w' g l (nS l s k) ∧ w.grownBy w' (some g) := num_isX w g l s.1 s.2 k h
theorem takeS (w : World) (g : Nat) (l : List Int) (s : CS) (k : Int) (h : CurS A0 c0 w g l s) :
    Calls Tryz.prog 114 #[.pointer (some ⟨g, 0, none⟩), .int .i64 k] w fun e w' => ∃ A, e = .returned (.slice A (tV l s k).length (tV l s k).length) ∧ New 5 w w' A (tV l s k).length (tV l s k) ∧ CurS A0 c0 w' g l (tS l s k) ∧ w.grownBy w' (some g) := take_isX w g l s.1 s.2 k h
end
theorem took_oct {l : List Int} (h : Oct l) (at_ : Nat) (err k : Int) : Oct (stepTook l at_ err k) := by
  unfold stepTook
  split
  · exact fun x hx => h x (List.mem_of_mem_drop (List.mem_of_mem_take hx))
  · exact fun x hx => by cases hx
theorem took_le (l : List Int) (at_ : Nat) (err : Int) (k : Nat) : (stepTook l at_ err k).length ≤ k := by
  unfold stepTook
  split
  · simp; omega
  · simp
theorem pow256_le (a b : Nat) (h : a ≤ b) : (256 : Int) ^ a ≤ 256 ^ b := by
  have : (256 : Nat) ^ a ≤ 256 ^ b := Nat.pow_le_pow_right (by omega) h
  exact_mod_cast this
theorem nV_bd {l : List Int} (h : Oct l) (s : CS) (k : Nat) : 0 ≤ nV l s k ∧ nV l s k < 256 ^ k := by
  unfold nV numVal
  split
  · have h1 := numOf_bd _ (took_oct h s.1 s.2 k)
    have h2 := pow256_le _ _ (took_le l s.1 s.2 k)
    omega
  · have : (0 : Int) < 256 ^ k := Int.pow_pos (by omega)
    omega
theorem IsCurX.oct {A0 : Option Addr} {c0 : Nat} {w : World} {g : Nat} {l : List Int} {a : Nat} {e : Int} (h : IsCurX A0 c0 w g l a e) : Oct l := by
  obtain ⟨_, _, _, h1, _⟩ := h.ex
  exact h1.oct

section
variable {A0 : Option Addr} {c0 : Nat}
theorem label_is (w : World) (g : Nat) (l : List Int) (s : CS) (h : CurS A0 c0 w g l s) :
    Calls Tryz.prog 236 #[.pointer (some ⟨g, 0, none⟩)] w fun e w' => e = .returned (.int .u32 (nV l s 3)) ∧ CurS A0 c0 w' g l (nS l s 3) ∧ w.grownBy w' (some g) := by
  have hb := nV_bd h.oct s 3
  have HN := Lib.hid (numS w g l s 3 h)
  have hb : 0 ≤ nV l s 3 ∧ nV l s 3 < 16777216 := hb
  clear h
  generalize nV l s 3 = x at *
  obtain ⟨hb0, hb1⟩ := hb
  go_enter Tryz.func236, Tryz.ntmps236
  go_wp2_with fail
  refine HN.out.mono ?_
  rintro e w1 ⟨rfl, hc, hg⟩
  have HC := Lib.hid hc
  have HG := Lib.hid hg
  clear hc hg
  go_wp2
  go_ret
  exact ⟨rfl, HC.out, HG.out⟩
end

def pad (xs : List Int) : List Int := xs ++ List.replicate (16 - xs.length) 0
theorem pad_len {xs : List Int} (h : xs.length ≤ 16) : (pad xs).length = 16 := by simp [pad]; omega
theorem pad_oct {xs : List Int} (h : Oct xs) : Oct (pad xs) := fun x hx => by
  rcases List.mem_append.1 hx with hx | hx
  · exact h x hx
  · rw [List.eq_of_mem_replicate hx]; omega
theorem nb_le (v : Bool) : nb v ≤ 16 := by cases v <;> simp [nb]
theorem copy_row {P : Program} (w : World) (dT sT ty elem : TypeId) (hu : P.underlying dT = some (.slice elem)) (hsz : (P.info? elem).map (·.size) = some 1) (dp sp : Option Addr) (dLen dCap sLen sCap : Nat)
    (g off : Nat) (cur : List Value) (t : TypeId) (hg : w.heap[g]? = some (.cells cur.toArray t (0, 0))) (cs : List Value) (hn : cs.length = Nat.min sLen dLen)
    (hpos : 0 < cs.length → dp = some ⟨g, off, none⟩ ∧ ∃ ad, sp = some ad ∧ ∀ j v, cs[j]? = some v → w.cell? (ad.add j) = some v)
    (hfit : off + cs.length ≤ cur.length) (h1 : ∀ v ∈ cs, v.oneCell' = true) :
    ∃ w', (Builtin.copy_ #[dT, sT] ty #[.slice dp dLen dCap, .slice sp sLen sCap]).run P w = .ok (.int .i64 cs.length) w' ∧ w'.heap[g]? = some (.cells (cur.take off ++ cs ++ cur.drop (off + cs.length)).toArray t (0, 0)) ∧ Below g w w' ∧ w.grownBy w' (some g) := by
  by_cases h0 : cs.length = 0
  · obtain rfl : cs = [] := List.eq_nil_of_length_eq_zero h0
    refine ⟨w, run_copy_none (P := P) w dT sT ty elem dp sp dLen dCap sLen sCap hu hsz (by simpa using hn.symm), ?_, Below.refl _ _, only_refl _ _⟩
    simpa using hg
  · obtain ⟨rfl, ad, rfl, hsrc⟩ := hpos (by omega)
    refine ⟨_, run_copy_row (P := P) w dT sT ty elem g off dLen dCap ad sLen sCap cur.toArray t cs hu hsz hg hn hsrc (by simpa using hfit) h1, ?_, below_setRow _ _ _ (Nat.le_refl _), ?_⟩
    · rw [setRow_heap w g _ _ t _ hg]
    · have := below_setRow w g (cur.toArray.toList.take off ++ cs ++ cur.toArray.toList.drop (off + cs.length)).toArray (Nat.le_refl g)
      exact ⟨this.os, this.tape, this.output, this.size, fun i hi hne => setRow_other _ _ _ _ (fun e => hne (by rw [e]))⟩
theorem bl_one (W : World) (o : Obj) : Below W.heap.size W (W.alloc o) := (Below.refl _ _).alloc (Nat.le_refl _) _
theorem bl_drew (W : World) : Below W.heap.size W W.drew := below_drewN (Below.refl _ _) 1
theorem only_setRow {a w : World} {row : Option Nat} {g : Nat} (h : a.grownBy w row) (hp : a.heap.size ≤ g) (cs : Array Value) : a.grownBy (w.setRow g cs) row := by
  have hb := below_setRow w g cs (Nat.le_refl g)
  exact ⟨hb.os.trans h.os, hb.tape.trans h.tape, hb.output.trans h.output, Nat.le_trans h.size hb.size, fun i hi hne => (hb.block i (by omega)).trans (h.block i hi hne)⟩
theorem only_setCellsN {a w : World} {row : Option Nat} {g : Nat} (h : a.grownBy w row) (hp : a.heap.size ≤ g) (cs : List Value) (o : Nat) : a.grownBy (w.setCells g o cs) row := by
  have hb := below_cells (a := w) (B := g) (Nat.le_refl g) cs o w (Below.refl _ _)
  exact ⟨hb.os.trans h.os, hb.tape.trans h.tape, hb.output.trans h.output, Nat.le_trans h.size hb.size, fun i hi hne => (hb.block i (by omega)).trans (h.block i hi hne)⟩
theorem only_then {a b w : World} {B : Nat} {row : Option Nat} (h : a.grownBy b row) (hB : Below B b w) (hB2 : a.heap.size ≤ B) : a.grownBy w row :=
  ⟨hB.os.trans h.os, hB.tape.trans h.tape, hB.output.trans h.output, Nat.le_trans h.size hB.size, fun i hi hne => (hB.block i (by omega)).trans (h.block i hi hne)⟩
theorem IsCurX.above {A0 : Option Addr} {c0 : Nat} {w w' : World} {g B : Nat} {l : List Int} {a : Nat} {e : Int} (h : IsCurX A0 c0 w g l a e) (hk : Below B w w') (hg : g < B) : IsCurX A0 c0 w' g l a e := h.keep (hk.mono hg)
theorem blk_range {w : World} {g : Nat} {t : TypeId} {cs : List Value} (h : Blk w g t cs.toArray) : w.rangeAt g 0 cs := fun j v hv => by
  rw [Nat.zero_add, h.cell]
  simpa using hv

theorem built_ip1 (v : Bool) : Tryz.prog.built 27 [(0, .bool v)] = some (ipc v z16).toArray := by cases v <;> kernel_rfl
theorem ip_build1 {ops : Array Oper} {rest : List Oper} {o : Oper} {a : Act} {w : World} {Q : Exit → Act → World → Prop} (hg : o.guard = none) (x : Operand) (ho : o.op = .build 27 #[(0, x)]) (v : Bool) (hx : a.eval x = .bool v)
    (h : wpList Tryz.prog ops Q rest (a.put o.dst (.agg (ipc v z16).toArray)) w) : wpList Tryz.prog ops Q (o :: rest) a w := by
  have hb := built_ip1 v
  have he : (#[(0, x)].map fun (i, x) => (i, a.eval x)).toList = [(0, .bool v)] := by simp [hx]
  refine wpList_build hg 27 _ ho (by rw [he, hb]; rfl) ?_
  rw [he, hb]
  exact h
theorem ip_store_to {ops : Array Oper} {rest : List Oper} {o : Oper} {a : Act} {w : World} {Q : Exit → Act → World → Prop} (hgd : o.guard = none) (x y : Operand) (ho : o.op = .store 27 x y) (g : Nat) (v : Bool) (l : List Int) (hl : l.length = 16)
    (hx : a.eval x = .pointer (some ⟨g, 0, none⟩)) (hy : a.eval y = .agg (ipc v l).toArray) (t : TypeId) (old : Array Value) (hg : Blk w g t old) (hold : old.size = 17) (I : World → Prop) (hI : I (w.setRow g (ipc v l).toArray))
    (h : ∀ W, I W → wpList Tryz.prog ops Q rest (a.put o.dst undef) W) : wpList Tryz.prog ops Q (o :: rest) a w :=
  wpList_store_row hgd 27 x y ho g _ hx hy t old hg (by simpa using ip_size v l hl) (by rw [hold]; simp [hl]) (all_oneCell_toArray (one_ipcN v l)) (h _ hI)

theorem splice_ip (v : Bool) (xs : List Int) : (ipc v z16).take 1 ++ u8s xs ++ (ipc v z16).drop (1 + (u8s xs).length) = ipc v (pad xs) := by
  have h1 : (ipc v z16).take 1 = [Value.bool v] := rfl
  have h2 : (ipc v z16).drop (1 + (u8s xs).length) = (u8s z16).drop xs.length := by rw [Nat.add_comm, u8s_len]; rfl
  have h3 : (u8s z16).drop xs.length = u8s (List.replicate (16 - xs.length) 0) := by rw [z16, ← List.map_drop, List.drop_replicate]
  rw [h1, h2, h3, pad]
  simp
structure IpW (A0 : Option Addr) (c0 : Nat) (w W : World) (g : Nat) (l : List Int) (s : CS) (v : Bool) (xs : List Int) : Prop where
  res : ∃ Z, Blk W w.heap.size 27 Z ∧ Z.size = 17
  a : Blk W (w.heap.size + 1) 27 (ipc v xs).toArray
  cu : CurS A0 c0 W g l s
  gr : w.grownBy W (some g)
  lt : g < w.heap.size
section
variable {A0 : Option Addr} {c0 : Nat}
theorem IpW.below {w W W' : World} {g : Nat} {l : List Int} {s : CS} {v : Bool} {xs : List Int} (h : IpW A0 c0 w W g l s v xs) (hB : Below W.heap.size W W') : IpW A0 c0 w W' g l s v xs := by
  obtain ⟨Z, hZ, hs⟩ := h.res
  exact ⟨⟨Z, hZ.below hB hZ.lt, hs⟩, h.a.below hB h.a.lt, h.cu.above hB h.cu.toIsCurT.lt, only_trans h.gr (only_of_below hB _), h.lt⟩
theorem IpW.step {w W W' : World} {g : Nat} {l : List Int} {s s' : CS} {v : Bool} {xs : List Int} (h : IpW A0 c0 w W g l s v xs) (hc : CurS A0 c0 W' g l s') (hg : W.grownBy W' (some g)) : IpW A0 c0 w W' g l s' v xs := by
  obtain ⟨Z, hZ, hs⟩ := h.res
  have := h.lt
  exact ⟨⟨Z, hZ.grown hg (fun e => by injection e with e; omega), hs⟩, h.a.grown hg (fun e => by injection e with e; omega), hc, only_trans h.gr hg, h.lt⟩
set_option maxHeartbeats 1000000 in
theorem rip_is (w : World) (g : Nat) (l : List Int) (s : CS) (v : Bool) (h : CurS A0 c0 w g l s) :
    Calls Tryz.prog 241 #[.pointer (some ⟨g, 0, none⟩), .bool v] w fun e w' => e = .returned (.agg (ipc v (pad (tV l s (nb v)))).toArray) ∧ CurS A0 c0 w' g l (tS l s (nb v)) ∧ w.grownBy w' (some g) := by
  have hlt := h.toIsCurT.lt
  have HOct := Lib.hid h.oct
  have HB1 : Hid (∀ Z Z', Z.size = 17 → IpW A0 c0 w (((w.alloc (.cells Z 27)).alloc (.cells Z' 27)).setRow (w.heap.size + 1) (ipc v z16).toArray) g l s v z16) := Lib.hid (fun Z Z' hZ => by
    have b1 : Blk ((w.alloc (.cells Z 27)).alloc (.cells Z' 27)) (w.heap.size + 1) 27 Z' := by simpa using Blk.new (w.alloc (.cells Z 27)) 27 Z'
    have hb : Below w.heap.size w (((w.alloc (.cells Z 27)).alloc (.cells Z' 27)).setRow (w.heap.size + 1) (ipc v z16).toArray) := ((((Below.refl w.heap.size w).alloc (Nat.le_refl _) _).alloc (by simp) _)).trans (below_setRow _ _ _ (by omega))
    exact ⟨⟨Z, (setRow_other _ _ _ _ (by omega)).trans ((Blk.new w 27 Z).alloc _), hZ⟩, b1.setRow _, h.above hb hlt, only_of_below hb _, hlt⟩)
  have HB0 : Hid (∀ Z Z', Blk ((w.alloc (.cells Z 27)).alloc (.cells Z' 27)) (w.heap.size + 1) 27 Z') := Lib.hid (fun Z Z' => by simpa using Blk.new (w.alloc (.cells Z 27)) 27 Z')
  have hz16 : z16.length = 16 := rfl
  have hs16 : ∀ W, (Instr.sliceAt 25 (.pointer (some ⟨w.heap.size + 1, 1, none⟩)) none none none).run Tryz.prog W = .ok (.slice (some ⟨w.heap.size + 1, 1, none⟩) 16 16) W := fun W => by go_simp
  have HZ16 : Hid (z16.length = 16) := Lib.hid rfl
  clear h hz16
  go_enter Tryz.func241, Tryz.ntmps241
  go_wp2_with (first
    | (refine ip_build1 rfl _ rfl v rfl ?_)
    | (refine ip_store_to rfl _ _ rfl (w.heap.size + 1) v z16 HZ16.out rfl rfl 27 _ (HB0.out _ _) rfl (fun W => IpW A0 c0 w W g l s v z16) (HB1.out _ _ rfl) ?_; intro W hW; have HW := Lib.hid hW; clear hW))
  have HD := Lib.hid (HW.out.below (bl_drew W))
  clear HW
  refine wp_region_held_drew (S := fun _ => True) (by kernel_rfl) (trivial) (fun hS => ?_)
  refine wpAnyH_take (i := 0) (oi := ⟨some 8, _, _, _, _, _⟩) (v := ?_) rfl (by kernel_rfl) (by kernel_rfl) (by kernel_rfl) (fun _ _ _ h => h) (Or.inl ⟨by rfl, ?_⟩) hS ?_
  rotate_left
  · intro wq hq
    first | (go_simp; done) | (go_simp; rfl)
  try simp only [Act.put, zP, zQ, zR]
  refine wpAnyH_take (i := 1) (oi := ⟨some 9, _, _, _, _, _⟩) (v := ?_) rfl (by kernel_rfl) (by kernel_rfl) (by kernel_rfl) (fun _ _ _ h => h) (Or.inl ⟨by rfl, ?_⟩) hS ?_
  rotate_left
  · intro wq hq
    first | (go_simp; done) | (go_simp; rfl)
  try simp only [Act.put, zP, zQ, zR]
  refine wpAnyH_take (i := 2) (oi := ⟨some 10, _, _, _, _, _⟩) (v := ?_) rfl (by kernel_rfl) (by kernel_rfl) (by kernel_rfl) (fun _ _ _ h => h) (Or.inl ⟨by rfl, ?_⟩) hS ?_
  rotate_left
  · intro wq hq
    first | (go_simp; done) | (go_simp; rfl)
  try simp only [Act.put, zP, zQ, zR]
  refine wpAnyH_ready (rs := [3]) (by kernel_rfl) (by simp) ?_
  refine AllReadyH.cons (o := ⟨some 11, _, _, _, _, _⟩) rfl (fun K hK => ?_) AllReadyH.nil
  rw [if_pos (by rfl)]
  refine wp_load_mid 27 _ rfl (w.heap.size + 1) 0 rfl (ipc v z16) _ (blk_range HD.out.a) Tryz.underlying27 rfl (ip_size v z16 HZ16.out) ?_
  refine hK.out _ _ (trivial) (fun hS => ?_)
  clear hK K
  try simp only [Act.put, zP, zQ, zR]
  refine wpAnyH_ready (rs := [4]) (by kernel_rfl) (by simp) ?_
  refine AllReadyH.cons (o := ⟨some 12, _, _, _, _, _⟩) rfl (fun K hK => ?_) AllReadyH.nil
  rw [if_pos (by rfl)]
  go_wp2_with fail
  refine (address_at _ v z16 HZ16.out (oct_zeros 16)).mono ?_
  rintro e w2 ⟨A2, rfl, _, hB2⟩
  have HD2 := Lib.hid (HD.out.below hB2)
  clear hB2 HD
  refine hK.out _ _ (trivial) (fun hS => ?_)
  clear hK K
  try simp only [Act.put, zP, zQ, zR]
  refine wpAnyH_take (i := 5) (oi := ⟨some 13, _, _, _, _, _⟩) (v := ?_) rfl (by kernel_rfl) (by kernel_rfl) (by kernel_rfl) (fun _ _ _ h => h) (Or.inl ⟨by rfl, ?_⟩) hS ?_
  rotate_left
  · intro wq hq
    first | (go_simp; done) | (go_simp; rfl)
  try simp only [Act.put, zP, zQ, zR]
  refine wpAnyH_ready (rs := [6]) (by kernel_rfl) (by simp) ?_
  refine AllReadyH.cons (o := ⟨some 14, _, _, _, _, _⟩) rfl (fun K hK => ?_) AllReadyH.nil
  rw [if_pos (by rfl)]
  go_wp2_with fail
  refine (takeS _ g l s (nb v) HD2.out.cu).mono ?_
  rintro e w3 ⟨A3, rfl, hN3, hC3, hG3⟩
  have HD3 := Lib.hid (HD2.out.step hC3 hG3)
  clear hC3 hG3 HD2
  refine hK.out _ _ (trivial) (fun hS => ?_)
  clear hK K
  try simp only [Act.put, zP, zQ, zR]
  have hle : (tV l s (nb v)).length ≤ 16 := Nat.le_trans (took_le l s.1 s.2 (nb v)) (nb_le v)
  have hoc : Oct (tV l s (nb v)) := took_oct HOct.out _ _ _
  generalize hxs : tV l s (nb v) = xs at *
  have HXs := Lib.hid hxs
  clear hxs
  have hrd := hN3.rd
  have hsrc : 0 < (u8s xs).length → (some ⟨w.heap.size + 1, 1, none⟩ : Option Addr) = some ⟨w.heap.size + 1, 1, none⟩ ∧ ∃ ad, A3 = some ad ∧ ∀ j v, (u8s xs)[j]? = some v → w3.cell? (ad.add j) = some v := fun hp => by
    obtain ⟨b, off, rfl, _, hc⟩ := hrd.at_ (by simpa using hp)
    exact ⟨rfl, _, rfl, src_u8 rfl hc⟩
  obtain ⟨w4, hcp, hg4, hB4, hG4⟩ := copy_row (P := Tryz.prog) w3 38 38 3 5 Tryz.underlying38 size_byte (some ⟨w.heap.size + 1, 1, none⟩) A3 16 16 xs.length xs.length (w.heap.size + 1) 1 (ipc v z16) 27 HD3.out.a (u8s xs) (by rw [u8s_len]; exact (Nat.min_eq_left hle).symm) hsrc (by rw [u8s_len, ipc_len, HZ16.out]; omega) (one_u8s xs)
  rw [splice_ip] at hg4
  have HD4 : Hid (IpW A0 c0 w w4 g l (tS l s (nb v)) v (pad xs)) := Lib.hid (by
    obtain ⟨Z, hZ, hs⟩ := HD3.out.res
    have hl := HD3.out.lt
    exact ⟨⟨Z, hZ.below hB4 (by omega), hs⟩, hg4, HD3.out.cu.above hB4 (by omega), only_then HD3.out.gr hB4 (by omega), hl⟩)
  have HLen := Lib.hid (pad_len hle)
  clear HD3 hsrc hrd hN3 hg4 hB4 hG4 hle hoc
  refine wpAnyH_ready (rs := [7]) (by kernel_rfl) (by simp) ?_
  refine AllReadyH.cons (o := ⟨some 15, _, _, _, _, _⟩) rfl (fun K hK => ?_) AllReadyH.nil
  rw [if_pos (by rfl)]
  go_wp2_with fail
  refine hK.out _ _ (trivial) (fun hS => ?_)
  clear hK K
  try simp only [Act.put, zP, zQ, zR]
  refine wpAnyH_done (by kernel_rfl) ?_ _
  clear hcp
  obtain ⟨Z, hZ, hZs⟩ := HD4.out.res
  have HZ := Lib.hid hZ
  have HZs := Lib.hid hZs
  clear hZ hZs
  go_wp2_with (first
    | (refine ip_fetch rfl _ rfl (w.heap.size + 1) 0 v (pad xs) HLen.out rfl (blk_range HD4.out.a) ?_)
    | (refine ip_store_to rfl _ _ rfl w.heap.size v (pad xs) HLen.out rfl rfl 27 Z HZ.out HZs.out (fun W => Blk W w.heap.size 27 (ipc v (pad xs)).toArray ∧ CurS A0 c0 W g l (tS l s (nb v)) ∧ w.grownBy W (some g)) ⟨HZ.out.setRow _, HD4.out.cu.above (below_setRow _ _ _ (Nat.le_refl _)) HD4.out.lt, only_setRow HD4.out.gr (Nat.le_refl _) _⟩ ?_; intro W2 hW2; have HW2 := Lib.hid hW2; clear hW2))
  refine bodyPost_ret (v := .agg (ipc v (pad xs)).toArray) ?_ rfl ⟨by rw [HXs.out], HW2.out.2⟩
  exact results_cell_row rfl _ _ w.heap.size 27 _ (0, 0) _ rfl HW2.out.1 Tryz.underlying27 rfl (by rw [ip_size v _ HLen.out]; simp)
end
end Go.Proofs.YtdgoeibfggjbmaaGreatDoor
namespace Go.Proofs.YtdgoeibfggjbmaaGreatDoor
open Go.RowKit
set_option maxRecDepth 100000
set_option linter.unusedSimpArgs false
set_option linter.unusedVariables false

theorem blk_there {w : World} {g : Nat} {t : TypeId} {cs : List Value} (h : Blk w g t cs.toArray) (o n : Nat) (hn : o + n ≤ cs.length) : w.there g o n := fun j hj => by
  rw [h.cell, h.frozen]
  refine ⟨?_, rfl⟩
  simp
  omega
theorem blk_setCells {g : Nat} {t : TypeId} : ∀ (new old pre post : List Value) (w : World), Blk w g t (pre ++ (old ++ post)).toArray → old.length = new.length → Blk (w.setCells g pre.length new) g t (pre ++ (new ++ post)).toArray
  | [], old, pre, post, w, h, hl => by
    obtain rfl : old = [] := List.eq_nil_of_length_eq_zero hl
    exact h
  | v :: new, [], pre, post, w, h, hl => by simp at hl
  | v :: new, o :: old, pre, post, w, h, hl => by
    have h1 := h.set_ pre.length v
    have e : ((pre ++ (o :: old ++ post)).toArray.setIfInBounds pre.length v) = ((pre ++ [v]) ++ (old ++ post)).toArray := by simp
    rw [e] at h1
    have h2 := blk_setCells new old (pre ++ [v]) post _ h1 (by simpa using hl)
    rw [List.length_append, List.append_assoc] at h2
    exact h2

def wholeV (l : List Int) (s : CS) : Bool × List Int × Int :=
  if nV l s 1 = 32 then (false, pad (tV l (nS l s 1) (nb false)), nV l s 1)
  else if nV l s 1 = 128 then (true, pad (tV l (nS l s 1) (nb true)), nV l s 1)
  else (false, z16, nV l s 1)
def wholeS (l : List Int) (s : CS) : CS :=
  if nV l s 1 = 32 then tS l (nS l s 1) (nb false)
  else if nV l s 1 = 128 then tS l (nS l s 1) (nb true)
  else nS l s 1
theorem built_pf1 (n : Int) : Tryz.prog.built 51 [(1, .int .i64 n)] = some (pfc false z16 n).toArray := by kernel_rfl
theorem pf_build1 {ops : Array Oper} {rest : List Oper} {o : Oper} {a : Act} {w : World} {Q : Exit → Act → World → Prop} (hg : o.guard = none) (x : Operand) (ho : o.op = .build 51 #[(1, x)]) (n : Int) (hx : a.eval x = .int .i64 n)
    (h : wpList Tryz.prog ops Q rest (a.put o.dst (.agg (pfc false z16 n).toArray)) w) : wpList Tryz.prog ops Q (o :: rest) a w := by
  have hb := built_pf1 n
  have he : (#[(1, x)].map fun (i, x) => (i, a.eval x)).toList = [(1, .int .i64 n)] := by simp [hx]
  refine wpList_build hg 51 _ ho (by rw [he, hb]; rfl) ?_
  rw [he, hb]
  exact h
theorem pf_store_to {ops : Array Oper} {rest : List Oper} {o : Oper} {a : Act} {w : World} {Q : Exit → Act → World → Prop} (hgd : o.guard = none) (x y : Operand) (ho : o.op = .store 51 x y) (g : Nat) (v : Bool) (l : List Int) (n : Int) (hl : l.length = 16)
    (hx : a.eval x = .pointer (some ⟨g, 0, none⟩)) (hy : a.eval y = .agg (pfc v l n).toArray) (t : TypeId) (old : Array Value) (hg : Blk w g t old) (hold : old.size = 18) (I : World → Prop) (hI : I (w.setRow g (pfc v l n).toArray))
    (h : ∀ W, I W → wpList Tryz.prog ops Q rest (a.put o.dst undef) W) : wpList Tryz.prog ops Q (o :: rest) a w := pf_store hgd x y ho g v l n hl hx hy t old hg hold (h _ hI)
theorem ip_part_to {ops : Array Oper} {rest : List Oper} {o : Oper} {a : Act} {w : World} {Q : Exit → Act → World → Prop} (hgd : o.guard = none) (x y : Operand) (ho : o.op = .store 27 x y) (g off : Nat) (v : Bool) (l : List Int) (hl : l.length = 16)
    (hx : a.eval x = .pointer (some ⟨g, off, none⟩)) (hy : a.eval y = .agg (ipc v l).toArray) (ht : w.there g off 17) (I : World → Prop) (hI : I (w.setCells g off (ipc v l)))
    (h : ∀ W, I W → wpList Tryz.prog ops Q rest (a.put o.dst undef) W) : wpList Tryz.prog ops Q (o :: rest) a w :=
  part_store hgd 27 x y ho g off (ipc v l) hx hy (by rw [ipc_len, hl]; exact ht) (by rw [ipc_len, hl]; kernel_rfl) (one_ipcN v l) (h _ hI)

structure PfW (A0 : Option Addr) (c0 : Nat) (w W : World) (g : Nat) (l : List Int) (s : CS) (p : Nat) (v : Bool) (xs : List Int) (n : Int) : Prop where
  res : ∃ Z, Blk W w.heap.size 51 Z ∧ Z.size = 18
  pb : Blk W p 51 (pfc v xs n).toArray
  hp : w.heap.size < p
  cu : CurS A0 c0 W g l s
  gr : w.grownBy W (some g)
  lt : g < w.heap.size
section
variable {A0 : Option Addr} {c0 : Nat}
theorem PfW.step {w W W' : World} {g p : Nat} {l : List Int} {s s' : CS} {v : Bool} {xs : List Int} {n : Int} (h : PfW A0 c0 w W g l s p v xs n) (hc : CurS A0 c0 W' g l s') (hg : W.grownBy W' (some g)) : PfW A0 c0 w W' g l s' p v xs n := by
  obtain ⟨Z, hZ, hs⟩ := h.res
  have := h.lt
  have := h.hp
  exact ⟨⟨Z, hZ.grown hg (fun e => by injection e with e; omega), hs⟩, h.pb.grown hg (fun e => by injection e with e; omega), h.hp, hc, only_trans h.gr hg, h.lt⟩
theorem PfW.ip {w W : World} {g p : Nat} {l : List Int} {s : CS} {v v' : Bool} {xs xs' : List Int} {n : Int} (h : PfW A0 c0 w W g l s p v xs n) (hx : xs.length = 16) (hx' : xs'.length = 16) : PfW A0 c0 w (W.setCells p 0 (ipc v' xs')) g l s p v' xs' n := by
  obtain ⟨Z, hZ, hs⟩ := h.res
  have hl := h.lt
  have hp := h.hp
  have hb := below_cells (a := W) (Nat.le_refl p) (ipc v' xs') 0 W (Below.refl _ _)
  have e : ∀ v (xs : List Int), pfc v xs n = [] ++ (ipc v xs ++ [.int .i64 n]) := fun v xs => rfl
  have h1 := h.pb
  rw [e] at h1
  have h2 := blk_setCells (ipc v' xs') (ipc v xs) [] _ W h1 (by rw [ipc_len, ipc_len, hx, hx'])
  exact ⟨⟨Z, hZ.below hb hp, hs⟩, h2, hp, h.cu.above hb (by omega), only_setCellsN h.gr (by omega) _ _, hl⟩
theorem PfW.ret {w W : World} {g p : Nat} {l : List Int} {s : CS} {v : Bool} {xs : List Int} {n : Int} (h : PfW A0 c0 w W g l s p v xs n) : Blk (W.setRow w.heap.size (pfc v xs n).toArray) w.heap.size 51 (pfc v xs n).toArray ∧ CurS A0 c0 (W.setRow w.heap.size (pfc v xs n).toArray) g l s ∧ w.grownBy (W.setRow w.heap.size (pfc v xs n).toArray) (some g) := by
  obtain ⟨Z, hZ, _⟩ := h.res
  exact ⟨hZ.setRow _, h.cu.above (below_setRow _ _ _ (Nat.le_refl _)) h.lt, only_setRow h.gr (Nat.le_refl _) _⟩

def WholePost (A0 : Option Addr) (c0 : Nat) (w : World) (g : Nat) (l : List Int) (s : CS) (e : Ending) (w' : World) : Prop :=
  e = .returned (.agg (pfc (wholeV l s).1 (wholeV l s).2.1 (wholeV l s).2.2).toArray) ∧ CurS A0 c0 w' g l (wholeS l s) ∧ w.grownBy w' (some g)
set_option maxHeartbeats 1000000 in
theorem whole_six (w : World) (g : Nat) (l : List Int) (s : CS) (h : CurS A0 c0 w g l s) (v6 : Bool) (hn : nV l s 1 = bitsOf v6) : Calls Tryz.prog 238 #[.pointer (some ⟨g, 0, none⟩)] w (WholePost A0 c0 w g l s) := by
  have hlt := h.toIsCurT.lt
  have HL : Hid ((pad (tV l (nS l s 1) (nb v6))).length = 16) := Lib.hid (pad_len (Nat.le_trans (took_le _ _ _ _) (nb_le v6)))
  have HF : Hid (wholeV l s = (v6, pad (tV l (nS l s 1) (nb v6)), bitsOf v6) ∧ wholeS l s = tS l (nS l s 1) (nb v6)) := Lib.hid (by
    unfold wholeV wholeS
    rw [hn]
    cases v6 <;> simp [bitsOf])
  have HN := Lib.hid (fun Z => numS (w.alloc (.cells Z 51)) g l s 1 (h.above (bl_one w _) hlt))
  have HZ16 : Hid (z16.length = 16) := Lib.hid rfl
  have hb6 : (v6 = true ∧ bitsOf v6 = 128) ∨ (v6 = false ∧ bitsOf v6 = 32) := by cases v6 <;> simp [bitsOf]
  rw [hn] at HN
  clear h hn
  go_enter Tryz.func238, Tryz.ntmps238
  go_wp2_with fail
  refine (HN.out _).mono ?_
  rintro e w1 ⟨rfl, hC, hG⟩
  have hs1 : w.heap.size < w1.heap.size := by have := hG.size; simp at this; omega
  have HR1 : Hid (∀ Z', PfW A0 c0 w ((w1.alloc (.cells Z' 51)).setRow w1.heap.size (pfc false z16 (bitsOf v6)).toArray) g l (nS l s 1) w1.heap.size false z16 (bitsOf v6)) := Lib.hid (fun Z' => by
    have hb := (bl_one w1 (.cells Z' 51)).trans (below_setRow (w1.alloc (.cells Z' 51)) w1.heap.size (pfc false z16 (bitsOf v6)).toArray (Nat.le_refl _))
    exact ⟨⟨_, ((Blk.new w 51 _).grown hG (fun e => by injection e with e; omega)).below hb hs1, rfl⟩, (Blk.new w1 51 Z').setRow _, hs1, hC.above hb (by omega), only_then (only_trans (only_alloc (only_refl w _) _) hG) hb (by omega), hlt⟩)
  have HB1 := Lib.hid (fun Z' => Blk.new w1 51 Z')
  clear hC hG
  have h255 : 0 ≤ bitsOf v6 ∧ bitsOf v6 < 256 := by rcases hb6 with ⟨_, e⟩ | ⟨_, e⟩ <;> omega
  obtain ⟨h255a, h255b⟩ := h255
  generalize hbn : bitsOf v6 = bn at *
  rcases hb6 with ⟨rfl, rfl⟩ | ⟨rfl, rfl⟩
  all_goals
    go_wp2_with (first
      | (refine pf_build1 rfl _ rfl _ rfl ?_)
      | (refine pf_store_to rfl _ _ rfl w1.heap.size false z16 _ HZ16.out rfl rfl 51 _ (HB1.out _) rfl (fun W => PfW A0 c0 w W g l (nS l s 1) w1.heap.size false z16 _) (HR1.out _) ?_; intro W hW; have hcn : W.cell? ⟨w1.heap.size, 17, none⟩ = some (.int .i64 _) := hW.pb.cell 17; have HW := Lib.hid hW; clear hW)
      | fail)
    refine (rip_is _ g l _ _ HW.out.cu).mono ?_
    rintro e w2 ⟨rfl, hC2, hG2⟩
    have HD2 := Lib.hid (HW.out.step hC2 hG2)
    clear hC2 hG2 HW
    have hth := blk_there HD2.out.pb 0 17 (by simp [HZ16.out])
    have HD3 := Lib.hid (fun v' => HD2.out.ip (v' := v') HZ16.out HL.out)
    go_wp2_with (first
      | (refine ip_part_to rfl _ _ rfl w1.heap.size 0 _ _ HL.out rfl rfl hth (fun W => PfW A0 c0 w W g l _ w1.heap.size _ _ _) (HD3.out _) ?_; intro W3 hW3; have HW3 := Lib.hid hW3; obtain ⟨Z3, hZ3, hs3⟩ := hW3.res; have HZ3 := Lib.hid hZ3; clear hW3 hZ3)
      | (refine pf_fetch rfl _ rfl w1.heap.size _ _ _ HL.out rfl (blk_range HW3.out.pb) ?_)
      | (refine pf_store_to rfl _ _ rfl w.heap.size _ _ _ HL.out rfl rfl 51 Z3 HZ3.out hs3 (fun W => Blk W w.heap.size 51 _ ∧ CurS A0 c0 W g l _ ∧ w.grownBy W (some g)) HW3.out.ret ?_; intro W4 hW4; have HW4 := Lib.hid hW4; clear hW4)
      | fail)
    refine bodyPost_ret ?_ rfl ⟨by rw [HF.out.1], by rw [HF.out.2]; exact HW4.out.2.1, HW4.out.2.2⟩
    exact results_cell_row rfl _ _ w.heap.size 51 _ (0, 0) _ rfl HW4.out.1 Tryz.underlying51 rfl (by rw [pfc_size _ _ _ HL.out])
set_option maxHeartbeats 1000000 in
theorem whole_other (w : World) (g : Nat) (l : List Int) (s : CS) (h : CurS A0 c0 w g l s) (hn1 : nV l s 1 ≠ 32) (hn2 : nV l s 1 ≠ 128) : Calls Tryz.prog 238 #[.pointer (some ⟨g, 0, none⟩)] w (WholePost A0 c0 w g l s) := by
  have hlt := h.toIsCurT.lt
  have hbd : 0 ≤ nV l s 1 ∧ nV l s 1 < 256 := nV_bd h.oct s 1
  have HF : Hid (wholeV l s = (false, z16, nV l s 1) ∧ wholeS l s = nS l s 1) := Lib.hid (by
    unfold wholeV wholeS
    simp [hn1, hn2])
  have HN := Lib.hid (fun Z => numS (w.alloc (.cells Z 51)) g l s 1 (h.above (bl_one w _) hlt))
  have HZ16 : Hid (z16.length = 16) := Lib.hid rfl
  have e1 : (nV l s 1 == 32) = false := by rw [beq_eq_false_iff_ne]; exact hn1
  have e2 : (nV l s 1 == 128) = false := by rw [beq_eq_false_iff_ne]; exact hn2
  clear h hn1 hn2
  generalize nV l s 1 = bn at *
  obtain ⟨h255a, h255b⟩ := hbd
  go_enter Tryz.func238, Tryz.ntmps238
  go_wp2_with fail
  refine (HN.out _).mono ?_
  rintro e w1 ⟨rfl, hC, hG⟩
  have hs1 : w.heap.size < w1.heap.size := by have := hG.size; simp at this; omega
  have HR1 : Hid (∀ Z', PfW A0 c0 w ((w1.alloc (.cells Z' 51)).setRow w1.heap.size (pfc false z16 bn).toArray) g l (nS l s 1) w1.heap.size false z16 bn) := Lib.hid (fun Z' => by
    have hb := (bl_one w1 (.cells Z' 51)).trans (below_setRow (w1.alloc (.cells Z' 51)) w1.heap.size (pfc false z16 bn).toArray (Nat.le_refl _))
    exact ⟨⟨_, ((Blk.new w 51 _).grown hG (fun e => by injection e with e; omega)).below hb hs1, rfl⟩, (Blk.new w1 51 Z').setRow _, hs1, hC.above hb (by omega), only_then (only_trans (only_alloc (only_refl w _) _) hG) hb (by omega), hlt⟩)
  have HB1 := Lib.hid (fun Z' => Blk.new w1 51 Z')
  clear hC hG
  go_wp2_with (first
    | (refine pf_build1 rfl _ rfl _ rfl ?_)
    | (refine pf_store_to rfl _ _ rfl w1.heap.size false z16 _ HZ16.out rfl rfl 51 _ (HB1.out _) rfl (fun W => PfW A0 c0 w W g l (nS l s 1) w1.heap.size false z16 _) (HR1.out _) ?_; intro W hW; have hcn : W.cell? ⟨w1.heap.size, 17, none⟩ = some (.int .i64 _) := hW.pb.cell 17; have HW3 := Lib.hid hW; obtain ⟨Z3, hZ3, hs3⟩ := hW.res; have HZ3 := Lib.hid hZ3; clear hW hZ3)
    | (refine pf_fetch rfl _ rfl w1.heap.size _ _ _ HZ16.out rfl (blk_range HW3.out.pb) ?_)
    | (refine pf_store_to rfl _ _ rfl w.heap.size _ _ _ HZ16.out rfl rfl 51 Z3 HZ3.out hs3 (fun W => Blk W w.heap.size 51 _ ∧ CurS A0 c0 W g l _ ∧ w.grownBy W (some g)) HW3.out.ret ?_; intro W4 hW4; have HW4 := Lib.hid hW4; clear hW4)
    | fail)
  refine bodyPost_ret ?_ rfl ⟨by rw [HF.out.1], by rw [HF.out.2]; exact HW4.out.2.1, HW4.out.2.2⟩
  exact results_cell_row rfl _ _ w.heap.size 51 _ (0, 0) _ rfl HW4.out.1 Tryz.underlying51 rfl (by rw [pfc_size _ _ _ HZ16.out])
theorem whole_at (w : World) (g : Nat) (l : List Int) (s : CS) (h : CurS A0 c0 w g l s) : Calls Tryz.prog 238 #[.pointer (some ⟨g, 0, none⟩)] w (WholePost A0 c0 w g l s) := by
  by_cases h1 : nV l s 1 = 32
  · exact whole_six w g l s h false h1
  by_cases h2 : nV l s 1 = 128
  · exact whole_six w g l s h true h2
  exact whole_other w g l s h h1 h2
end

structure RS (A0 : Option Addr) (c0 : Nat) (w : World) (b g : Nat) (r : Rt) (l : List Int) (s : CS) : Prop where
  rt : RtAt w b r
  ok : RtOk r
  cu : CurS A0 c0 w g l s
  lt : b < g
  far : 0 < l.length → ∀ a, A0 = some a → a.block ≠ b
theorem below_grown {w w' : World} {b g : Nat} (h : w.grownBy w' (some g)) (hb : b ≤ g) (hs : b ≤ w.heap.size) : Below b w w' := ⟨h.os, h.tape, h.output, h.size, fun k hk => h.block k (by omega) (fun e => by injection e with e; omega)⟩
section
variable {A0 : Option Addr} {c0 : Nat} {w w' : World} {b g : Nat} {r r' : Rt} {l : List Int} {s s' : CS}
theorem RS.step (h : RS A0 c0 w b g r l s) (hc : CurS A0 c0 w' g l s') (hg : w.grownBy w' (some g)) : RS A0 c0 w' b g r l s' :=
  ⟨h.rt.grown hg (fun e => by injection e with e; have := h.lt; omega), h.ok, hc, h.lt, h.far⟩
theorem RS.low (h : RS A0 c0 w b g r l s) (hg : w.grownBy w' (some g)) : Below b w w' := below_grown hg (Nat.le_of_lt h.lt) (Nat.le_of_lt h.rt.lt)
theorem RS.above (h : RS A0 c0 w b g r l s) (hB : Below w.heap.size w w') : RS A0 c0 w' b g r l s := ⟨h.rt.below hB h.rt.lt, h.ok, h.cu.above hB h.cu.toIsCurT.lt, h.lt, h.far⟩
theorem RS.set {pre old new post : List Value} {o : Nat} (h : RS A0 c0 w b g r l s) (e : rtc r = pre ++ (old ++ post)) (e' : rtc r' = pre ++ (new ++ post)) (ho : pre.length = o) (hl : new.length = old.length) (hok : RtOk r') : RS A0 c0 (w.setCells b o new) b g r' l s :=
  ⟨h.rt.cells h.ok e e' ho hl, hok, h.cu.far (fun i hi => heap_cells hi new o w) (fun e => by have := h.lt; omega) h.far, h.lt, h.far⟩
end
theorem low_cells (w : World) (b o : Nat) (cs : List Value) : Below b w (w.setCells b o cs) := below_cells (Nat.le_refl _) cs o w (Below.refl _ _)

def fillS (l : List Int) (s : CS) : Nat → CS
  | 0 => s
  | n + 1 => nS l (fillS l s n) 1
def fillV (l : List Int) (s : CS) : Nat → List Int
  | 0 => []
  | n + 1 => fillV l s n ++ [nV l (fillS l s n) 1]
theorem fillV_len (l : List Int) (s : CS) : ∀ n, (fillV l s n).length = n
  | 0 => rfl
  | n + 1 => by simp [fillV, fillV_len l s n]
theorem fillV_oct {l : List Int} (h : Oct l) (s : CS) : ∀ n, Oct (fillV l s n)
  | 0 => fun x hx => by cases hx
  | n + 1 => fun x hx => by
    rcases List.mem_append.1 hx with hx | hx
    · exact fillV_oct h s n x hx
    · rw [List.mem_singleton] at hx
      subst hx
      exact nV_bd h _ 1

section
variable {A0 : Option Addr} {c0 : Nat}
set_option maxHeartbeats 1000000 in
theorem fill_is (w : World) (b g off n c : Nat) (F : List Int → Rt) (pre post : List Value) (hF : ∀ xs, rtc (F xs) = pre ++ (u8s xs ++ post)) (hpre : pre.length = off) (hok : ∀ xs, xs.length = n → Oct xs → RtOk (F xs))
    (x0 : List Int) (hx : x0.length = n) (hox : Oct x0) (hn : n ≤ 63) (l : List Int) (s : CS) (h : RS A0 c0 w b g (F x0) l s) :
    Calls Tryz.prog 235 #[.pointer (some ⟨g, 0, none⟩), .slice (some ⟨b, off, none⟩) n c] w fun e w' => e = .returned (.tuple #[]) ∧ RS A0 c0 w' b g (F (fillV l s n)) l (fillS l s n) ∧ Below b w w' := by
  have HH := Lib.hid h
  have HFF := Lib.hid hF
  have HP := Lib.hid hpre
  have HK := Lib.hid hok
  have HX := Lib.hid hx
  have HOx := Lib.hid hox
  have HO := Lib.hid h.cu.oct
  clear h hF hpre hok hx hox
  go_enter Tryz.func235, Tryz.ntmps235
  go_wp2
  go_loopw [4, 7] (fun _ i wr => ∃ m : Nat, m ≤ n ∧ i = .int .i64 m ∧ RS A0 c0 wr b g (F (fillV l s m ++ x0.drop m)) l (fillS l s m) ∧ Below b w wr) (fun _ i _ => n - (intOf i).toNat)
  case atStart => exact ⟨0, Nat.zero_le _, rfl, HH.out, Below.refl _ _⟩
  case round =>
    obtain ⟨m, hm, rfl, hS, hB⟩ := hrel
    by_cases hlt : m < n
    · have HB := Lib.hid hB
      obtain ⟨y, hy⟩ : ∃ y, x0.drop m = y :: x0.drop (m + 1) := ⟨x0[m]'(by rw [HX.out]; exact hlt), List.drop_eq_getElem_cons (by rw [HX.out]; exact hlt)⟩
      have HN := Lib.hid (numS wr g l (fillS l s m) 1 hS.cu)
      have HS := Lib.hid hS
      have HY := Lib.hid hy
      have hbd : 0 ≤ nV l (fillS l s m) 1 ∧ nV l (fillS l s m) 1 < 256 := nV_bd HO.out _ 1
      have HV : Hid (fillV l s (m + 1) = fillV l s m ++ [nV l (fillS l s m) 1] ∧ fillS l s (m + 1) = nS l (fillS l s m) 1) := Lib.hid ⟨rfl, rfl⟩
      clear hS hB hy
      generalize nV l (fillS l s m) 1 = x at *
      obtain ⟨hx0, hx1⟩ := hbd
      go_wp2_with fail
      refine HN.out.mono ?_
      rintro e w1 ⟨rfl, hC, hG⟩
      have hs1 := HS.out.step hC hG
      rw [HY.out] at hs1
      have hB1 := HB.out.trans (HS.out.low hG)
      have e1 : rtc (F (fillV l s m ++ y :: x0.drop (m + 1))) = (pre ++ u8s (fillV l s m)) ++ ([.int .u8 y] ++ (u8s (x0.drop (m + 1)) ++ post)) := by rw [HFF.out]; simp
      have e2 : rtc (F (fillV l s (m + 1) ++ x0.drop (m + 1))) = (pre ++ u8s (fillV l s m)) ++ ([.int .u8 x] ++ (u8s (x0.drop (m + 1)) ++ post)) := by rw [HFF.out, HV.out.1]; simp
      have e3 : (pre ++ u8s (fillV l s m)).length = off + m := by rw [List.length_append, u8s_len, fillV_len, HP.out]
      have hcell : w1.cell? ⟨b, off + m, none⟩ = some (.int .u8 y) := (hs1.rt.part e1 e3) 0 _ rfl
      have hfr : w1.frozen? ⟨b, off + m, none⟩ = false := by
        have h63 := congrArg List.length e1
        rw [rtc_len hs1.ok, List.length_append, e3] at h63
        simp only [List.length_append, List.length_cons, List.length_nil] at h63
        exact (hs1.rt.thereAt (off + m) 1 (by omega) 0 (by omega)).2
      have hok2 : RtOk (F (fillV l s (m + 1) ++ x0.drop (m + 1))) := HK.out _ (by rw [List.length_append, fillV_len, List.length_drop, HX.out]; omega) (fun z hz => by
        rcases List.mem_append.1 hz with hz | hz
        · exact fillV_oct HO.out s _ z hz
        · exact HOx.out z (List.mem_of_mem_drop hz))
      have HS2 := Lib.hid (hs1.set e1 e2 e3 rfl hok2)
      have HB2 := Lib.hid (hB1.trans (low_cells w1 b (off + m) [.int .u8 x]))
      have h0 : (0 : Int) ≤ (m : Int) := by omega
      have h1 : (m : Int) < (n : Int) := by omega
      clear hC hG hs1 hB1 e1 e2 e3 hok2
      go_wp2
      refine ⟨⟨m + 1, by omega, by go_num, ?_, HB2.out⟩, by simp [intOf]; omega⟩
      exact HS2.out
    · obtain rfl : m = n := by omega
      rw [List.drop_of_length_le (by rw [HX.out]; exact Nat.le_refl _), List.append_nil] at hS
      have HS := Lib.hid hS
      have HB := Lib.hid hB
      clear hS hB
      go_wp2
      go_end0
      exact ⟨rfl, HS.out, HB.out⟩
end
end Go.Proofs.YtdgoeibfggjbmaaGreatDoor
