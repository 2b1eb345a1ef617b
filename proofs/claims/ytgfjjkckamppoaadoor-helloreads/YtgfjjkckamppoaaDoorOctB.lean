/-
  Layer 1 (octet): contracts of a place's methods.
-/
import Derived.Test.YtgfjjkckamppoaaDoorOctA
namespace Go.Proofs.YtgfjjkckamppoaaDoor
open Go.RowKit
set_option maxRecDepth 100000

/-- A cursor's block: its bytes, its place, its first error. -/
def CurT (T : TypeId) (w : World) (g : Nat) (A : Option Addr) (n c : Nat) (at_ err : Int) : Prop := Blk w g T #[.slice A n c, .int .i64 at_, .int .i64 err]
abbrev Cur (w : World) (g : Nat) (A : Option Addr) (n c : Nat) (at_ err : Int) : Prop := CurT 92 w g A n c at_ err

set_option maxHeartbeats 400000 in
theorem left_is (w : World) (g : Nat) (A : Option Addr) (n c : Nat) (at_ err : Int) (h : Cur w g A n c at_ err) (h0 : 0 ≤ at_) (hn : at_ ≤ n) (hm : n ≤ 281474976710656) :
    Calls Tryd.prog 70 #[.pointer (some ⟨g, 0, none⟩)] w fun e w' => e = .returned (.int .i64 (n - at_)) ∧ ∃ k, w' = w.drewN k := by
  have c0 : w.cell? ⟨g, 0, none⟩ = some (.slice A n c) := Blk.cell h 0
  have c1 : w.cell? ⟨g, 1, none⟩ = some (.int .i64 at_) := Blk.cell h 1
  have c2 : w.cell? ⟨g, 2, none⟩ = some (.int .i64 err) := Blk.cell h 2
  clear h
  go_enter Tryd.func70, Tryd.ntmps70
  go_wp2
  go_quiet (fail)
  go_wp2
  go_ret
  exact ⟨rfl, nq, rfl⟩

theorem fail_first (w : World) (g : Nat) (A : Option Addr) (n c : Nat) (at_ e0 : Int) (h : Cur w g A n c at_ 0) :
    Calls Tryd.prog 67 #[.pointer (some ⟨g, 0, none⟩), .int .i64 e0] w fun e w' => e = .returned (.tuple #[]) ∧ w.setCell ⟨g, 2, none⟩ (.int .i64 e0) = w' := by
  have c2 : w.cell? ⟨g, 2, none⟩ = some (.int .i64 0) := Blk.cell h 2
  have f2 : w.frozen? ⟨g, 2, none⟩ = false := Blk.frozen h 2
  clear h
  go_enter Tryd.func67, Tryd.ntmps67
  go_wp2
  go_end0
  exact ⟨rfl, rfl⟩

theorem fail_later (w : World) (g : Nat) (A : Option Addr) (n c : Nat) (at_ err e0 : Int) (h : Cur w g A n c at_ err) (hne : (err == 0) = false) :
    Calls Tryd.prog 67 #[.pointer (some ⟨g, 0, none⟩), .int .i64 e0] w fun e w' => e = .returned (.tuple #[]) ∧ w = w' := by
  have c2 : w.cell? ⟨g, 2, none⟩ = some (.int .i64 err) := Blk.cell h 2
  have f2 : w.frozen? ⟨g, 2, none⟩ = false := Blk.frozen h 2
  clear h
  go_enter Tryd.func67, Tryd.ntmps67
  go_wp2
  go_end0
  exact ⟨rfl, rfl⟩

/-- A cursor over the bytes l, at a place, with its first error (0: none); all that it leads to lies ahead of it. -/
structure IsCurT (T : TypeId) (w : World) (g : Nat) (l : List Int) (at_ : Nat) (err : Int) : Prop where
  ex : ∃ A c, CurT T w g A l.length c at_ err ∧ Rd w g A l.length l ∧ l.length ≤ c
  le : at_ ≤ l.length
  sm : l.length ≤ 281474976710656

theorem IsCurT.lt {T : TypeId} {w : World} {g : Nat} {l : List Int} {at_ : Nat} {err : Int} (h : IsCurT T w g l at_ err) : g < w.heap.size := by
  obtain ⟨_, _, h, _, _⟩ := h.ex
  exact Blk.lt h
theorem IsCurT.keep {T : TypeId} {w w' : World} {g : Nat} {l : List Int} {at_ : Nat} {err : Int} (h : IsCurT T w g l at_ err) (hk : Below (g + 1) w w') : IsCurT T w' g l at_ err := by
  obtain ⟨A, c, h0, h1, h2⟩ := h.ex
  exact ⟨⟨A, c, Blk.below h0 hk (by omega), h1.below (hk.mono (by omega)), h2⟩, h.le, h.sm⟩
theorem IsCurT.drewN {T : TypeId} {w : World} {g : Nat} {l : List Int} {at_ : Nat} {err : Int} (h : IsCurT T w g l at_ err) (k : Nat) : IsCurT T (w.drewN k) g l at_ err :=
  h.keep (below_drewN (Below.refl _ _) k)
theorem IsCurT.set1 {T : TypeId} {w : World} {g : Nat} {l : List Int} {at_ k : Nat} {err : Int} (h : IsCurT T w g l at_ err) (hk : k ≤ l.length) : IsCurT T (w.setCell ⟨g, 1, none⟩ (.int .i64 k)) g l k err := by
  obtain ⟨A, c, h0, h1, h2⟩ := h.ex
  exact ⟨⟨A, c, Blk.set_ h0 1 _, h1.keep fun p hp => World.cell?_setCell_other _ _ _ _ (fun e => by subst e; exact absurd hp (Nat.lt_irrefl _)), h2⟩, hk, h.sm⟩
theorem IsCurT.set2 {T : TypeId} {w : World} {g : Nat} {l : List Int} {at_ : Nat} {err e0 : Int} (h : IsCurT T w g l at_ err) : IsCurT T (w.setCell ⟨g, 2, none⟩ (.int .i64 e0)) g l at_ e0 := by
  obtain ⟨A, c, h0, h1, h2⟩ := h.ex
  exact ⟨⟨A, c, Blk.set_ h0 2 _, h1.keep fun p hp => World.cell?_setCell_other _ _ _ _ (fun e => by subst e; exact absurd hp (Nat.lt_irrefl _)), h2⟩, h.le, h.sm⟩

abbrev IsCur (w : World) (g : Nat) (l : List Int) (at_ : Nat) (err : Int) : Prop := IsCurT 92 w g l at_ err

def PassRaw (w : World) (g : Nat) (A : Option Addr) (c at_ k : Nat) (e : Ending) (w' : World) : Prop :=
  e = .returned (.slice (if c = at_ then A else A.map (fun x => x.add at_)) k (c - at_)) ∧ ∃ k1 k2, w' = ((w.drewN k1).setCell ⟨g, 1, none⟩ (.int .i64 ((at_ + k : Nat) : Int))).drewN k2

set_option maxHeartbeats 400000 in
theorem pass_raw (w : World) (g : Nat) (A : Option Addr) (n c at_ k : Nat) (h : Cur w g A n c at_ 0) (hn : at_ + k ≤ n) (hc : n ≤ c) (hm : n ≤ 281474976710656) :
    Calls Tryd.prog 65 #[.pointer (some ⟨g, 0, none⟩), .int .i64 k] w (PassRaw w g A c at_ k) := by
  have c0 : w.cell? ⟨g, 0, none⟩ = some (.slice A n c) := Blk.cell h 0
  have c1 : w.cell? ⟨g, 1, none⟩ = some (.int .i64 at_) := Blk.cell h 1
  have c2 : w.cell? ⟨g, 2, none⟩ = some (.int .i64 0) := Blk.cell h 2
  have f1 : w.frozen? ⟨g, 1, none⟩ = false := Blk.frozen h 1
  have HC := Lib.hid h
  clear h
  go_enter Tryd.func65, Tryd.ntmps65
  go_wp2_with fail
  refine (left_is w g A n c at_ 0 HC.out (by omega) (by omega) hm).mono ?_
  rintro e w' ⟨rfl, k1, rfl⟩
  go_wp2
  have e1 : ((at_ : Int) + (k : Int)).toNat = at_ + k := by omega
  have e2 : (at_ : Int) + (k : Int) ≤ (c : Int) := by omega
  go_quiet (fail)
  generalize hA : (if c = at_ then A else Option.map (fun x => x.add at_) A) = A'
  have HA := Lib.hid hA
  clear hA
  go_wp2
  go_ret
  exact ⟨by rw [HA.out]; rfl, k1, nq, by rw [show (((at_ + k : Nat) : Int)) = (at_ : Int) + (k : Int) from by omega]⟩

/-- Passed: the next k bytes; the place moves on. -/
def PassOk (w : World) (g : Nat) (l : List Int) (at_ k : Nat) (e : Ending) (w' : World) : Prop :=
  ∃ A c, e = .returned (.slice A k c) ∧ Rd w' g A k ((l.drop at_).take k) ∧ IsCur w' g l (at_ + k) 0 ∧ w.grownBy w' (some g)

theorem pass_ok (w : World) (g : Nat) (l : List Int) (at_ k : Nat) (h : IsCur w g l at_ 0) (hk : at_ + k ≤ l.length) :
    Calls Tryd.prog 65 #[.pointer (some ⟨g, 0, none⟩), .int .i64 k] w (PassOk w g l at_ k) := by
  obtain ⟨A, c, h0, h1, h2⟩ := h.ex
  refine (pass_raw w g A l.length c at_ k h0 hk h2 h.sm).mono ?_
  rintro e w' ⟨rfl, k1, k2, rfl⟩
  have hc : IsCur (((w.drewN k1).setCell ⟨g, 1, none⟩ (.int .i64 ((at_ + k : Nat) : Int))).drewN k2) g l (at_ + k) 0 := ((h.drewN k1).set1 hk).drewN k2
  refine ⟨_, _, rfl, ?_, hc, only_drewN (only_setCell (only_drewN (only_refl w _) k1) (.inl rfl) _) k2⟩
  refine (h1.cut hk h2).keep fun p hp => ?_
  exact World.cell?_setCell_other _ _ _ _ (fun e => by subst e; exact absurd hp (Nat.lt_irrefl _))

/-- Not passed: the cursor's error is e1 from now on, nothing is told. -/
def PassNo (w : World) (g : Nat) (l : List Int) (at_ : Nat) (e1 : Int) (e : Ending) (w' : World) : Prop :=
  e = .returned (.slice none 0 0) ∧ IsCur w' g l at_ e1 ∧ w.grownBy w' (some g)

set_option maxHeartbeats 400000 in
theorem pass_neg (w : World) (g : Nat) (l : List Int) (at_ : Nat) (k : Int) (h : IsCur w g l at_ 0) (hk : k < 0) :
    Calls Tryd.prog 65 #[.pointer (some ⟨g, 0, none⟩), .int .i64 k] w (PassNo w g l at_ 2) := by
  obtain ⟨A, c, h0, h1, h2⟩ := h.ex
  have c2 : (w.setCell ⟨g, 2, none⟩ (.int .i64 2)).cell? ⟨g, 2, none⟩ = some (.int .i64 2) := Blk.cell (Blk.set_ h0 2 _) 2
  have H := Lib.hid h
  have H0 := Lib.hid h0
  clear h h0 h1 h2
  go_enter Tryd.func65, Tryd.ntmps65
  go_wp2_with fail
  refine (fail_first w g A _ c at_ 2 H0.out).mono ?_
  rintro e w' ⟨rfl, rfl⟩
  go_wp2
  go_ret
  exact ⟨rfl, H.out.set2, only_setCell (only_refl w _) (.inl rfl) _⟩

set_option maxHeartbeats 400000 in
theorem pass_long (w : World) (g : Nat) (l : List Int) (at_ : Nat) (k : Int) (h : IsCur w g l at_ 0) (hk : (l.length : Int) - at_ < k) :
    Calls Tryd.prog 65 #[.pointer (some ⟨g, 0, none⟩), .int .i64 k] w (PassNo w g l at_ 3) := by
  obtain ⟨A, c, h0, h1, h2⟩ := h.ex
  have c2 : ∀ n, ((w.drewN n).setCell ⟨g, 2, none⟩ (.int .i64 3)).cell? ⟨g, 2, none⟩ = some (.int .i64 3) := fun n => Blk.cell (Blk.set_ (w := w.drewN n) h0 2 _) 2
  have H := Lib.hid h
  have H0 := Lib.hid h0
  have hle := h.le
  have hsm := h.sm
  have hpos : 0 ≤ k := by omega
  clear h h0 h1 h2
  go_enter Tryd.func65, Tryd.ntmps65
  go_wp2_with fail
  refine (left_is w g A _ c at_ 0 H0.out (by omega) (by omega) hsm).mono ?_
  rintro e w' ⟨rfl, k1, rfl⟩
  go_wp2_with fail
  refine (fail_first (w.drewN k1) g A _ c at_ 3 H0.out).mono ?_
  rintro e w' ⟨rfl, rfl⟩
  go_wp2
  go_ret
  exact ⟨rfl, (H.out.drewN k1).set2, only_setCell (only_drewN (only_refl w _) k1) (.inl rfl) _⟩

set_option maxHeartbeats 400000 in
theorem pass_late (w : World) (g : Nat) (l : List Int) (at_ : Nat) (k err : Int) (h : IsCur w g l at_ err) (hne : (err == 0) = false) :
    Calls Tryd.prog 65 #[.pointer (some ⟨g, 0, none⟩), .int .i64 k] w (PassNo w g l at_ err) := by
  obtain ⟨A, c, h0, h1, h2⟩ := h.ex
  have c2 : w.cell? ⟨g, 2, none⟩ = some (.int .i64 err) := Blk.cell h0 2
  have H := Lib.hid h
  have H0 := Lib.hid h0
  have hle := h.le
  have hsm := h.sm
  have hne' : (err != 0) = true := by simpa using hne
  clear h h0 h1 h2
  by_cases hk : k < 0
  · go_enter Tryd.func65, Tryd.ntmps65
    go_wp2_with fail
    refine (fail_later w g A _ c at_ err 2 H0.out hne).mono ?_
    rintro e w' ⟨rfl, rfl⟩
    go_wp2
    go_ret
    exact ⟨rfl, H.out, only_refl w _⟩
  · have hpos : 0 ≤ k := by omega
    by_cases hl : (l.length : Int) - at_ < k
    · go_enter Tryd.func65, Tryd.ntmps65
      go_wp2_with fail
      refine (left_is w g A _ c at_ err H0.out (by omega) (by omega) hsm).mono ?_
      rintro e w' ⟨rfl, k1, rfl⟩
      go_wp2_with fail
      refine (fail_later (w.drewN k1) g A _ c at_ err 3 H0.out hne).mono ?_
      rintro e w' ⟨rfl, rfl⟩
      go_wp2
      go_ret
      exact ⟨rfl, H.out.drewN k1, only_drewN (only_refl w _) k1⟩
    · go_enter Tryd.func65, Tryd.ntmps65
      go_wp2_with fail
      refine (left_is w g A _ c at_ err H0.out (by omega) (by omega) hsm).mono ?_
      rintro e w' ⟨rfl, k1, rfl⟩
      go_wp2
      go_ret
      exact ⟨rfl, H.out.drewN k1, only_drewN (only_refl w _) k1⟩
end Go.Proofs.YtgfjjkckamppoaaDoor
