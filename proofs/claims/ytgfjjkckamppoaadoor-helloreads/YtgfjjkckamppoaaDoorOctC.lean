/-
  Layer 1 (octet): contracts of copied, New, At, Left, Err, Skip, Take.
-/
import Derived.Test.YtgfjjkckamppoaaDoorOctB
namespace Go.Proofs.YtgfjjkckamppoaaDoor
open Go.RowKit
set_option maxRecDepth 100000

theorem info_byte : (Tryd.prog.info? 5).map (fun i => (i.zero, i.size, i.bytes)) = some (some (.int .u8 0), 1, 1) := by kernel_rfl
theorem size_byte : (Tryd.prog.info? 5).map (·.size) = some 1 := by kernel_rfl

/-- A copy in new memory; nothing, of no bytes. -/
def Copied (w : World) (n : Nat) (l : List Int) (e : Ending) (w' : World) : Prop :=
  ∃ A, e = .returned (.slice A n n) ∧ New 5 w w' A n l ∧ Below w.heap.size w w'

theorem one_u8 (l : List Int) : ∀ v ∈ l.map (Value.int .u8), v.oneCell' = true := by
  intro v hv
  obtain ⟨x, _, rfl⟩ := List.mem_map.1 hv
  rfl

theorem src_u8 {w : World} {b off n : Nat} {l : List Int} (hl : l.length = n) (hc : ∀ i, i < n → w.cell? ⟨b, off + i, none⟩ = some (.int .u8 (l.getD i 0))) :
    ∀ j v, (l.map (Value.int .u8))[j]? = some v → w.cell? ((⟨b, off, none⟩ : Addr).add j) = some v := by
  intro j v hv
  have e : (⟨b, off, none⟩ : Addr).add j = ⟨b, off + j, none⟩ := by unfold Addr.add; split <;> simp_all
  rw [List.getElem?_map] at hv
  obtain ⟨x, hx, rfl⟩ := Option.map_eq_some_iff.1 hv
  obtain ⟨hj, _⟩ := List.getElem?_eq_some_iff.1 hx
  rw [e, hc j (by omega)]
  simp [List.getD, hx]

/-- The world behind 'make' and 'copy' to its beginning: a new block that begins with the bytes. -/
theorem copy_into (w : World) (n m : Nat) (A : Option Addr) (c : Nat) (l : List Int) (hr : Rd w w.heap.size A n l) (hnm : n ≤ m) (ty : TypeId) :
    ∃ w', (Builtin.copy_ #[25, 25] ty #[.slice (some ⟨w.heap.size, 0, none⟩) m m, .slice A n c]).run Tryd.prog (w.alloc (.cells (madeCells #[.int .u8 0] m) 5)) = .ok (.int .i64 n) w' ∧
      Byt w' w.heap.size 5 (l ++ List.replicate (m - n) 0) ∧ Below w.heap.size w w' ∧ w'.heap.size = w.heap.size + 1 := by
  have hm := byt_made w m 5
  have hbl : Below w.heap.size w (w.alloc (.cells (madeCells #[.int .u8 0] m) 5)) := (Below.refl _ _).alloc (Nat.le_refl _) _
  rcases Nat.eq_zero_or_pos n with h0 | hn
  · subst h0
    obtain rfl : l = [] := List.eq_nil_of_length_eq_zero hr.len
    have hrun := run_copy_none (P := Tryd.prog) (w.alloc (.cells (madeCells #[.int .u8 0] m) 5)) 25 25 ty 5 (some ⟨w.heap.size, 0, none⟩) A m m 0 c Tryd.underlying25 size_byte (by simp)
    exact ⟨_, hrun, by simpa using hm, hbl, by simp⟩
  · obtain ⟨b, off, rfl, hb, hc⟩ := hr.at_ hn
    have hrun := run_copy_row (P := Tryd.prog) (w.alloc (.cells (madeCells #[.int .u8 0] m) 5)) 25 25 ty 5 w.heap.size 0 m m ⟨b, off, none⟩ n c _ 5 (l.map (Value.int .u8)) Tryd.underlying25 size_byte hm
      (by rw [List.length_map, hr.len]; exact (Nat.min_eq_left hnm).symm) (src_u8 hr.len (fun i hi => by rw [World.cell?_alloc_lt _ _ _ hb]; exact hc i hi)) (by simp [hr.len]; omega) (one_u8 l)
    rw [List.length_map, hr.len] at hrun
    refine ⟨_, hrun, ?_, Go.below_setRow hbl (Nat.le_refl _) _, by simp [World.setRow]⟩
    unfold Byt at hm ⊢
    rw [setRow_heap _ _ _ _ _ _ hm]
    simp

set_option maxHeartbeats 400000 in
theorem copied_is (w : World) (A : Option Addr) (n c : Nat) (l : List Int) (hr : Rd w w.heap.size A n l) (hm : n ≤ 281474976710656) :
    Calls Tryd.prog 64 #[.slice A n c] w (Copied w n l) := by
  by_cases h0 : n = 0
  · subst h0
    have H := Lib.hid hr
    clear hr
    go_enter Tryd.func64, Tryd.ntmps64
    go_wp2
    go_ret
    exact ⟨none, rfl, ⟨H.out.oct, H.out.len, .inl rfl⟩, Below.refl _ _⟩
  · have hne : ((n : Int) == 0) = false := by simp; omega
    have hmk := run_make_row' (P := Tryd.prog) 25 5 (.int .u8 0) 1 Tryd.underlying25 info_byte rfl .i64 .i64 n (by omega) (by omega) w
    have H := Lib.hid hr
    obtain ⟨w', hcp, hby, hbl, hsz⟩ := copy_into w n n A c l hr (Nat.le_refl _) 3
    rw [Nat.sub_self, List.replicate_zero, List.append_nil] at hby
    have H1 := Lib.hid hby
    have H2 := Lib.hid hbl
    clear hr hby hbl hsz
    go_enter Tryd.func64, Tryd.ntmps64
    go_wp2
    go_ret
    exact ⟨some ⟨w.heap.size, 0, none⟩, rfl, ⟨H.out.oct, H.out.len, .inr ⟨_, rfl, Nat.le_refl _, H1.out⟩⟩, H2.out⟩

/-- A new cursor. -/
def NewCur (w : World) (l : List Int) (e : Ending) (w' : World) : Prop :=
  ∃ g, e = .returned (.pointer (some ⟨g, 0, none⟩)) ∧ w.heap.size ≤ g ∧ IsCur w' g l 0 0 ∧ Below w.heap.size w w'

theorem isCur_new {w w1 : World} {A : Option Addr} {n : Nat} {l : List Int} (hn : New 5 w w1 A n l) (hm : n ≤ 281474976710656) :
    IsCur (w1.alloc (.cells #[.slice A n n, .int .i64 0, .int .i64 0] 92)) w1.heap.size l 0 0 := by
  obtain rfl := hn.2.1
  exact ⟨⟨A, _, Blk.new w1 92 _, hn.rd.keep (fun p hp => World.cell?_alloc_lt _ _ _ hp), Nat.le_refl _⟩, Nat.zero_le _, hm⟩

set_option maxHeartbeats 400000 in
theorem new_is (w : World) (A : Option Addr) (n c : Nat) (l : List Int) (hr : Rd w w.heap.size A n l) (hm : n ≤ 281474976710656) :
    Calls Tryd.prog 42 #[.slice A n c] w (NewCur w l) := by
  have H := Lib.hid hr
  clear hr
  go_enter Tryd.func42, Tryd.ntmps42
  go_wp2_with fail
  refine (copied_is w A n c l H.out hm).mono ?_
  rintro e w1 ⟨A1, rfl, hn, hb⟩
  have H1 := Lib.hid hn
  have H2 := Lib.hid hb
  clear hn hb
  go_wp2
  go_ret
  exact ⟨w1.heap.size, rfl, H2.out.size, isCur_new H1.out hm, H2.out.alloc H2.out.size _⟩

theorem err_is (w : World) (g : Nat) (l : List Int) (at_ : Nat) (err : Int) (h : IsCur w g l at_ err) :
    Calls Tryd.prog 75 #[.pointer (some ⟨g, 0, none⟩)] w fun e w' => e = .returned (.int .i64 err) ∧ w = w' := by
  obtain ⟨A, c, h0, _, _⟩ := h.ex
  have c2 : w.cell? ⟨g, 2, none⟩ = some (.int .i64 err) := Blk.cell h0 2
  clear h h0
  go_enter Tryd.func75, Tryd.ntmps75
  go_wp2
  go_ret
  exact ⟨rfl, rfl⟩

theorem leftC_is (w : World) (g : Nat) (l : List Int) (at_ : Nat) (err : Int) (h : IsCur w g l at_ err) :
    Calls Tryd.prog 47 #[.pointer (some ⟨g, 0, none⟩)] w fun e w' => e = .returned (.int .i64 ((l.length : Int) - at_)) ∧ ∃ k, w' = w.drewN k := by
  obtain ⟨A, c, h0, _, _⟩ := h.ex
  have hle := h.le
  have hsm := h.sm
  have H0 := Lib.hid h0
  clear h h0
  go_enter Tryd.func47, Tryd.ntmps47
  go_wp2_with fail
  refine (left_is w g A _ c at_ err H0.out (by omega) (by omega) hsm).mono ?_
  rintro e w' ⟨rfl, k1, rfl⟩
  go_wp2
  go_ret
  exact ⟨rfl, k1, rfl⟩

/-- Where a cursor is, what it bears behind a step by k: moved, or with its first error. -/
def stepAt (l : List Int) (at_ : Nat) (err k : Int) : Nat := if err = 0 ∧ 0 ≤ k ∧ at_ + k ≤ l.length then at_ + k.toNat else at_
def stepErr (l : List Int) (at_ : Nat) (err k : Int) : Int := if err = 0 then (if k < 0 then 2 else if (l.length : Int) - at_ < k then 3 else 0) else err
def stepTook (l : List Int) (at_ : Nat) (err k : Int) : List Int := if err = 0 ∧ 0 ≤ k ∧ at_ + k ≤ l.length then (l.drop at_).take k.toNat else []

/-- What pass comes to, in one word. -/
def Passed (w : World) (g : Nat) (l : List Int) (at_ : Nat) (err k : Int) (e : Ending) (w' : World) : Prop :=
  ∃ A c, e = .returned (.slice A (stepTook l at_ err k).length c) ∧ Rd w' g A (stepTook l at_ err k).length (stepTook l at_ err k) ∧ IsCur w' g l (stepAt l at_ err k) (stepErr l at_ err k) ∧ w.grownBy w' (some g)

theorem pass_is (w : World) (g : Nat) (l : List Int) (at_ : Nat) (err k : Int) (h : IsCur w g l at_ err) :
    Calls Tryd.prog 65 #[.pointer (some ⟨g, 0, none⟩), .int .i64 k] w (Passed w g l at_ err k) := by
  have hle := h.le
  by_cases he : err = 0
  · subst he
    by_cases hk : k < 0
    · have e1 : stepTook l at_ 0 k = [] := by unfold stepTook; rw [if_neg (by omega)]
      have e2 : stepAt l at_ 0 k = at_ := by unfold stepAt; rw [if_neg (by omega)]
      have e3 : stepErr l at_ 0 k = 2 := by unfold stepErr; rw [if_pos rfl, if_pos hk]
      refine (pass_neg w g l at_ k h hk).mono ?_
      rintro e w' ⟨rfl, hc, ho⟩
      exact ⟨none, 0, by rw [e1]; rfl, by rw [e1]; exact Rd.nil_ _, by rw [e2, e3]; exact hc, ho⟩
    · by_cases hl : (l.length : Int) - at_ < k
      · have e1 : stepTook l at_ 0 k = [] := by unfold stepTook; rw [if_neg (by omega)]
        have e2 : stepAt l at_ 0 k = at_ := by unfold stepAt; rw [if_neg (by omega)]
        have e3 : stepErr l at_ 0 k = 3 := by unfold stepErr; rw [if_pos rfl, if_neg hk, if_pos hl]
        refine (pass_long w g l at_ k h hl).mono ?_
        rintro e w' ⟨rfl, hc, ho⟩
        exact ⟨none, 0, by rw [e1]; rfl, by rw [e1]; exact Rd.nil_ _, by rw [e2, e3]; exact hc, ho⟩
      · obtain ⟨m, rfl⟩ : ∃ m : Nat, k = m := ⟨k.toNat, by omega⟩
        have e1 : stepTook l at_ 0 m = (l.drop at_).take m := by unfold stepTook; rw [if_pos (by omega)]; rfl
        have e2 : stepAt l at_ 0 m = at_ + m := by unfold stepAt; rw [if_pos (by omega)]; rfl
        have e3 : stepErr l at_ 0 m = 0 := by unfold stepErr; rw [if_pos rfl, if_neg hk, if_neg hl]
        have e4 : (stepTook l at_ 0 m).length = m := by rw [e1]; simp; omega
        refine (pass_ok w g l at_ m h (by omega)).mono ?_
        rintro e w' ⟨A, c, rfl, hr, hc, ho⟩
        exact ⟨A, c, by rw [e4], by rw [e4, e1]; exact hr, by rw [e2, e3]; exact hc, ho⟩
  · have e1 : stepTook l at_ err k = [] := by unfold stepTook; rw [if_neg (by omega)]
    have e2 : stepAt l at_ err k = at_ := by unfold stepAt; rw [if_neg (by omega)]
    have e3 : stepErr l at_ err k = err := by unfold stepErr; rw [if_neg he]
    refine (pass_late w g l at_ k err h (by simpa using he)).mono ?_
    rintro e w' ⟨rfl, hc, ho⟩
    exact ⟨none, 0, by rw [e1]; rfl, by rw [e1]; exact Rd.nil_ _, by rw [e2, e3]; exact hc, ho⟩

def Skipped (w : World) (g : Nat) (l : List Int) (at_ : Nat) (err k : Int) (e : Ending) (w' : World) : Prop :=
  e = .returned (.tuple #[]) ∧ IsCur w' g l (stepAt l at_ err k) (stepErr l at_ err k) ∧ w.grownBy w' (some g)

theorem skip_is (w : World) (g : Nat) (l : List Int) (at_ : Nat) (err k : Int) (h : IsCur w g l at_ err) :
    Calls Tryd.prog 43 #[.pointer (some ⟨g, 0, none⟩), .int .i64 k] w (Skipped w g l at_ err k) := by
  have H := Lib.hid h
  clear h
  go_enter Tryd.func43, Tryd.ntmps43
  go_wp2_with fail
  refine (pass_is w g l at_ err k H.out).mono ?_
  rintro e w' ⟨A, c, rfl, hr, hc, ho⟩
  have H1 := Lib.hid hr
  have H2 := Lib.hid hc
  have H3 := Lib.hid ho
  clear hr hc ho
  go_wp2
  go_end0
  exact ⟨rfl, H2.out, H3.out⟩

def Took (w : World) (g : Nat) (l : List Int) (at_ : Nat) (err k : Int) (e : Ending) (w' : World) : Prop :=
  ∃ A, e = .returned (.slice A (stepTook l at_ err k).length (stepTook l at_ err k).length) ∧ New 5 w w' A (stepTook l at_ err k).length (stepTook l at_ err k) ∧
    IsCur w' g l (stepAt l at_ err k) (stepErr l at_ err k) ∧ w.grownBy w' (some g)

theorem stepTook_len (l : List Int) (at_ : Nat) (err k : Int) : (stepTook l at_ err k).length ≤ l.length := by
  unfold stepTook
  split
  · simp; omega
  · simp

theorem New.from_ {t : TypeId} {w w0 w' : World} {A : Option Addr} {n : Nat} {l : List Int} (h : New t w w' A n l) (hs : w0.heap.size ≤ w.heap.size) : New t w0 w' A n l :=
  ⟨h.1, h.2.1, h.2.2.imp id fun ⟨g, a, b, c⟩ => ⟨g, a, by omega, c⟩⟩

theorem take_is (w : World) (g : Nat) (l : List Int) (at_ : Nat) (err k : Int) (h : IsCur w g l at_ err) :
    Calls Tryd.prog 46 #[.pointer (some ⟨g, 0, none⟩), .int .i64 k] w (Took w g l at_ err k) := by
  have hsm := h.sm
  have H := Lib.hid h
  have hlen := stepTook_len l at_ err k
  unfold Took
  have H0 := Lib.hid (pass_is w g l at_ err k h)
  unfold Passed at H0
  generalize stepTook l at_ err k = xs at *
  generalize stepAt l at_ err k = at1 at *
  generalize stepErr l at_ err k = err1 at *
  clear h
  go_enter Tryd.func46, Tryd.ntmps46
  go_wp2_with fail
  refine H0.out.mono ?_
  rintro e w1 ⟨A, c, rfl, hr, hc, ho⟩
  have H1 := Lib.hid hr
  have H2 := Lib.hid hc
  have H3 := Lib.hid ho
  clear hr hc ho
  go_wp2_with fail
  refine (copied_is w1 A _ c xs (H1.out.more (Nat.le_of_lt H2.out.lt)) (by omega)).mono ?_
  rintro e w2 ⟨A2, rfl, hn, hb⟩
  have H4 := Lib.hid hn
  have H5 := Lib.hid hb
  clear hn hb
  go_wp2
  go_ret
  exact ⟨A2, rfl, H4.out.from_ H3.out.size, H2.out.keep (H5.out.mono H2.out.lt), only_trans H3.out (only_of_below H5.out _)⟩
end Go.Proofs.YtgfjjkckamppoaaDoor
