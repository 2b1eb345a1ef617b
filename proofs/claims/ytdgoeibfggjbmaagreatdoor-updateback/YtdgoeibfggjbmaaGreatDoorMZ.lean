/-
  Put together: AtV AtW AuA AuB AuC AuD.
-/
import Derived.Test.YtdgoeibfggjbmaaGreatDoorMV
namespace Go.Proofs.YtdgoeibfggjbmaaGreatDoor
open Go.RowKit
set_option maxRecDepth 100000
set_option linter.unusedSimpArgs false
set_option linter.unusedVariables false

theorem judge_bd (f k : Int) (v : List Int) : judge f k v = 0 ∨ judge f k v = 1 ∨ judge f k v = 2 ∨ judge f k v = 3 := by
  unfold judge
  cases hb : bnd k with
  | none => simp only [unk]; split <;> simp
  | some r =>
    obtain ⟨fl, cl⟩ := r
    have : cl = 1 ∨ cl = 2 ∨ cl = 3 := by
      unfold bnd at hb
      repeat' (split at hb)
      all_goals (first | (injection hb with hb; injection hb with _ hb; omega) | cases hb)
    simp only
    split
    · simp
    · omega
theorem judge_zero {f k : Int} {v : List Int} {r : Int × Int} (hb : bnd k = some r) (h : judge f k v = 0) : okV k v = true := by
  obtain ⟨fl, cl⟩ := r
  have hcl : cl = 1 ∨ cl = 2 ∨ cl = 3 := by
    unfold bnd at hb
    repeat' (split at hb)
    all_goals (first | (injection hb with hb; injection hb with _ hb; omega) | cases hb)
  unfold judge at h
  rw [hb] at h
  simp only at h
  split at h
  · rename_i h1
    simp only [Bool.and_eq_true] at h1
    exact h1.2
  · omega
theorem bnd_nat {k : Int} {r : Int × Int} (hb : bnd k = some r) : ∃ m : Nat, k = m ∧ m < 256 := by
  unfold bnd at hb
  repeat' (split at hb)
  all_goals (first | exact ⟨k.toNat, by omega, by omega⟩ | cases hb)

def Red (w : World) (g : Nat) (a : Att) (c : Int) (sn : Nat → Bool) (f k : Int) (v : List Int) (e : Ending) (w' : World) : Prop :=
  e = .returned (.tuple #[]) ∧ w.grownBy w' (some g) ∧
    if (bnd k).isSome = true ∧ sn k.toNat = true then (if k = 14 ∨ k = 15 then Rst w' g 1 [] else IsR w' g a (max c 1) sn)
    else if judge f k v = 3 then Rst w' g (if (bnd k).isSome then 4 else 2) (fdata (f, k, v))
    else IsR w' g (if (bnd k).isSome = true ∧ judge f k v = 0 then keepA a k v else a) (max c (judge f k v)) (if (bnd k).isSome then (fun i => decide (i = k.toNat) || sn i) else sn)
section
variable (w : World) (E : EnvK w) (g : Nat) (a : Att) (c : Int) (sn : Nat → Bool) (f : Int) (A : Option Addr) (n cp : Nat) (v : List Int) (h : IsR w g a c sn) (h0 : 0 ≤ c) (h2 : c ≤ 2) (hr : Rd w g A n v) (hm : n ≤ 140737488351232)

set_option maxHeartbeats 4000000 in
include E h h0 h2 hr hm in
theorem read_no (k : Int) (hb : bnd k = none) : Calls Tryz.prog 117 #[.pointer (some ⟨g, 0, none⟩), .agg #[.int .i64 f, .int .i64 k, .slice A n cp]] w (Red w g a c sn f k v) := by
  have hj := judge_bd f k v
  have HEnd3 : Hid (∀ w', judge f k v = 3 → w.grownBy w' (some g) → Rst w' g 2 (fdata (f, k, v)) → Red w g a c sn f k v (.returned (.tuple #[])) w') := Lib.hid fun w' hj3 hgr hrs => ⟨rfl, hgr, by rw [if_neg (by simp [hb]), if_pos hj3]; simpa [hb] using hrs⟩
  have HEndI : Hid (∀ w' c', judge f k v ≠ 3 → c' = max c (judge f k v) → w.grownBy w' (some g) → IsR w' g a c' sn → Red w g a c sn f k v (.returned (.tuple #[])) w') := Lib.hid fun w' c' hj3 hc' hgr hrs => ⟨rfl, hgr, by rw [if_neg (by simp [hb]), if_neg hj3]; subst hc'; simpa [hb] using hrs⟩
  have hb0 : Below w.heap.size w (w.alloc (.cells #[.int .i64 f, .int .i64 k, .slice A n cp] 67)) := (Below.refl _ _).alloc (Nat.le_refl _) _
  have HE := Lib.hid (E.below hb0)
  have HB := Lib.hid hb0
  have HR := Lib.hid hr
  have HN := Lib.hid (Blk.new w 67 #[.int .i64 f, .int .i64 k, .slice A n cp])
  have HS : Hid (w.heap.size < (w.alloc (.cells #[.int .i64 f, .int .i64 k, .slice A n cp] 67)).heap.size) := Lib.hid (by simp)
  have HI := Lib.hid (h.below hb0)
  have hglt := h.lt
  have HBd : Hid (bndV k = .tuple #[.agg #[.int .i64 0, .int .i64 0, .int .i64 0], .bool false]) := Lib.hid (by unfold bndV; rw [hb])
  clear hr hb0 E h
  go_enter Tryz.func117, Tryz.ntmps117
  go_wp2_with fail
  refine (boundsOf_is _ HE.out k).mono ?_
  generalize (w.alloc (.cells #[.int .i64 f, .int .i64 k, .slice A n cp] 67)) = w0 at *
  rintro e w1 ⟨rfl, hB1⟩
  rw [HBd.out]
  have HB1 := Lib.hid (HB.out.trans (hB1.mono (Nat.le_of_lt HS.out)))
  have HN1 := Lib.hid (HN.out.below hB1 HS.out)
  have HI1 := Lib.hid (HI.out.below hB1)
  have HE1 := Lib.hid (HE.out.below hB1)
  clear hB1 HN HI HE HB HS HBd hb
  have hal : Below w1.heap.size w1 (w1.alloc (.cells #[.int .i64 0, .int .i64 0, .int .i64 0] 217)) := (Below.refl _ _).alloc (Nat.le_refl _) _
  have HB2 := Lib.hid (HB1.out.trans (hal.mono HB1.out.size))
  have HN2 := Lib.hid (HN1.out.below hal HN1.out.lt)
  have HI2 := Lib.hid (HI1.out.below hal)
  have HE2 := Lib.hid (HE1.out.below hal)
  clear hal HB1 HN1 HI1 HE1
  go_wp2
  generalize (w1.alloc (.cells #[.int .i64 0, .int .i64 0, .int .i64 0] 217)) = w2 at *
  refine wp_region_held_drew (S := fun W => True) (by kernel_rfl) (trivial) (fun hS => ?_)
  refine wpAnyH_take (i := 0) (oi := ⟨some 13, _, _, _, _, _⟩) (v := ?_) rfl (by kernel_rfl) (by kernel_rfl) (by kernel_rfl) (fun _ _ _ h => h) (Or.inl ⟨by rfl, ?_⟩) hS ?_
  rotate_left
  · intro wq hq
    first | (go_simp; done) | (go_simp; rfl)
  try simp only [Act.put, zP, zQ, zR]
  refine wpAnyH_take (i := 1) (oi := ⟨some 14, _, _, _, _, _⟩) (v := ?_) rfl (by kernel_rfl) (by kernel_rfl) (by kernel_rfl) (fun _ _ _ h => h) (Or.inl ⟨by rfl, ?_⟩) hS ?_
  rotate_left
  · intro wq hq
    first | (go_simp; done) | (go_simp; rfl)
  try simp only [Act.put, zP, zQ, zR]
  refine wpAnyH_take (i := 2) (oi := ⟨some 15, _, _, _, _, _⟩) (v := undef) rfl (by kernel_rfl) (by kernel_rfl) (by kernel_rfl) (fun _ _ _ h => h) (Or.inr ⟨by rfl, rfl⟩) hS ?_
  try simp only [Act.put, zP, zQ, zR]
  refine wpAnyH_take (i := 3) (oi := ⟨some 16, _, _, _, _, _⟩) (v := undef) rfl (by kernel_rfl) (by kernel_rfl) (by kernel_rfl) (fun _ _ _ h => h) (Or.inr ⟨by rfl, rfl⟩) hS ?_
  try simp only [Act.put, zP, zQ, zR]
  refine wpAnyH_take (i := 4) (oi := ⟨some 17, _, _, _, _, _⟩) (v := undef) rfl (by kernel_rfl) (by kernel_rfl) (by kernel_rfl) (fun _ _ _ h => h) (Or.inr ⟨by rfl, rfl⟩) hS ?_
  try simp only [Act.put, zP, zQ, zR]
  refine wpAnyH_take (i := 5) (oi := ⟨some 18, _, _, _, _, _⟩) (v := undef) rfl (by kernel_rfl) (by kernel_rfl) (by kernel_rfl) (fun _ _ _ h => h) (Or.inr ⟨by rfl, rfl⟩) hS ?_
  try simp only [Act.put, zP, zQ, zR]
  refine wpAnyH_take (i := 6) (oi := ⟨some 19, _, _, _, _, _⟩) (v := undef) rfl (by kernel_rfl) (by kernel_rfl) (by kernel_rfl) (fun _ _ _ h => h) (Or.inr ⟨by rfl, rfl⟩) hS ?_
  try simp only [Act.put, zP, zQ, zR]
  refine wpAnyH_take (i := 7) (oi := ⟨some 20, _, _, _, _, _⟩) (v := undef) rfl (by kernel_rfl) (by kernel_rfl) (by kernel_rfl) (fun _ _ _ h => h) (Or.inr ⟨by rfl, rfl⟩) hS ?_
  try simp only [Act.put, zP, zQ, zR]
  refine wpAnyH_take (i := 8) (oi := ⟨some 21, _, _, _, _, _⟩) (v := undef) rfl (by kernel_rfl) (by kernel_rfl) (by kernel_rfl) (fun _ _ _ h => h) (Or.inr ⟨by rfl, rfl⟩) hS ?_
  try simp only [Act.put, zP, zQ, zR]
  refine wpAnyH_take (i := 9) (oi := ⟨some 22, _, _, _, _, _⟩) (v := ?_) rfl (by kernel_rfl) (by kernel_rfl) (by kernel_rfl) (fun _ _ _ h => h) (Or.inl ⟨by rfl, ?_⟩) hS ?_
  rotate_left
  · intro wq hq
    first | (go_simp; done) | (go_simp; rfl)
  try simp only [Act.put, zP, zQ, zR]
  refine wpAnyH_done (by kernel_rfl) ?_ _
  have hd : Below w2.heap.size w2 w2.drew := below_drewN (Below.refl _ _) 1
  have HB3 := Lib.hid (HB2.out.trans (hd.mono HB2.out.size))
  have HN3 := Lib.hid (HN2.out.below hd HN2.out.lt)
  have HI3 := Lib.hid (HI2.out.below hd)
  have HE3 := Lib.hid (HE2.out.below hd)
  clear hd hS HB2 HN2 HI2 HE2
  generalize w2.drew = w3 at *
  have x0 : w3.cell? ⟨w.heap.size, 0, none⟩ = some (.int .i64 f) := HN3.out.cell 0
  have x1 : w3.cell? ⟨w.heap.size, 0 + 1, none⟩ = some (.int .i64 k) := HN3.out.cell 1
  have x2 : w3.cell? ⟨w.heap.size, 0 + 2, none⟩ = some (.slice A n cp) := HN3.out.cell 2
  have X0 := Lib.hid x0
  have X1 := Lib.hid x1
  have X2 := Lib.hid x2
  clear x0 x1 x2
  go_wp2_with (refine raw_fetch rfl _ rfl w.heap.size 0 f k A n cp rfl X0.out X1.out X2.out ?_)
  refine (judge_is w3 HE3.out f k A n cp v ((HR.out.below (HB3.out.mono (Nat.le_of_lt hglt))).more (by have := HB3.out.size; omega)) (by omega)).mono ?_
  rintro e w4 ⟨rfl, hB4⟩
  have HB4 := Lib.hid (HB3.out.trans (hB4.mono HB3.out.size))
  have HN4 := Lib.hid (HN3.out.below hB4 HN3.out.lt)
  have HI4 := Lib.hid (HI3.out.below hB4)
  have c27 := HI4.out.cls
  have f27 := HI4.out.fz 27
  generalize judge f k v = j at *
  clear hB4 HB3 HN3 HI3 HE3 X0 X1 X2
  by_cases hj3 : j = 3
  · subst hj3
    have hc3 : c < 3 := by omega
    have hI5 := HI4.out.putCls 3
    have hB5 : Below g w (w4.setCell ⟨g, 27, none⟩ (.int .i64 3)) := (HB4.out.mono (Nat.le_of_lt hglt)).setCell (by simp) _
    have hg5 : w.grownBy (w4.setCell ⟨g, 27, none⟩ (.int .i64 3)) (some g) := only_setCell (only_of_below HB4.out _) (.inl rfl) _
    have hN5 : Blk (w4.setCell ⟨g, 27, none⟩ (.int .i64 3)) w.heap.size 67 #[.int .i64 f, .int .i64 k, .slice A n cp] := HN4.out.far (p := ⟨g, 27, none⟩) (by simp; omega) _
    have x0 : (w4.setCell ⟨g, 27, none⟩ (.int .i64 3)).cell? ⟨w.heap.size, 0, none⟩ = some (.int .i64 f) := hN5.cell 0
    have x1 : (w4.setCell ⟨g, 27, none⟩ (.int .i64 3)).cell? ⟨w.heap.size, 0 + 1, none⟩ = some (.int .i64 k) := hN5.cell 1
    have x2 : (w4.setCell ⟨g, 27, none⟩ (.int .i64 3)).cell? ⟨w.heap.size, 0 + 2, none⟩ = some (.slice A n cp) := hN5.cell 2
    have hsz5 := hg5.size
    have HF := Lib.hid (faultOf_is _ f k A n cp v false ((HR.out.below hB5).more (by omega)) hm)
    have HI5 := Lib.hid hI5
    have HG5 := Lib.hid hg5
    have HZ5 := Lib.hid hsz5
    have X0 := Lib.hid x0
    have X1 := Lib.hid x1
    have X2 := Lib.hid x2
    clear x0 x1 x2 hI5 hB5 hg5 hN5 hsz5 HI4 HN4 HB4
    go_wp2_with (refine raw_fetch rfl _ rfl w.heap.size 0 f k A n cp rfl X0.out X1.out X2.out ?_)
    refine HF.out.mono ?_
    generalize (w4.setCell ⟨g, 27, none⟩ (.int .i64 3)) = w5 at *
    rintro e w6 ⟨Ad, nd, cd, rfl, hod, hB6⟩
    have hI6 := HI5.out.below hB6
    have hG6 : w.grownBy w6 (some g) := only_trans HG5.out (only_of_below hB6 _)
    have HT := Lib.hid hI6.flt
    have HEnd := Lib.hid (HEnd3.out _ (by first | rfl | trivial) (only_setCells (.inl rfl) [.int .i64 3, .int .i64 2, .slice Ad nd cd] 28 w6 hG6) (hI6.rst hI6.cls (hod.low (by have := HZ5.out; omega))))
    clear hod hB6 hI6 hG6 HEnd3 HEndI HF
    go_wp2_with (refine f_mid rfl _ _ rfl g 28 3 2 Ad nd cd rfl rfl HT.out ?_)
    go_end0
    exact HEnd.out
  · have ej3 : (j == 3) = false := by simpa using hj3
    have hmx : ∃ c', c' = max c j := ⟨_, rfl⟩
    have hcj : c < j ∨ j ≤ c := by omega
    rcases hcj with hcj | hcj
    · have hI5 := HI4.out.putCls j
      have hg5 : w.grownBy (w4.setCell ⟨g, 27, none⟩ (.int .i64 j)) (some g) := only_setCell (only_of_below HB4.out _) (.inl rfl) _
      have HEnd := Lib.hid (HEndI.out _ j hj3 (by omega) hg5 hI5)
      clear hI5 hg5 HEnd3 HEndI hmx
      go_wp2
      go_end0
      exact HEnd.out
    · have hI5 := HI4.out.putCls c
      have hg5 : w.grownBy (w4.setCell ⟨g, 27, none⟩ (.int .i64 c)) (some g) := only_setCell (only_of_below HB4.out _) (.inl rfl) _
      have HEnd := Lib.hid (HEndI.out _ c hj3 (by omega) hg5 hI5)
      clear hI5 hg5 HEnd3 HEndI hmx
      go_wp2
      go_end0
      exact HEnd.out
end
end Go.Proofs.YtdgoeibfggjbmaaGreatDoor
namespace Go.Proofs.YtdgoeibfggjbmaaGreatDoor
open Go.RowKit
set_option maxRecDepth 100000
set_option linter.unusedSimpArgs false
set_option linter.unusedVariables false

section
variable (w : World) (E : EnvK w) (g : Nat) (a : Att) (c : Int) (sn : Nat → Bool) (f : Int) (A : Option Addr) (n cp : Nat) (v : List Int) (h : IsR w g a c sn) (h0 : 0 ≤ c) (h2 : c ≤ 2) (hr : Rd w g A n v) (hm : n ≤ 140737488351232)

set_option maxHeartbeats 4000000 in
include E h h0 h2 hr hm in
theorem read_new (m : Nat) (hm2 : m < 256) (fl cl : Int) (hb : bnd (m : Int) = some (fl, cl)) (hsn : sn m = false) : Calls Tryz.prog 117 #[.pointer (some ⟨g, 0, none⟩), .agg #[.int .i64 f, .int .i64 ((m : Nat) : Int), .slice A n cp]] w (Red w g a c sn f m v) := by
  have hj := judge_bd f ((m : Nat) : Int) v
  have HEnd3 : Hid (∀ w', judge f ((m : Nat) : Int) v = 3 → w.grownBy w' (some g) → Rst w' g 4 (fdata (f, ((m : Nat) : Int), v)) → Red w g a c sn f ((m : Nat) : Int) v (.returned (.tuple #[])) w') := Lib.hid fun w' hj3 hgr hrs => ⟨rfl, hgr, by rw [if_neg (by simp [hsn]), if_pos hj3]; simpa [hb] using hrs⟩
  have HEndI : Hid (∀ w' c', judge f ((m : Nat) : Int) v ≠ 3 → judge f ((m : Nat) : Int) v ≠ 0 → c' = max c (judge f ((m : Nat) : Int) v) → w.grownBy w' (some g) → IsR w' g a c' (fun i => decide (i = m) || sn i) → Red w g a c sn f ((m : Nat) : Int) v (.returned (.tuple #[])) w') := Lib.hid fun w' c' hj3 hj0 hc' hgr hrs => ⟨rfl, hgr, by rw [if_neg (by simp [hsn]), if_neg hj3]; subst hc'; simpa [hb, hj0] using hrs⟩
  have HEnd0 : Hid (∀ w' c', judge f ((m : Nat) : Int) v = 0 → c' = max c 0 → w.grownBy w' (some g) → IsR w' g (keepA a ((m : Nat) : Int) v) c' (fun i => decide (i = m) || sn i) → Red w g a c sn f ((m : Nat) : Int) v (.returned (.tuple #[])) w') := Lib.hid fun w' c' hj0 hc' hgr hrs => ⟨rfl, hgr, by rw [if_neg (by simp [hsn]), if_neg (by omega)]; subst hc'; simpa [hb, hj0] using hrs⟩
  have HOk : Hid (judge f ((m : Nat) : Int) v = 0 → okV ((m : Nat) : Int) v = true) := Lib.hid (judge_zero hb)
  have hb0 : Below w.heap.size w (w.alloc (.cells #[.int .i64 f, .int .i64 ((m : Nat) : Int), .slice A n cp] 67)) := (Below.refl _ _).alloc (Nat.le_refl _) _
  have HE := Lib.hid (E.below hb0)
  have HB := Lib.hid hb0
  have HR := Lib.hid hr
  have HN := Lib.hid (Blk.new w 67 #[.int .i64 f, .int .i64 ((m : Nat) : Int), .slice A n cp])
  have HS : Hid (w.heap.size < (w.alloc (.cells #[.int .i64 f, .int .i64 ((m : Nat) : Int), .slice A n cp] 67)).heap.size) := Lib.hid (by simp)
  have HI := Lib.hid (h.below hb0)
  have hglt := h.lt
  have HBd : Hid (bndV ((m : Nat) : Int) = .tuple #[.agg #[.int .i64 m, .int .i64 fl, .int .i64 cl], .bool true]) := Lib.hid (by unfold bndV; rw [hb])
  clear hr hb0 E h
  go_enter Tryz.func117, Tryz.ntmps117
  go_wp2_with fail
  refine (boundsOf_is _ HE.out ((m : Nat) : Int)).mono ?_
  generalize (w.alloc (.cells #[.int .i64 f, .int .i64 ((m : Nat) : Int), .slice A n cp] 67)) = w0 at *
  rintro e w1 ⟨rfl, hB1⟩
  rw [HBd.out]
  have HB1 := Lib.hid (HB.out.trans (hB1.mono (Nat.le_of_lt HS.out)))
  have HN1 := Lib.hid (HN.out.below hB1 HS.out)
  have HI1 := Lib.hid (HI.out.below hB1)
  have HE1 := Lib.hid (HE.out.below hB1)
  clear hB1 HN HI HE HB HS HBd hb
  have hal : Below w1.heap.size w1 (w1.alloc (.cells #[.int .i64 m, .int .i64 fl, .int .i64 cl] 217)) := (Below.refl _ _).alloc (Nat.le_refl _) _
  have HB2 := Lib.hid (HB1.out.trans (hal.mono HB1.out.size))
  have HN2 := Lib.hid (HN1.out.below hal HN1.out.lt)
  have HI2 := Lib.hid (HI1.out.below hal)
  have HE2 := Lib.hid (HE1.out.below hal)
  clear hal HB1 HN1 HI1 HE1
  go_wp2
  generalize (w1.alloc (.cells #[.int .i64 m, .int .i64 fl, .int .i64 cl] 217)) = w2 at *
  have hs0 : w2.cell? ⟨g, 31 + m, none⟩ = some (.bool false) := by rw [HI2.out.seen m hm2, hsn]
  have HN2d : Hid (Blk w2.drew w.heap.size 67 #[.int .i64 f, .int .i64 ((m : Nat) : Int), .slice A n cp] ∧ w2.drew.cell? ⟨g, 31 + m, none⟩ = some (.bool false)) := Lib.hid ⟨HN2.out, hs0⟩
  have HSn := Lib.hid hsn
  clear hs0 hsn
  have hmi : (m : Int) < 256 := by omega
  have hmi0 : (0 : Int) ≤ (m : Int) := by omega
  have hmt : ((m : Int)).toNat = m := by simp
  refine wp_region_held_drew (S := fun W => Blk W w.heap.size 67 #[.int .i64 f, .int .i64 ((m : Nat) : Int), .slice A n cp] ∧ W.cell? ⟨g, 31 + m, none⟩ = some (.bool false)) (by kernel_rfl) (HN2d.out) (fun hS => ?_)
  refine wpAnyH_take (i := 0) (oi := ⟨some 13, _, _, _, _, _⟩) (v := ?_) rfl (by kernel_rfl) (by kernel_rfl) (by kernel_rfl) (fun _ _ _ h => h) (Or.inl ⟨by rfl, ?_⟩) hS ?_
  rotate_left
  · intro wq hq
    first | (go_simp; done) | (go_simp; rfl)
  try simp only [Act.put, zP, zQ, zR]
  refine wpAnyH_take (i := 1) (oi := ⟨some 14, _, _, _, _, _⟩) (v := ?_) rfl (by kernel_rfl) (by kernel_rfl) (by kernel_rfl) (fun _ _ _ h => h) (Or.inl ⟨by rfl, ?_⟩) hS ?_
  rotate_left
  · intro wq hq
    first | (go_simp; done) | (go_simp; rfl)
  try simp only [Act.put, zP, zQ, zR]
  refine wpAnyH_take (i := 2) (oi := ⟨some 15, _, _, _, _, _⟩) (v := ?_) rfl (by kernel_rfl) (by kernel_rfl) (by kernel_rfl) (fun _ _ _ h => h) (Or.inl ⟨by rfl, ?_⟩) hS ?_
  rotate_left
  · intro wq hq
    first | (go_simp; done) | (go_simp; rfl)
  try simp only [Act.put, zP, zQ, zR]
  refine wpAnyH_take (i := 3) (oi := ⟨some 16, _, _, _, _, _⟩) (v := ?_) rfl (by kernel_rfl) (by kernel_rfl) (by kernel_rfl) (fun _ _ _ h => h) (Or.inl ⟨by rfl, ?_⟩) hS ?_
  rotate_left
  · intro wq hq
    first | (go_simp; done) | (go_simp; rfl)
  try simp only [Act.put, zP, zQ, zR]
  refine wpAnyH_take (i := 4) (oi := ⟨some 17, _, _, _, _, _⟩) (v := ?_) rfl (by kernel_rfl) (by kernel_rfl) (by kernel_rfl) (fun _ _ _ h => h) (Or.inl ⟨by rfl, ?_⟩) hS ?_
  rotate_left
  · intro wq hq
    have d1 : wq.cell? ⟨w.heap.size, 1, none⟩ = some (.int .i64 (m : Int)) := hq.1.cell 1
    first | (go_simp; done) | (go_simp; rfl)
  try simp only [Act.put, zP, zQ, zR]
  refine wpAnyH_take (i := 5) (oi := ⟨some 18, _, _, _, _, _⟩) (v := ?_) rfl (by kernel_rfl) (by kernel_rfl) (by kernel_rfl) (fun _ _ _ h => h) (Or.inl ⟨by rfl, ?_⟩) hS ?_
  rotate_left
  · intro wq hq
    first | (go_simp; done) | (go_simp; rfl)
  try simp only [Act.put, zP, zQ, zR]
  refine wpAnyH_take (i := 6) (oi := ⟨some 19, _, _, _, _, _⟩) (v := ?_) rfl (by kernel_rfl) (by kernel_rfl) (by kernel_rfl) (fun _ _ _ h => h) (Or.inl ⟨by rfl, ?_⟩) hS ?_
  rotate_left
  · intro wq hq
    first | (go_simp; done) | (go_simp; rfl)
  try simp only [Act.put, zP, zQ, zR]
  refine wpAnyH_take (i := 7) (oi := ⟨some 20, _, _, _, _, _⟩) (v := ?_) rfl (by kernel_rfl) (by kernel_rfl) (by kernel_rfl) (fun _ _ _ h => h) (Or.inl ⟨by rfl, ?_⟩) hS ?_
  rotate_left
  · intro wq hq
    first | (go_simp; done) | (go_simp; rfl)
  try simp only [Act.put, zP, zQ, zR]
  refine wpAnyH_take (i := 8) (oi := ⟨some 21, _, _, _, _, _⟩) (v := ?_) rfl (by kernel_rfl) (by kernel_rfl) (by kernel_rfl) (fun _ _ _ h => h) (Or.inl ⟨by rfl, ?_⟩) hS ?_
  rotate_left
  · intro wq hq
    have d2 : wq.cell? ⟨g, 31 + m, none⟩ = some (.bool false) := hq.2
    first | (go_simp; done) | (go_simp; rfl)
  try simp only [Act.put, zP, zQ, zR]
  refine wpAnyH_take (i := 9) (oi := ⟨some 22, _, _, _, _, _⟩) (v := ?_) rfl (by kernel_rfl) (by kernel_rfl) (by kernel_rfl) (fun _ _ _ h => h) (Or.inl ⟨by rfl, ?_⟩) hS ?_
  rotate_left
  · intro wq hq
    first | (go_simp; done) | (go_simp; rfl)
  try simp only [Act.put, zP, zQ, zR]
  refine wpAnyH_done (by kernel_rfl) ?_ _
  clear HN2d hmt
  have hd : Below w2.heap.size w2 w2.drew := below_drewN (Below.refl _ _) 1
  have HB3 := Lib.hid (HB2.out.trans (hd.mono HB2.out.size))
  have HN3 := Lib.hid (HN2.out.below hd HN2.out.lt)
  have HI3 := Lib.hid (HI2.out.below hd)
  have HE3 := Lib.hid (HE2.out.below hd)
  clear hd hS HB2 HN2 HI2 HE2
  generalize w2.drew = w3 at *
  have x0 : w3.cell? ⟨w.heap.size, 0, none⟩ = some (.int .i64 f) := HN3.out.cell 0
  have x1 : w3.cell? ⟨w.heap.size, 0 + 1, none⟩ = some (.int .i64 ((m : Nat) : Int)) := HN3.out.cell 1
  have x2 : w3.cell? ⟨w.heap.size, 0 + 2, none⟩ = some (.slice A n cp) := HN3.out.cell 2
  have X0 := Lib.hid x0
  have X1 := Lib.hid x1
  have X2 := Lib.hid x2
  clear x0 x1 x2
  go_wp2_with (refine raw_fetch rfl _ rfl w.heap.size 0 f ((m : Nat) : Int) A n cp rfl X0.out X1.out X2.out ?_)
  refine (judge_is w3 HE3.out f ((m : Nat) : Int) A n cp v ((HR.out.below (HB3.out.mono (Nat.le_of_lt hglt))).more (by have := HB3.out.size; omega)) (by omega)).mono ?_
  rintro e w4 ⟨rfl, hB4⟩
  have HB4 := Lib.hid (HB3.out.trans (hB4.mono HB3.out.size))
  have HN4 := Lib.hid (HN3.out.below hB4 HN3.out.lt)
  have HI4 := Lib.hid (HI3.out.below hB4)
  have c27 := HI4.out.cls
  have f27 := HI4.out.fz 27
  generalize judge f ((m : Nat) : Int) v = j at *
  clear hB4 HB3 HN3 HI3 HE3 X0 X1 X2
  by_cases hj3 : j = 3
  · subst hj3
    have hc3 : c < 3 := by omega
    have hI5 := HI4.out.putCls 3
    have hB5 : Below g w (w4.setCell ⟨g, 27, none⟩ (.int .i64 3)) := (HB4.out.mono (Nat.le_of_lt hglt)).setCell (by simp) _
    have hg5 : w.grownBy (w4.setCell ⟨g, 27, none⟩ (.int .i64 3)) (some g) := only_setCell (only_of_below HB4.out _) (.inl rfl) _
    have hN5 : Blk (w4.setCell ⟨g, 27, none⟩ (.int .i64 3)) w.heap.size 67 #[.int .i64 f, .int .i64 ((m : Nat) : Int), .slice A n cp] := HN4.out.far (p := ⟨g, 27, none⟩) (by simp; omega) _
    have x0 : (w4.setCell ⟨g, 27, none⟩ (.int .i64 3)).cell? ⟨w.heap.size, 0, none⟩ = some (.int .i64 f) := hN5.cell 0
    have x1 : (w4.setCell ⟨g, 27, none⟩ (.int .i64 3)).cell? ⟨w.heap.size, 0 + 1, none⟩ = some (.int .i64 ((m : Nat) : Int)) := hN5.cell 1
    have x2 : (w4.setCell ⟨g, 27, none⟩ (.int .i64 3)).cell? ⟨w.heap.size, 0 + 2, none⟩ = some (.slice A n cp) := hN5.cell 2
    have hsz5 := hg5.size
    have HF := Lib.hid (faultOf_is _ f ((m : Nat) : Int) A n cp v true ((HR.out.below hB5).more (by omega)) hm)
    have HI5 := Lib.hid hI5
    have HG5 := Lib.hid hg5
    have HZ5 := Lib.hid hsz5
    have X0 := Lib.hid x0
    have X1 := Lib.hid x1
    have X2 := Lib.hid x2
    clear x0 x1 x2 hI5 hB5 hg5 hN5 hsz5 HI4 HN4 HB4
    go_wp2_with (refine raw_fetch rfl _ rfl w.heap.size 0 f ((m : Nat) : Int) A n cp rfl X0.out X1.out X2.out ?_)
    refine HF.out.mono ?_
    generalize (w4.setCell ⟨g, 27, none⟩ (.int .i64 3)) = w5 at *
    rintro e w6 ⟨Ad, nd, cd, rfl, hod, hB6⟩
    have hI6 := HI5.out.below hB6
    have hG6 : w.grownBy w6 (some g) := only_trans HG5.out (only_of_below hB6 _)
    have HT := Lib.hid hI6.flt
    have HEnd := Lib.hid (HEnd3.out _ (by first | rfl | trivial) (only_setCells (.inl rfl) [.int .i64 3, .int .i64 4, .slice Ad nd cd] 28 w6 hG6) (hI6.rst hI6.cls (hod.low (by have := HZ5.out; omega))))
    clear hod hB6 hI6 hG6 HEnd3 HEndI HF
    go_wp2_with (refine f_mid rfl _ _ rfl g 28 3 4 Ad nd cd rfl rfl HT.out ?_)
    go_end0
    exact HEnd.out
  · have ej3 : (j == 3) = false := by simpa using hj3
    have hmx : ∃ c', c' = max c j := ⟨_, rfl⟩
    have hcj : c < j ∨ j ≤ c := by omega
    rcases hcj with hcj | hcj
    · have hI5 := HI4.out.putCls j
      have hg5 : w.grownBy (w4.setCell ⟨g, 27, none⟩ (.int .i64 j)) (some g) := only_setCell (only_of_below HB4.out _) (.inl rfl) _
      have hB5 : Below g w (w4.setCell ⟨g, 27, none⟩ (.int .i64 j)) := (HB4.out.mono (Nat.le_of_lt hglt)).setCell (by simp) _
      have hN5 : Blk (w4.setCell ⟨g, 27, none⟩ (.int .i64 j)) w.heap.size 67 #[.int .i64 f, .int .i64 ((m : Nat) : Int), .slice A n cp] := HN4.out.far (p := ⟨g, 27, none⟩) (by simp; omega) _
      have HI5 := Lib.hid hI5
      have HG5 := Lib.hid hg5
      have HB5 := Lib.hid hB5
      have HN5 := Lib.hid hN5
      clear hI5 hg5 hB5 hN5 HI4 HN4 HB4 hmx
      go_wp2
      generalize (w4.setCell ⟨g, 27, none⟩ (.int .i64 j)) = w5 at *
      have HN5d : Hid (Blk w5.drew w.heap.size 67 #[.int .i64 f, .int .i64 ((m : Nat) : Int), .slice A n cp]) := Lib.hid HN5.out
      have hs5 : w5.drew.cell? ⟨g, 31 + m, none⟩ = some (.bool (sn m)) := HI5.out.seen m hm2
      have hf5 : w5.drew.frozen? ⟨g, 31 + m, none⟩ = false := HI5.out.fz (31 + m)
      have hmt : ((m : Int)).toNat = m := by simp
      refine wp_region_held_drew (S := fun W => Blk W w.heap.size 67 #[.int .i64 f, .int .i64 ((m : Nat) : Int), .slice A n cp]) (by kernel_rfl) (HN5d.out) (fun hS => ?_)
      refine wpAnyH_take (i := 0) (oi := ⟨some 49, _, _, _, _, _⟩) (v := ?_) rfl (by kernel_rfl) (by kernel_rfl) (by kernel_rfl) (fun _ _ _ h => h) (Or.inl ⟨by rfl, ?_⟩) hS ?_
      rotate_left
      · intro wq hq
        first | (go_simp; done) | (go_simp; rfl)
      try simp only [Act.put, zP, zQ, zR]
      refine wpAnyH_take (i := 1) (oi := ⟨some 50, _, _, _, _, _⟩) (v := ?_) rfl (by kernel_rfl) (by kernel_rfl) (by kernel_rfl) (fun _ _ _ h => h) (Or.inl ⟨by rfl, ?_⟩) hS ?_
      rotate_left
      · intro wq hq
        first | (go_simp; done) | (go_simp; rfl)
      try simp only [Act.put, zP, zQ, zR]
      refine wpAnyH_take (i := 2) (oi := ⟨some 51, _, _, _, _, _⟩) (v := ?_) rfl (by kernel_rfl) (by kernel_rfl) (by kernel_rfl) (fun _ _ _ h => h) (Or.inl ⟨by rfl, ?_⟩) hS ?_
      rotate_left
      · intro wq hq
        have d1 : wq.cell? ⟨w.heap.size, 1, none⟩ = some (.int .i64 (m : Int)) := hq.cell 1
        first | (go_simp; done) | (go_simp; rfl)
      try simp only [Act.put, zP, zQ, zR]
      refine wpAnyH_take (i := 3) (oi := ⟨some 52, _, _, _, _, _⟩) (v := ?_) rfl (by kernel_rfl) (by kernel_rfl) (by kernel_rfl) (fun _ _ _ h => h) (Or.inl ⟨by rfl, ?_⟩) hS ?_
      rotate_left
      · intro wq hq
        first | (go_simp; done) | (go_simp; rfl)
      try simp only [Act.put, zP, zQ, zR]
      refine wpAnyH_take (i := 4) (oi := ⟨some 53, _, _, _, _, _⟩) (v := ?_) rfl (by kernel_rfl) (by kernel_rfl) (by kernel_rfl) (fun _ _ _ h => h) (Or.inl ⟨by rfl, ?_⟩) hS ?_
      rotate_left
      · intro wq hq
        first | (go_simp; done) | (go_simp; rfl)
      try simp only [Act.put, zP, zQ, zR]
      refine wpAnyH_take (i := 5) (oi := ⟨some 54, _, _, _, _, _⟩) (v := ?_) rfl (by kernel_rfl) (by kernel_rfl) (by kernel_rfl) (fun _ _ _ h => h) (Or.inl ⟨by rfl, ?_⟩) hS ?_
      rotate_left
      · intro wq hq
        first | (go_simp; done) | (go_simp; rfl)
      try simp only [Act.put, zP, zQ, zR]
      refine wpAnyH_ready (rs := [6]) (by kernel_rfl) (by simp) ?_
      refine AllReadyH.cons (o := ⟨none, _, _, _, _, _⟩) rfl (fun K hK => ?_) AllReadyH.nil
      rw [if_pos (by rfl)]
      go_wp2
      refine hK.out _ _ (HN5d.out.far (p := ⟨g, 31 + m, none⟩) (by simp; omega) _) (fun hS => ?_)
      clear hK K
      try simp only [Act.put, zP, zQ, zR]
      refine wpAnyH_done (by kernel_rfl) ?_ _
      have hd : Below w5.heap.size w5 w5.drew := below_drewN (Below.refl _ _) 1
      have hI6 : IsR (w5.setCell ⟨g, 31 + m, none⟩ (.bool true)).drew g a j (fun i => decide (i = m) || sn i) := (HI5.out.below hd).putSeen m hm2
      have hg6 : w.grownBy (w5.setCell ⟨g, 31 + m, none⟩ (.bool true)).drew (some g) := only_drewN (only_setCell HG5.out (p := ⟨g, 31 + m, none⟩) (.inl rfl) (.bool true)) 1
      have hN6 : Blk (w5.setCell ⟨g, 31 + m, none⟩ (.bool true)).drew w.heap.size 67 #[.int .i64 f, .int .i64 ((m : Nat) : Int), .slice A n cp] := HN5.out.far (p := ⟨g, 31 + m, none⟩) (by simp; omega) _
      have hB6 : Below g w (w5.setCell ⟨g, 31 + m, none⟩ (.bool true)).drew := below_drewN (HB5.out.setCell (p := ⟨g, 31 + m, none⟩) (by simp) (.bool true)) 1
      have HI6 := Lib.hid hI6
      have HG6 := Lib.hid hg6
      have HN6 := Lib.hid hN6
      have HB6 := Lib.hid hB6
      clear hd hI6 hg6 hN6 hB6 HN5d hs5 hf5 hS HI5 HG5 HN5 HB5 hmt
      generalize (w5.setCell ⟨g, 31 + m, none⟩ (.bool true)).drew = w6 at *
      by_cases hj0 : j = 0
      · omega
      · have ej0 : (j == 0) = false := by simpa using hj0
        have HEnd := Lib.hid (HEndI.out w6 j hj3 hj0 (by omega) HG6.out HI6.out)
        clear HEnd3 HEndI HEnd0
        go_wp2
        go_end0
        exact HEnd.out
    · have hI5 := HI4.out.putCls c
      have hg5 : w.grownBy (w4.setCell ⟨g, 27, none⟩ (.int .i64 c)) (some g) := only_setCell (only_of_below HB4.out _) (.inl rfl) _
      have hB5 : Below g w (w4.setCell ⟨g, 27, none⟩ (.int .i64 c)) := (HB4.out.mono (Nat.le_of_lt hglt)).setCell (by simp) _
      have hN5 : Blk (w4.setCell ⟨g, 27, none⟩ (.int .i64 c)) w.heap.size 67 #[.int .i64 f, .int .i64 ((m : Nat) : Int), .slice A n cp] := HN4.out.far (p := ⟨g, 27, none⟩) (by simp; omega) _
      have HI5 := Lib.hid hI5
      have HG5 := Lib.hid hg5
      have HB5 := Lib.hid hB5
      have HN5 := Lib.hid hN5
      clear hI5 hg5 hB5 hN5 HI4 HN4 HB4 hmx
      go_wp2
      generalize (w4.setCell ⟨g, 27, none⟩ (.int .i64 c)) = w5 at *
      have HN5d : Hid (Blk w5.drew w.heap.size 67 #[.int .i64 f, .int .i64 ((m : Nat) : Int), .slice A n cp]) := Lib.hid HN5.out
      have hs5 : w5.drew.cell? ⟨g, 31 + m, none⟩ = some (.bool (sn m)) := HI5.out.seen m hm2
      have hf5 : w5.drew.frozen? ⟨g, 31 + m, none⟩ = false := HI5.out.fz (31 + m)
      have hmt : ((m : Int)).toNat = m := by simp
      refine wp_region_held_drew (S := fun W => Blk W w.heap.size 67 #[.int .i64 f, .int .i64 ((m : Nat) : Int), .slice A n cp]) (by kernel_rfl) (HN5d.out) (fun hS => ?_)
      refine wpAnyH_take (i := 0) (oi := ⟨some 49, _, _, _, _, _⟩) (v := ?_) rfl (by kernel_rfl) (by kernel_rfl) (by kernel_rfl) (fun _ _ _ h => h) (Or.inl ⟨by rfl, ?_⟩) hS ?_
      rotate_left
      · intro wq hq
        first | (go_simp; done) | (go_simp; rfl)
      try simp only [Act.put, zP, zQ, zR]
      refine wpAnyH_take (i := 1) (oi := ⟨some 50, _, _, _, _, _⟩) (v := ?_) rfl (by kernel_rfl) (by kernel_rfl) (by kernel_rfl) (fun _ _ _ h => h) (Or.inl ⟨by rfl, ?_⟩) hS ?_
      rotate_left
      · intro wq hq
        first | (go_simp; done) | (go_simp; rfl)
      try simp only [Act.put, zP, zQ, zR]
      refine wpAnyH_take (i := 2) (oi := ⟨some 51, _, _, _, _, _⟩) (v := ?_) rfl (by kernel_rfl) (by kernel_rfl) (by kernel_rfl) (fun _ _ _ h => h) (Or.inl ⟨by rfl, ?_⟩) hS ?_
      rotate_left
      · intro wq hq
        have d1 : wq.cell? ⟨w.heap.size, 1, none⟩ = some (.int .i64 (m : Int)) := hq.cell 1
        first | (go_simp; done) | (go_simp; rfl)
      try simp only [Act.put, zP, zQ, zR]
      refine wpAnyH_take (i := 3) (oi := ⟨some 52, _, _, _, _, _⟩) (v := ?_) rfl (by kernel_rfl) (by kernel_rfl) (by kernel_rfl) (fun _ _ _ h => h) (Or.inl ⟨by rfl, ?_⟩) hS ?_
      rotate_left
      · intro wq hq
        first | (go_simp; done) | (go_simp; rfl)
      try simp only [Act.put, zP, zQ, zR]
      refine wpAnyH_take (i := 4) (oi := ⟨some 53, _, _, _, _, _⟩) (v := ?_) rfl (by kernel_rfl) (by kernel_rfl) (by kernel_rfl) (fun _ _ _ h => h) (Or.inl ⟨by rfl, ?_⟩) hS ?_
      rotate_left
      · intro wq hq
        first | (go_simp; done) | (go_simp; rfl)
      try simp only [Act.put, zP, zQ, zR]
      refine wpAnyH_take (i := 5) (oi := ⟨some 54, _, _, _, _, _⟩) (v := ?_) rfl (by kernel_rfl) (by kernel_rfl) (by kernel_rfl) (fun _ _ _ h => h) (Or.inl ⟨by rfl, ?_⟩) hS ?_
      rotate_left
      · intro wq hq
        first | (go_simp; done) | (go_simp; rfl)
      try simp only [Act.put, zP, zQ, zR]
      refine wpAnyH_ready (rs := [6]) (by kernel_rfl) (by simp) ?_
      refine AllReadyH.cons (o := ⟨none, _, _, _, _, _⟩) rfl (fun K hK => ?_) AllReadyH.nil
      rw [if_pos (by rfl)]
      go_wp2
      refine hK.out _ _ (HN5d.out.far (p := ⟨g, 31 + m, none⟩) (by simp; omega) _) (fun hS => ?_)
      clear hK K
      try simp only [Act.put, zP, zQ, zR]
      refine wpAnyH_done (by kernel_rfl) ?_ _
      have hd : Below w5.heap.size w5 w5.drew := below_drewN (Below.refl _ _) 1
      have hI6 : IsR (w5.setCell ⟨g, 31 + m, none⟩ (.bool true)).drew g a c (fun i => decide (i = m) || sn i) := (HI5.out.below hd).putSeen m hm2
      have hg6 : w.grownBy (w5.setCell ⟨g, 31 + m, none⟩ (.bool true)).drew (some g) := only_drewN (only_setCell HG5.out (p := ⟨g, 31 + m, none⟩) (.inl rfl) (.bool true)) 1
      have hN6 : Blk (w5.setCell ⟨g, 31 + m, none⟩ (.bool true)).drew w.heap.size 67 #[.int .i64 f, .int .i64 ((m : Nat) : Int), .slice A n cp] := HN5.out.far (p := ⟨g, 31 + m, none⟩) (by simp; omega) _
      have hB6 : Below g w (w5.setCell ⟨g, 31 + m, none⟩ (.bool true)).drew := below_drewN (HB5.out.setCell (p := ⟨g, 31 + m, none⟩) (by simp) (.bool true)) 1
      have HI6 := Lib.hid hI6
      have HG6 := Lib.hid hg6
      have HN6 := Lib.hid hN6
      have HB6 := Lib.hid hB6
      clear hd hI6 hg6 hN6 hB6 HN5d hs5 hf5 hS HI5 HG5 HN5 HB5 hmt
      generalize (w5.setCell ⟨g, 31 + m, none⟩ (.bool true)).drew = w6 at *
      by_cases hj0 : j = 0
      · subst hj0
        have y1 : w6.cell? ⟨w.heap.size, 1, none⟩ = some (.int .i64 (m : Int)) := HN6.out.cell 1
        have y2 : w6.cell? ⟨w.heap.size, 2, none⟩ = some (.slice A n cp) := HN6.out.cell 2
        have HKp := Lib.hid (keep_is w6 g a c (fun i => decide (i = m) || sn i) A n cp v HI6.out ((HR.out.below HB6.out).more (Nat.le_of_lt HI6.out.lt)) hm (m : Int) (HOk.out (by first | rfl | trivial)))
        clear HEnd3 HEndI
        go_wp2_with fail
        refine HKp.out.mono ?_
        rintro e w7 ⟨rfl, hI7, hg7⟩
        have HEnd := Lib.hid (HEnd0.out w7 c (by first | rfl | trivial) (by omega) (only_trans HG6.out hg7) hI7)
        clear hI7 hg7 HKp HEnd0
        go_wp2
        go_end0
        exact HEnd.out
      · have ej0 : (j == 0) = false := by simpa using hj0
        have HEnd := Lib.hid (HEndI.out w6 c hj3 hj0 (by omega) HG6.out HI6.out)
        clear HEnd3 HEndI HEnd0
        go_wp2
        go_end0
        exact HEnd.out
end
end Go.Proofs.YtdgoeibfggjbmaaGreatDoor
namespace Go.Proofs.YtdgoeibfggjbmaaGreatDoor
open Go.RowKit
set_option maxRecDepth 100000
set_option linter.unusedSimpArgs false
set_option linter.unusedVariables false

section
variable (w : World) (E : EnvK w) (g : Nat) (a : Att) (c : Int) (sn : Nat → Bool) (f : Int) (A : Option Addr) (n cp : Nat) (v : List Int) (h : IsR w g a c sn) (h0 : 0 ≤ c) (h2 : c ≤ 2) (hr : Rd w g A n v) (hm : n ≤ 140737488351232)

set_option maxHeartbeats 4000000 in
include E h h0 h2 in
theorem read_seen (m : Nat) (hm2 : m < 256) (fl cl : Int) (hb : bnd (m : Int) = some (fl, cl)) (hsn : sn m = true) : Calls Tryz.prog 117 #[.pointer (some ⟨g, 0, none⟩), .agg #[.int .i64 f, .int .i64 ((m : Nat) : Int), .slice A n cp]] w (Red w g a c sn f m v) := by
  have HEnd : Hid (∀ e w1 w', w.grownBy w1 (some g) → Snd w1 g a c sn (m : Int) e w' → Red w g a c sn f m v e w') := Lib.hid fun e w1 w' hg1 hs => ⟨hs.1, only_trans hg1 hs.2.1, by rw [if_pos (by simp [hb, hsn])]; exact hs.2.2⟩
  have hb0 : Below w.heap.size w (w.alloc (.cells #[.int .i64 f, .int .i64 ((m : Nat) : Int), .slice A n cp] 67)) := (Below.refl _ _).alloc (Nat.le_refl _) _
  have HE := Lib.hid (E.below hb0)
  have HB := Lib.hid hb0
  have HN := Lib.hid (Blk.new w 67 #[.int .i64 f, .int .i64 ((m : Nat) : Int), .slice A n cp])
  have HS : Hid (w.heap.size < (w.alloc (.cells #[.int .i64 f, .int .i64 ((m : Nat) : Int), .slice A n cp] 67)).heap.size) := Lib.hid (by simp)
  have HI := Lib.hid (h.below hb0)
  have hglt := h.lt
  have HBd : Hid (bndV (m : Int) = .tuple #[.agg #[.int .i64 m, .int .i64 fl, .int .i64 cl], .bool true]) := Lib.hid (by unfold bndV; rw [hb])
  clear hb0 E h
  go_enter Tryz.func117, Tryz.ntmps117
  go_wp2_with fail
  refine (boundsOf_is _ HE.out (m : Int)).mono ?_
  generalize (w.alloc (.cells #[.int .i64 f, .int .i64 ((m : Nat) : Int), .slice A n cp] 67)) = w0 at *
  rintro e w1 ⟨rfl, hB1⟩
  rw [HBd.out]
  have HB1 := Lib.hid (HB.out.trans (hB1.mono (Nat.le_of_lt HS.out)))
  have HN1 := Lib.hid (HN.out.below hB1 HS.out)
  have HI1 := Lib.hid (HI.out.below hB1)
  clear hB1 HN HI HE HB HS HBd hb
  have hal : Below w1.heap.size w1 (w1.alloc (.cells #[.int .i64 m, .int .i64 fl, .int .i64 cl] 217)) := (Below.refl _ _).alloc (Nat.le_refl _) _
  have HB2 := Lib.hid (HB1.out.trans (hal.mono HB1.out.size))
  have HN2 := Lib.hid (HN1.out.below hal HN1.out.lt)
  have HI2 := Lib.hid (HI1.out.below hal)
  clear hal HB1 HN1 HI1
  go_wp2
  generalize (w1.alloc (.cells #[.int .i64 m, .int .i64 fl, .int .i64 cl] 217)) = w2 at *
  have hs0 : w2.cell? ⟨g, 31 + m, none⟩ = some (.bool true) := by rw [HI2.out.seen m hm2, hsn]
  have HN2d : Hid (Blk w2.drew w.heap.size 67 #[.int .i64 f, .int .i64 ((m : Nat) : Int), .slice A n cp] ∧ w2.drew.cell? ⟨g, 31 + m, none⟩ = some (.bool true)) := Lib.hid ⟨HN2.out, hs0⟩
  have HSn := Lib.hid hsn
  clear hs0 hsn
  have hmi : (m : Int) < 256 := by omega
  have hmi0 : (0 : Int) ≤ (m : Int) := by omega
  have hmt : ((m : Int)).toNat = m := by simp
  refine wp_region_held_drew (S := fun W => Blk W w.heap.size 67 #[.int .i64 f, .int .i64 ((m : Nat) : Int), .slice A n cp] ∧ W.cell? ⟨g, 31 + m, none⟩ = some (.bool true)) (by kernel_rfl) (HN2d.out) (fun hS => ?_)
  refine wpAnyH_take (i := 0) (oi := ⟨some 13, _, _, _, _, _⟩) (v := ?_) rfl (by kernel_rfl) (by kernel_rfl) (by kernel_rfl) (fun _ _ _ h => h) (Or.inl ⟨by rfl, ?_⟩) hS ?_
  rotate_left
  · intro wq hq
    first | (go_simp; done) | (go_simp; rfl)
  try simp only [Act.put, zP, zQ, zR]
  refine wpAnyH_take (i := 1) (oi := ⟨some 14, _, _, _, _, _⟩) (v := ?_) rfl (by kernel_rfl) (by kernel_rfl) (by kernel_rfl) (fun _ _ _ h => h) (Or.inl ⟨by rfl, ?_⟩) hS ?_
  rotate_left
  · intro wq hq
    first | (go_simp; done) | (go_simp; rfl)
  try simp only [Act.put, zP, zQ, zR]
  refine wpAnyH_take (i := 2) (oi := ⟨some 15, _, _, _, _, _⟩) (v := ?_) rfl (by kernel_rfl) (by kernel_rfl) (by kernel_rfl) (fun _ _ _ h => h) (Or.inl ⟨by rfl, ?_⟩) hS ?_
  rotate_left
  · intro wq hq
    first | (go_simp; done) | (go_simp; rfl)
  try simp only [Act.put, zP, zQ, zR]
  refine wpAnyH_take (i := 3) (oi := ⟨some 16, _, _, _, _, _⟩) (v := ?_) rfl (by kernel_rfl) (by kernel_rfl) (by kernel_rfl) (fun _ _ _ h => h) (Or.inl ⟨by rfl, ?_⟩) hS ?_
  rotate_left
  · intro wq hq
    first | (go_simp; done) | (go_simp; rfl)
  try simp only [Act.put, zP, zQ, zR]
  refine wpAnyH_take (i := 4) (oi := ⟨some 17, _, _, _, _, _⟩) (v := ?_) rfl (by kernel_rfl) (by kernel_rfl) (by kernel_rfl) (fun _ _ _ h => h) (Or.inl ⟨by rfl, ?_⟩) hS ?_
  rotate_left
  · intro wq hq
    have d1 : wq.cell? ⟨w.heap.size, 1, none⟩ = some (.int .i64 (m : Int)) := hq.1.cell 1
    first | (go_simp; done) | (go_simp; rfl)
  try simp only [Act.put, zP, zQ, zR]
  refine wpAnyH_take (i := 5) (oi := ⟨some 18, _, _, _, _, _⟩) (v := ?_) rfl (by kernel_rfl) (by kernel_rfl) (by kernel_rfl) (fun _ _ _ h => h) (Or.inl ⟨by rfl, ?_⟩) hS ?_
  rotate_left
  · intro wq hq
    first | (go_simp; done) | (go_simp; rfl)
  try simp only [Act.put, zP, zQ, zR]
  refine wpAnyH_take (i := 6) (oi := ⟨some 19, _, _, _, _, _⟩) (v := ?_) rfl (by kernel_rfl) (by kernel_rfl) (by kernel_rfl) (fun _ _ _ h => h) (Or.inl ⟨by rfl, ?_⟩) hS ?_
  rotate_left
  · intro wq hq
    first | (go_simp; done) | (go_simp; rfl)
  try simp only [Act.put, zP, zQ, zR]
  refine wpAnyH_take (i := 7) (oi := ⟨some 20, _, _, _, _, _⟩) (v := ?_) rfl (by kernel_rfl) (by kernel_rfl) (by kernel_rfl) (fun _ _ _ h => h) (Or.inl ⟨by rfl, ?_⟩) hS ?_
  rotate_left
  · intro wq hq
    first | (go_simp; done) | (go_simp; rfl)
  try simp only [Act.put, zP, zQ, zR]
  refine wpAnyH_take (i := 8) (oi := ⟨some 21, _, _, _, _, _⟩) (v := ?_) rfl (by kernel_rfl) (by kernel_rfl) (by kernel_rfl) (fun _ _ _ h => h) (Or.inl ⟨by rfl, ?_⟩) hS ?_
  rotate_left
  · intro wq hq
    have d2 : wq.cell? ⟨g, 31 + m, none⟩ = some (.bool true) := hq.2
    first | (go_simp; done) | (go_simp; rfl)
  try simp only [Act.put, zP, zQ, zR]
  refine wpAnyH_take (i := 9) (oi := ⟨some 22, _, _, _, _, _⟩) (v := ?_) rfl (by kernel_rfl) (by kernel_rfl) (by kernel_rfl) (fun _ _ _ h => h) (Or.inl ⟨by rfl, ?_⟩) hS ?_
  rotate_left
  · intro wq hq
    first | (go_simp; done) | (go_simp; rfl)
  try simp only [Act.put, zP, zQ, zR]
  refine wpAnyH_done (by kernel_rfl) ?_ _
  clear HN2d hmt
  have hd : Below w2.heap.size w2 w2.drew := below_drewN (Below.refl _ _) 1
  have HB3 := Lib.hid (HB2.out.trans (hd.mono HB2.out.size))
  have HN3 := Lib.hid (HN2.out.below hd HN2.out.lt)
  have HI3 := Lib.hid (HI2.out.below hd)
  clear hd hS HB2 HN2 HI2
  generalize w2.drew = w3 at *
  have x1 : w3.cell? ⟨w.heap.size, 1, none⟩ = some (.int .i64 (m : Int)) := HN3.out.cell 1
  go_wp2_with fail
  refine (readSecond_is w3 g a c sn (m : Int) HI3.out h0 h2).mono ?_
  rintro e w4 hs4
  have HS4 := Lib.hid (HEnd.out e w3 w4 (only_of_below HB3.out _) hs4)
  obtain ⟨rfl, _⟩ := hs4
  clear HEnd HB3 HN3 HI3 x1
  go_wp2
  go_end0
  exact HS4.out
include E h h0 h2 hr hm in
theorem read_is (k : Int) : Calls Tryz.prog 117 #[.pointer (some ⟨g, 0, none⟩), .agg #[.int .i64 f, .int .i64 k, .slice A n cp]] w (Red w g a c sn f k v) := by
  cases hb : bnd k with
  | none => exact read_no w E g a c sn f A n cp v h h0 h2 hr hm k hb
  | some r =>
    obtain ⟨fl, cl⟩ := r
    obtain ⟨m, rfl, hm2⟩ := bnd_nat hb
    cases hsn : sn m with
    | false => exact read_new w E g a c sn f A n cp v h h0 h2 hr hm m hm2 fl cl hb hsn
    | true => exact read_seen w E g a c sn f A n cp v h h0 h2 m hm2 fl cl hb hsn
end

def rdF : List Raw → Att → Int → List Raw → Att × Int × Int × Int × List Int
  | _, a, c, [] => (a, c, 0, 0, [])
  | done, a, c, r :: rest =>
    if (bnd r.2.1).isSome = true ∧ r.2.1 ∈ done.map (·.2.1) then (if r.2.1 = 14 ∨ r.2.1 = 15 then (Att.zero, 3, 3, 1, []) else rdF (done ++ [r]) a (max c 1) rest)
    else if judge r.1 r.2.1 r.2.2 = 3 then (Att.zero, 3, 3, (if (bnd r.2.1).isSome then 4 else 2), fdata r)
    else rdF (done ++ [r]) (if (bnd r.2.1).isSome = true ∧ judge r.1 r.2.1 r.2.2 = 0 then keepA a r.2.1 r.2.2 else a) (max c (judge r.1 r.2.1 r.2.2)) rest
def readM (rs : List Raw) : Att × Int × Int × Int × List Int := rdF [] Att.zero 0 rs

def Goes (rs : List Raw) (m : Nat) (a : Att) (c : Int) : Prop := readM rs = rdF (rs.take m) a c (rs.drop m)
theorem goes_end {rs : List Raw} {m : Nat} {a : Att} {c : Int} (h : Goes rs m a c) (hm : m = rs.length) : readM rs = (a, c, 0, 0, []) := by
  unfold Goes at h
  rw [h, List.drop_of_length_le (by omega)]
  rfl
section
variable {rs : List Raw} {m : Nat} {a : Att} {c : Int} (h : Goes rs m a c) (hm : m < rs.length)
include h hm
theorem goes_again (hk : (bnd rs[m].2.1).isSome = true) (hin : rs[m].2.1 ∈ (rs.take m).map (·.2.1)) (hn : ¬ (rs[m].2.1 = 14 ∨ rs[m].2.1 = 15)) : Goes rs (m + 1) a (max c 1) := by
  unfold Goes at *
  rw [h, List.drop_eq_getElem_cons hm, rdF, if_pos ⟨hk, hin⟩, if_neg hn, List.take_succ_eq_append_getElem hm]
theorem goes_twice (hk : (bnd rs[m].2.1).isSome = true) (hin : rs[m].2.1 ∈ (rs.take m).map (·.2.1)) (hn : rs[m].2.1 = 14 ∨ rs[m].2.1 = 15) : readM rs = (Att.zero, 3, 3, 1, []) := by
  unfold Goes at *
  rw [h, List.drop_eq_getElem_cons hm, rdF, if_pos ⟨hk, hin⟩, if_pos hn]
theorem goes_reset (hn : ¬ ((bnd rs[m].2.1).isSome = true ∧ rs[m].2.1 ∈ (rs.take m).map (·.2.1))) (hj : judge rs[m].1 rs[m].2.1 rs[m].2.2 = 3) : readM rs = (Att.zero, 3, 3, (if (bnd rs[m].2.1).isSome then 4 else 2), fdata rs[m]) := by
  unfold Goes at *
  rw [h, List.drop_eq_getElem_cons hm, rdF, if_neg hn, if_pos hj]
theorem goes_on (hn : ¬ ((bnd rs[m].2.1).isSome = true ∧ rs[m].2.1 ∈ (rs.take m).map (·.2.1))) (hj : judge rs[m].1 rs[m].2.1 rs[m].2.2 ≠ 3) :
    Goes rs (m + 1) (if (bnd rs[m].2.1).isSome = true ∧ judge rs[m].1 rs[m].2.1 rs[m].2.2 = 0 then keepA a rs[m].2.1 rs[m].2.2 else a) (max c (judge rs[m].1 rs[m].2.1 rs[m].2.2)) := by
  unfold Goes at *
  rw [h, List.drop_eq_getElem_cons hm, rdF, if_neg hn, if_neg hj, List.take_succ_eq_append_getElem hm]
end
def Marks (sn : Nat → Bool) (done : List Raw) : Prop := ∀ k : Nat, (bnd (k : Int)).isSome = true → (sn k = true ↔ (k : Int) ∈ done.map (·.2.1))
theorem marks_known {sn : Nat → Bool} {done : List Raw} {r : Raw} (h : Marks sn done) (hk : (bnd r.2.1).isSome = true) : Marks (fun i => decide (i = r.2.1.toNat) || sn i) (done ++ [r]) := by
  intro k hb
  obtain ⟨q, hq⟩ := Option.isSome_iff_exists.1 hk
  obtain ⟨m, hm, _⟩ := bnd_nat hq
  have := h k hb
  simp only [Bool.or_eq_true, decide_eq_true_eq, this, List.map_append, List.mem_append, List.map_cons, List.map_nil, List.mem_singleton]
  rw [hm]
  constructor
  · rintro (e | e)
    · right; omega
    · left; exact e
  · rintro (e | e)
    · right; exact e
    · left; omega
theorem marks_same {sn : Nat → Bool} {done : List Raw} {r : Raw} (h : Marks sn done) (hs : r.2.1 ∈ done.map (·.2.1) ∨ (bnd r.2.1).isSome = false) : Marks sn (done ++ [r]) := by
  intro k hb
  rw [h k hb, List.map_append, List.mem_append]
  constructor
  · exact .inl
  · rintro (e | e)
    · exact e
    · simp only [List.map_cons, List.map_nil, List.mem_singleton] at e
      rcases hs with hs | hs
      · rw [e]; exact hs
      · rw [← e, hb] at hs; cases hs
end Go.Proofs.YtdgoeibfggjbmaaGreatDoor
namespace Go.Proofs.YtdgoeibfggjbmaaGreatDoor
open Go.RowKit
set_option maxRecDepth 100000
set_option linter.unusedSimpArgs false
set_option linter.unusedVariables false

theorem red_cases {w w1 : World} {g : Nat} {a : Att} {c : Int} {sn : Nat → Bool} {rs : List Raw} {m : Nat} {e : Ending} (hm : m < rs.length) (hg : Goes rs m a c) (hk : Marks sn (rs.take m)) (h0 : 0 ≤ c) (h2 : c ≤ 2)
    (h : Red w g a c sn rs[m].1 rs[m].2.1 rs[m].2.2 e w1) :
    (∃ sub data, Rst w1 g sub data ∧ readM rs = (Att.zero, 3, 3, sub, data)) ∨ (∃ a' c' sn', IsR w1 g a' c' sn' ∧ Goes rs (m + 1) a' c' ∧ Marks sn' (rs.take (m + 1)) ∧ 0 ≤ c' ∧ c' ≤ 2) := by
  obtain ⟨_, _, h⟩ := h
  have hj := judge_bd rs[m].1 rs[m].2.1 rs[m].2.2
  have hmk : (bnd rs[m].2.1).isSome = true → (sn rs[m].2.1.toNat = true ↔ rs[m].2.1 ∈ (rs.take m).map (·.2.1)) := fun hb => by
    obtain ⟨q, hq⟩ := Option.isSome_iff_exists.1 hb
    obtain ⟨x, hx, _⟩ := bnd_nat hq
    rw [hx] at hb ⊢
    rw [Int.toNat_natCast]
    exact hk x hb
  have ht := List.take_succ_eq_append_getElem hm
  by_cases hs : (bnd rs[m].2.1).isSome = true ∧ sn rs[m].2.1.toNat = true
  · rw [if_pos hs] at h
    have hin := (hmk hs.1).1 hs.2
    by_cases h14 : rs[m].2.1 = 14 ∨ rs[m].2.1 = 15
    · rw [if_pos h14] at h
      exact .inl ⟨1, [], h, goes_twice hg hm hs.1 hin h14⟩
    · rw [if_neg h14] at h
      exact .inr ⟨_, _, _, h, goes_again hg hm hs.1 hin h14, by rw [ht]; exact marks_same hk (.inl hin), by omega, by omega⟩
  · rw [if_neg hs] at h
    have hn : ¬ ((bnd rs[m].2.1).isSome = true ∧ rs[m].2.1 ∈ (rs.take m).map (·.2.1)) := fun hx => hs ⟨hx.1, (hmk hx.1).2 hx.2⟩
    by_cases hj3 : judge rs[m].1 rs[m].2.1 rs[m].2.2 = 3
    · rw [if_pos hj3] at h
      exact .inl ⟨_, _, h, goes_reset hg hm hn hj3⟩
    · rw [if_neg hj3] at h
      refine .inr ⟨_, _, _, h, goes_on hg hm hn hj3, ?_, by omega, by omega⟩
      rw [ht]
      cases hb : (bnd rs[m].2.1).isSome with
      | true => rw [if_pos rfl]; exact marks_known hk hb
      | false => rw [if_neg (by simp)]; exact marks_same hk (.inr hb)

theorem results_csc {P : Program} {fn : Func} {p q r : Tmp} {ty ty2 : TypeId} (h : fn.results = #[.cell p ty, .tmp q, .cell r ty2]) (tmps : Array Value) (w : World) (g g2 : Nat) (cs ds : List Value) (d d2 : TypeDesc) (u : Value)
    (hp : tmps.getD p undef = .pointer (some ⟨g, 0, none⟩)) (hq : tmps.getD q undef = u) (hr : tmps.getD r undef = .pointer (some ⟨g2, 0, none⟩)) (hg : w.rangeAt g 0 cs) (hg2 : w.rangeAt g2 0 ds)
    (hu : P.underlying ty = some d) (hd : d.isRow = true) (hi : (P.info? ty).map (·.size) = some cs.length) (hu2 : P.underlying ty2 = some d2) (hd2 : d2.isRow = true) (hi2 : (P.info? ty2).map (·.size) = some ds.length) :
    (results fn tmps).run P w = .ok (.tuple #[.agg cs.toArray, u, .agg ds.toArray]) w := by
  have hp' : tmps[p]?.getD undef = .pointer (some ⟨g, 0, none⟩) := by simpa using hp
  have hq' : tmps[q]?.getD undef = u := by simpa using hq
  have hr' : tmps[r]?.getD undef = .pointer (some ⟨g2, 0, none⟩) := by simpa using hr
  simp [results, h, hp', hq', hr', asAddr, run_loadVar_mid w g 0 ty cs d hg hu hd hi, run_loadVar_mid w g2 0 ty2 ds d2 hg2 hu2 hd2 hi2]

structure IsAt (lo : Nat) (w : World) (cs : List Value) (a : Att) : Prop where
  ex : ∃ vp vc vm, cs = attV a vp vc vm ∧ OwnN lo w vp a.path ∧ OwnN lo w vc a.clus ∧ OwnC lo w vm a.comms
  ip : a.pm.ip.length = 16
theorem IsAt.zero (lo : Nat) (w : World) : IsAt lo w (attV Att.zero (.slice none 0 0) (.slice none 0 0) (.slice none 0 0)) Att.zero := ⟨⟨_, _, _, rfl, OwnN.nil_ _ _, OwnN.nil_ _ _, OwnC.nil_ _ _⟩, rfl⟩
theorem IsAt.below {lo : Nat} {w w' : World} {cs : List Value} {a : Att} (h : IsAt lo w cs a) (hb : Below w.heap.size w w') : IsAt lo w' cs a := by
  obtain ⟨vp, vc, vm, e, h1, h2, h3⟩ := h.ex
  exact ⟨⟨vp, vc, vm, e, h1.below hb, h2.below hb, h3.below hb⟩, h.ip⟩
def Readed (w : World) (rs : List Raw) (e : Ending) (w' : World) : Prop :=
  ∃ cs A n c, e = .returned (.tuple #[.agg cs.toArray, .int .i64 (readM rs).2.1, .agg #[.int .i64 (readM rs).2.2.1, .int .i64 (readM rs).2.2.2.1, .slice A n c]]) ∧ IsAt w.heap.size w' cs (readM rs).1 ∧ OwnB w.heap.size w' (.slice A n c) (readM rs).2.2.2.2 ∧ Below w.heap.size w w'

theorem zc_reader : Tryz.zeroCells165 = (attV Att.zero (.slice none 0 0) (.slice none 0 0) (.slice none 0 0) ++ ([Value.int .i64 0] ++ ([Value.int .i64 0, .int .i64 0, .slice none 0 0] ++ List.replicate 256 (Value.bool false)))).toArray := by kernel_rfl
theorem isR_new (w : World) : IsR (w.alloc (.cells Tryz.zeroCells165 165)) w.heap.size Att.zero 0 (fun _ => false) := by
  have hB := Blk.new w 165 Tryz.zeroCells165
  rw [zc_reader] at hB ⊢
  have hr := Blk.range hB
  have hl : (attV Att.zero (.slice none 0 0) (.slice none 0 0) (.slice none 0 0)).length = 27 := rfl
  have h1 := range_post hr
  have h2 := range_post h1
  have h3 := range_post h2
  rw [hl] at h1 h2 h3
  refine ⟨⟨_, _, _, range_pre hr, OwnN.nil_ _ _, OwnN.nil_ _ _, OwnC.nil_ _ _⟩, rfl, ?_, fun j hj => ⟨?_, hB.frozen _⟩, fun k hk => ?_, fun i => hB.frozen i⟩
  · exact h1 0 _ rfl
  · have h28 : (w.alloc (.cells (attV Att.zero (.slice none 0 0) (.slice none 0 0) (.slice none 0 0) ++ ([Value.int .i64 0] ++ ([Value.int .i64 0, .int .i64 0, .slice none 0 0] ++ List.replicate 256 (Value.bool false)))).toArray 165)).rangeAt w.heap.size 28 [.int .i64 0, .int .i64 0, .slice none 0 0] := range_pre h2
    rw [h28 j _ (List.getElem?_eq_getElem (by simpa using hj))]
    rfl
  · have := h3 k (.bool false) (by rw [List.getElem?_replicate, if_pos hk])
    exact this

structure RRel (w : World) (rs : List Raw) (wr : World) (m : Nat) (a : Att) (c : Int) (sn : Nat → Bool) : Prop where
  isr : IsR wr (w.heap.size + 2) a c sn
  bel : Below w.heap.size w wr
  r0 : Blk wr w.heap.size 31 #[Value.int .i64 0, .slice none 0 0, .bool false, .int .u32 0, .int .u32 0, .int .u32 0, .slice none 0 0, .slice none 0 0, .int .i64 0, .int .u32 0, .bool false, .int .u8 0, .int .u8 0, .int .u8 0, .int .u8 0, .int .u8 0, .int .u8 0, .int .u8 0, .int .u8 0, .int .u8 0, .int .u8 0, .int .u8 0, .int .u8 0, .int .u8 0, .int .u8 0, .int .u8 0, .int .u8 0]
  rf : Blk wr (w.heap.size + 1) 56 #[.int .i64 0, .int .i64 0, .slice none 0 0]
  goes : Goes rs m a c
  marks : Marks sn (rs.take m)
  c0 : 0 ≤ c
  c2 : c ≤ 2
theorem asz : (Tryz.prog.info? 31).map (·.size) = some 27 := by kernel_rfl
theorem one_attV (a : Att) {vp vc vm : Value} (h1 : vp.oneCell' = true) (h2 : vc.oneCell' = true) (h3 : vm.oneCell' = true) : ∀ v ∈ attV a vp vc vm, v.oneCell' = true := by
  intro v hv
  simp only [attV, List.mem_cons] at hv
  rcases hv with rfl | rfl | rfl | rfl | rfl | rfl | rfl | rfl | hv
  · rfl
  · exact h1
  · rfl
  · rfl
  · rfl
  · rfl
  · exact h2
  · exact h3
  · exact one_pmc _ v hv

end Go.Proofs.YtdgoeibfggjbmaaGreatDoor
namespace Go.Proofs.YtdgoeibfggjbmaaGreatDoor
open Go.RowKit
set_option maxRecDepth 100000
set_option linter.unusedSimpArgs false
set_option linter.unusedVariables false

theorem wp_store_list {op : Oper} {a : Act} {w : World} {K : Act → World → Prop} {Q : Exit → Act → World → Prop} (ty : TypeId) (x y : Operand) (ho : op.op = .store ty x y)
    (b o : Nat) (cs : List Value) (hx : a.eval x = .pointer (some ⟨b, o, none⟩)) (hy : a.eval y = .agg cs.toArray) (ht : w.there b o cs.length) (hi : (Tryz.prog.info? ty).map (·.size) = some cs.length) (h1 : ∀ v ∈ cs, v.oneCell' = true)
    (h : K (a.put op.dst undef) (w.setCells b o cs)) : op.wp Tryz.prog a w K Q :=
  wp_store_mid ty x y ho b o cs.toArray hx hy (by simpa using ht) (by simpa using hi) (all_oneCell_toArray h1) (by simpa using h)
theorem OwnB.far {lo : Nat} {w w' : World} {v : Value} {l : List Int} {g : Nat} (h : OwnB lo w v l) (hg : w.grownBy w' (some g)) (hne : g < lo) : OwnB lo w' v l :=
  h.keep fun i c hi hl _ => hg.block i (Array.getElem?_eq_some_iff.1 hi).1 (fun e => by injection e with e; omega)
theorem below_row {B b o : Nat} {a w : World} (h : Below B a w) (hb : B ≤ b) (hs : B ≤ w.heap.size) (cs : List Value) : Below B a (w.setCells b o cs) :=
  below_only h (only_setCells (a := w) (g := b) (.inl rfl) cs o w (only_refl _ _)) hs (fun j e => by injection e with e; omega)
theorem row_only (w : World) (b o : Nat) (cs : List Value) : w.grownBy (w.setCells b o cs) (some b) := only_setCells (.inl rfl) cs o w (only_refl _ _)

set_option maxHeartbeats 4000000 in
theorem Read_is (w : World) (E : EnvK w) (A : Option Addr) (n cp : Nat) (rs : List Raw) (hr : RdR w w.heap.size A n rs) (hn : n ≤ 1048576) (hv : ∀ r ∈ rs, r.2.2.length ≤ 140737488351232) :
    Calls Tryz.prog 63 #[.slice A n cp] w (Readed w rs) := by
  have HR := Lib.hid hr
  have hlen := hr.len
  have HV := Lib.hid hv
  have HE := Lib.hid E
  have HRel0 : Hid (RRel w rs (((w.alloc (.cells #[Value.int .i64 0, .slice none 0 0, .bool false, .int .u32 0, .int .u32 0, .int .u32 0, .slice none 0 0, .slice none 0 0, .int .i64 0, .int .u32 0, .bool false, .int .u8 0, .int .u8 0, .int .u8 0, .int .u8 0, .int .u8 0, .int .u8 0, .int .u8 0, .int .u8 0, .int .u8 0, .int .u8 0, .int .u8 0, .int .u8 0, .int .u8 0, .int .u8 0, .int .u8 0, .int .u8 0] 31)).alloc (.cells #[.int .i64 0, .int .i64 0, .slice none 0 0] 56)).alloc (.cells Tryz.zeroCells165 165)) 0 Att.zero 0 (fun _ => false)) := Lib.hid (by
    refine ⟨?_, (((Below.refl _ _).alloc (Nat.le_refl _) _).alloc (by simp) _).alloc (by simp; omega) _, ((Blk.new w 31 _).alloc _).alloc _, ?_, by simp [Goes, readM], fun k _ => by simp, by omega, by omega⟩
    · have := isR_new ((w.alloc (.cells #[Value.int .i64 0, .slice none 0 0, .bool false, .int .u32 0, .int .u32 0, .int .u32 0, .slice none 0 0, .slice none 0 0, .int .i64 0, .int .u32 0, .bool false, .int .u8 0, .int .u8 0, .int .u8 0, .int .u8 0, .int .u8 0, .int .u8 0, .int .u8 0, .int .u8 0, .int .u8 0, .int .u8 0, .int .u8 0, .int .u8 0, .int .u8 0, .int .u8 0, .int .u8 0, .int .u8 0] 31)).alloc (.cells #[.int .i64 0, .int .i64 0, .slice none 0 0] 56))
      simpa using this
    · have := (Blk.new (w.alloc (.cells #[Value.int .i64 0, .slice none 0 0, .bool false, .int .u32 0, .int .u32 0, .int .u32 0, .slice none 0 0, .slice none 0 0, .int .i64 0, .int .u32 0, .bool false, .int .u8 0, .int .u8 0, .int .u8 0, .int .u8 0, .int .u8 0, .int .u8 0, .int .u8 0, .int .u8 0, .int .u8 0, .int .u8 0, .int .u8 0, .int .u8 0, .int .u8 0, .int .u8 0, .int .u8 0, .int .u8 0] 31)) 56 #[.int .i64 0, .int .i64 0, .slice none 0 0]).alloc (.cells Tryz.zeroCells165 165)
      simpa using this)
  clear hr hv E
  go_enter Tryz.func63, Tryz.ntmps63
  go_wp2
  go_loopw [7, 10] (fun _ i wr => ∃ m : Nat, m ≤ n ∧ i = .int .i64 m ∧ ∃ a c sn, RRel w rs wr m a c sn) (fun _ i _ => n - (intOf i).toNat)
  case atStart => exact ⟨0, Nat.zero_le _, rfl, _, _, _, HRel0.out⟩
  case round =>
    obtain ⟨m, hm, rfl, a, c, sn, hrel⟩ := hrel
    have HRel := Lib.hid hrel
    have hszr := hrel.bel.size
    clear hrel HRel0
    by_cases hlt : m < n
    · have hml : m < rs.length := by omega
      obtain ⟨b, off, A1, n1, c1, rfl, hbl, x0, x1, x2, hr1⟩ := (HR.out.below HRel.out.bel).get hml
      have hn1 : n1 ≤ 140737488351232 := by rw [← hr1.len]; exact HV.out _ (List.getElem_mem hml)
      have hal : Below wr.heap.size wr (wr.alloc (.cells #[.int .i64 rs[m].1, .int .i64 rs[m].2.1, .slice A1 n1 c1] 67)) := (Below.refl _ _).alloc (Nat.le_refl _) _
      have HI := Lib.hid (HRel.out.isr.below hal)
      have HBl := Lib.hid (HRel.out.bel.trans (hal.mono hszr))
      have H0 := Lib.hid (HRel.out.r0.below hal HRel.out.r0.lt)
      have Hf := Lib.hid (HRel.out.rf.below hal HRel.out.rf.lt)
      have hBn := Blk.new wr 67 #[.int .i64 rs[m].1, .int .i64 rs[m].2.1, .slice A1 n1 c1]
      have y0 : (wr.alloc (.cells #[.int .i64 rs[m].1, .int .i64 rs[m].2.1, .slice A1 n1 c1] 67)).cell? ⟨wr.heap.size, 0, none⟩ = some (.int .i64 rs[m].1) := hBn.cell 0
      have y1 : (wr.alloc (.cells #[.int .i64 rs[m].1, .int .i64 rs[m].2.1, .slice A1 n1 c1] 67)).cell? ⟨wr.heap.size, 0 + 1, none⟩ = some (.int .i64 rs[m].2.1) := hBn.cell 1
      have y2 : (wr.alloc (.cells #[.int .i64 rs[m].1, .int .i64 rs[m].2.1, .slice A1 n1 c1] 67)).cell? ⟨wr.heap.size, 0 + 2, none⟩ = some (.slice A1 n1 c1) := hBn.cell 2
      have HRd := Lib.hid (read_is _ (HE.out.below HBl.out) (w.heap.size + 2) a c sn rs[m].1 A1 n1 c1 rs[m].2.2 HI.out HRel.out.c0 HRel.out.c2 (((hr1.below (hal.mono hszr)).more (Nat.le_add_right _ 2))) hn1 rs[m].2.1)
      have HCs := Lib.hid (fun (w1 : World) (e : Ending) (h : Red (wr.alloc (.cells #[.int .i64 rs[m].1, .int .i64 rs[m].2.1, .slice A1 n1 c1] 67)) (w.heap.size + 2) a c sn rs[m].1 rs[m].2.1 rs[m].2.2 e w1) => (⟨h.1, h.2.1, red_cases hml HRel.out.goes HRel.out.marks HRel.out.c0 HRel.out.c2 h⟩ : e = .returned (.tuple #[]) ∧ _ ∧ _))
      have X0 := Lib.hid x0
      have X1 := Lib.hid x1
      have X2 := Lib.hid x2
      have Y0 := Lib.hid y0
      have Y1 := Lib.hid y1
      have Y2 := Lib.hid y2
      clear x0 x1 x2 y0 y1 y2 hBn hr1 hal HRel
      generalize rs[m].1 = f at *
      generalize rs[m].2.1 = k at *
      generalize rs[m].2.2 = bd at *
      go_wp2_with (first
        | (refine raw_fetch rfl _ rfl b (off + m * 3) f k A1 n1 c1 rfl X0.out X1.out X2.out ?_)
        | (refine raw_fetch rfl _ rfl wr.heap.size 0 f k A1 n1 c1 rfl Y0.out Y1.out Y2.out ?_))
      refine HRd.out.mono ?_
      rintro e w1 hred
      obtain ⟨rfl, hg1, hcs⟩ := HCs.out w1 e hred
      have hB1 : Below w.heap.size w w1 := below_only HBl.out hg1 HBl.out.size (fun j e => by injection e with e; omega)
      have h01 := H0.out.grown hg1 (fun e => by injection e; omega)
      have hf1 := Hf.out.grown hg1 (fun e => by injection e; omega)
      have HB1 := Lib.hid hB1
      have H01 := Lib.hid h01
      have Hf1 := Lib.hid hf1
      clear hred hg1 hB1 h01 hf1 HRd HCs HI HBl H0 Hf X0 X1 X2 Y0 Y1 Y2
      rcases hcs with ⟨sub, data, hrst, hread⟩ | ⟨a', c', sn', hI1, hgo, hmk, hc0, hc2⟩
      · obtain ⟨c27, Ad, nd, cd, hrf, hod⟩ := hrst
        have HRf := Lib.hid hrf
        have HOd := Lib.hid hod
        have HRead := Lib.hid hread
        clear hrf hod hread
        go_wp2
        have HRf1 : Hid (w1.drew.rangeAt (w.heap.size + 2) 28 [.int .i64 3, .int .i64 sub, .slice Ad nd cd] ∧ Blk w1.drew (w.heap.size + 1) 56 #[.int .i64 0, .int .i64 0, .slice none 0 0]) := Lib.hid ⟨HRf.out, Hf1.out⟩
        have H01d : Hid (Blk w1.drew w.heap.size 31 #[Value.int .i64 0, .slice none 0 0, .bool false, .int .u32 0, .int .u32 0, .int .u32 0, .slice none 0 0, .slice none 0 0, .int .i64 0, .int .u32 0, .bool false, .int .u8 0, .int .u8 0, .int .u8 0, .int .u8 0, .int .u8 0, .int .u8 0, .int .u8 0, .int .u8 0, .int .u8 0, .int .u8 0, .int .u8 0, .int .u8 0, .int .u8 0, .int .u8 0, .int .u8 0, .int .u8 0]) := Lib.hid H01.out
        refine wp_region_held_drew (S := fun W => W.rangeAt (w.heap.size + 2) 28 [.int .i64 3, .int .i64 sub, .slice Ad nd cd]) (by kernel_rfl) (HRf1.out.1) (fun hS => ?_)
        refine wpAnyH_take (i := 0) (oi := ⟨some 19, _, _, _, _, _⟩) (v := ?_) rfl (by kernel_rfl) (by kernel_rfl) (by kernel_rfl) (fun _ _ _ h => h) (Or.inl ⟨by rfl, ?_⟩) hS ?_
        rotate_left
        · intro wq hq
          first | (go_simp; done) | (go_simp; rfl)
        try simp only [Act.put, zP, zQ, zR]
        refine wpAnyH_take (i := 1) (oi := ⟨some 20, _, _, _, _, _⟩) (v := ?_) rfl (by kernel_rfl) (by kernel_rfl) (by kernel_rfl) (fun _ _ _ h => h) (Or.inl ⟨by rfl, ?_⟩) hS ?_
        rotate_left
        · intro wq hq
          first | (go_simp; done) | (go_simp; rfl)
        try simp only [Act.put, zP, zQ, zR]
        refine wpAnyH_take (i := 2) (oi := ⟨some 21, _, _, _, _, _⟩) rfl (by kernel_rfl) (by kernel_rfl) (by kernel_rfl) (fun _ _ _ h => h) (yieldsIf_load_mid (by rfl) 56 _ rfl _ _ rfl ([.int .i64 3, .int .i64 sub, .slice Ad nd cd]) _ (fun wq hq => hq) Tryz.underlying56 rfl (fsz)) hS ?_
        try simp only [Act.put, zP, zQ, zR]
        obtain ⟨zs, hzs⟩ : ∃ zs, zs = attV Att.zero (.slice none 0 0) (.slice none 0 0) (.slice none 0 0) := ⟨_, rfl⟩
        obtain ⟨ds, hds⟩ : ∃ ds : List Value, ds = [.int .i64 3, .int .i64 sub, .slice Ad nd cd] := ⟨_, rfl⟩
        have hzl : zs.length = 27 := by rw [hzs]; rfl
        have hdl : ds.length = 3 := by rw [hds]; rfl
        have hT0 : w1.drew.there w.heap.size 0 zs.length := by rw [hzl]; exact H01d.out.there 0 27 (by decide)
        have hS1 := hS
        refine wpAnyH_ready (rs := [3]) (by kernel_rfl) (by simp) ?_
        refine AllReadyH.cons (o := ⟨none, _, _, _, _, _⟩) rfl (fun K hK => ?_) AllReadyH.nil
        rw [if_pos (by rfl)]
        refine wp_store_list 31 _ _ rfl w.heap.size 0 zs rfl (by rw [hzs]; rfl) hT0 (by rw [asz, hzl]) (by rw [hzs]; exact one_attV _ rfl rfl rfl) ?_
        have hf2 : Blk (w1.drew.setCells w.heap.size 0 zs) (w.heap.size + 1) 56 #[.int .i64 0, .int .i64 0, .slice none 0 0] := HRf1.out.2.grown (row_only _ _ _ _) (fun e => by injection e; omega)
        refine hK.out _ _ (World.rangeAt_setCells_apart hS1 _ _ _ (.inl (by omega))) (fun hS => ?_)
        clear hK K
        try simp only [Act.put, zP, zQ, zR]
        have hTf : (w1.drew.setCells w.heap.size 0 zs).there (w.heap.size + 1) 0 ds.length := by rw [hdl]; exact hf2.there 0 3 (by decide)
        have hra := World.rangeAt_setCells_apart (World.rangeAt_setCells_same w1.drew w.heap.size 0 zs hT0) (w.heap.size + 1) 0 ds (.inl (by omega))
        have hrf := World.rangeAt_setCells_same (w1.drew.setCells w.heap.size 0 zs) (w.heap.size + 1) 0 ds hTf
        have hBd : Below w.heap.size w w1.drew := below_drewN HB1.out 1
        have hB2 := below_row (o := 0) hBd (Nat.le_refl _) hBd.size zs
        have hB3 := below_row (o := 0) hB2 (Nat.le_add_right _ 1) hB2.size ds
        have hO2 : OwnB (w.heap.size + 2 + 1) (w1.drew.setCells w.heap.size 0 zs) (.slice Ad nd cd) data := (HOd.out.below (below_drewN (Below.refl _ _) 1)).far (row_only _ _ _ _) (by omega)
        have hO3 : OwnB (w.heap.size + 2 + 1) ((w1.drew.setCells w.heap.size 0 zs).setCells (w.heap.size + 1) 0 ds) (.slice Ad nd cd) data := hO2.far (row_only _ _ _ _) (by omega)
        have HEnd : Hid (Readed w rs (.returned (.tuple #[.agg zs.toArray, .int .i64 3, .agg ds.toArray])) ((w1.drew.setCells w.heap.size 0 zs).setCells (w.heap.size + 1) 0 ds)) := Lib.hid ⟨zs, Ad, nd, cd, by rw [HRead.out, hds], by rw [HRead.out, hzs]; exact IsAt.zero _ _, by rw [HRead.out]; exact hO3.low (by omega), hB3⟩
        have HRa := Lib.hid hra
        have HRf3 := Lib.hid hrf
        have HZl := Lib.hid hzl
        have HDl := Lib.hid hdl
        have HTf := Lib.hid hTf
        have HDy : Hid (Value.agg #[.int .i64 3, .int .i64 sub, .slice Ad nd cd] = .agg ds.toArray) := Lib.hid (by rw [hds])
        have HD1 : Hid (∀ v ∈ ds, v.oneCell' = true) := Lib.hid (by rw [hds]; intro v hv; simp only [List.mem_cons, List.mem_nil_iff, or_false] at hv; rcases hv with rfl | rfl | rfl <;> rfl)
        clear hra hrf hBd hB2 hB3 hO2 hO3 hzs hds hzl hdl hT0 hf2 hS1 hTf
        refine wpAnyH_take (i := 4) (oi := ⟨some 3, _, _, _, _, _⟩) (v := ?_) rfl (by kernel_rfl) (by kernel_rfl) (by kernel_rfl) (fun _ _ _ h => h) (Or.inl ⟨by rfl, ?_⟩) hS ?_
        rotate_left
        · intro wq hq
          first | (go_simp; done) | (go_simp; rfl)
        try simp only [Act.put, zP, zQ, zR]
        refine wpAnyH_ready (rs := [5]) (by kernel_rfl) (by simp) ?_
        refine AllReadyH.cons (o := ⟨none, _, _, _, _, _⟩) rfl (fun K hK => ?_) AllReadyH.nil
        rw [if_pos (by rfl)]
        refine wp_store_list 56 _ _ rfl (w.heap.size + 1) 0 ds rfl HDy.out HTf.out (by rw [fsz, HDl.out]) HD1.out ?_
        have hS2 := hS
        refine hK.out _ _ (World.rangeAt_setCells_apart hS2 _ _ _ (.inl (by omega))) (fun hS => ?_)
        clear hK K
        try simp only [Act.put, zP, zQ, zR]
        refine wpAnyH_done (by kernel_rfl) ?_ _
        clear hS hS2
        go_wp2
        try simp only [Exit.inBlock, Exit.then]
        exact bodyPost_ret (results_csc rfl _ _ w.heap.size (w.heap.size + 1) zs ds _ _ (.int .i64 3) rfl rfl rfl HRa.out HRf3.out Tryz.underlying31 rfl (by rw [asz, HZl.out]) Tryz.underlying56 rfl (by rw [fsz, HDl.out])) rfl HEnd.out
      · have HNx : Hid (RRel w rs w1 (m + 1) a' c' sn') := Lib.hid ⟨hI1, HB1.out, H01.out, Hf1.out, hgo, hmk, hc0, hc2⟩
        have c27 := hI1.cls
        have e3 : (c' == 3) = false := by rw [beq_eq_false_iff_ne]; omega
        clear hI1 hgo hmk HB1 H01 Hf1
        go_wp2
        exact ⟨⟨m + 1, by omega, by go_num, _, _, _, HNx.out⟩, by simp [intOf]; omega⟩
    · obtain rfl : n = m := by omega
      have HEq := Lib.hid (goes_end HRel.out.goes hlen.symm)
      obtain ⟨vp, vc, vm, hra, hop, hoc, hom⟩ := HRel.out.isr.ex
      obtain ⟨Ap, cpp, hvp, _, _⟩ := hop.rd
      obtain ⟨Ac, ccp, hvc, _, _⟩ := hoc.rd
      obtain ⟨Am, cmp, hvm, _, _⟩ := hom.rd
      have h1p : vp.oneCell' = true := by rw [hvp]; rfl
      have h1c : vc.oneCell' = true := by rw [hvc]; rfl
      have h1m : vm.oneCell' = true := by rw [hvm]; rfl
      have HOne := Lib.hid (one_attV a h1p h1c h1m)
      have HRa := Lib.hid hra
      have HOp := Lib.hid hop
      have HOc := Lib.hid hoc
      have HOm := Lib.hid hom
      have hlenA := attV_len a vp vc vm HRel.out.isr.ip
      have HSz : Hid ((Tryz.prog.info? 31).map (·.size) = some (attV a vp vc vm).length) := Lib.hid (by rw [asz, hlenA])
      have HLA := Lib.hid hlenA
      have HSd : Hid (wr.drew.rangeAt (w.heap.size + 2) 0 (attV a vp vc vm) ∧ wr.drew.cell? ⟨w.heap.size + 2, 27, none⟩ = some (.int .i64 c)) := Lib.hid ⟨hra, HRel.out.isr.cls⟩
      have HfD : Hid (Blk wr.drew (w.heap.size + 1) 56 #[.int .i64 0, .int .i64 0, .slice none 0 0]) := Lib.hid HRel.out.rf
      have H0D : Hid (Blk wr.drew w.heap.size 31 #[Value.int .i64 0, .slice none 0 0, .bool false, .int .u32 0, .int .u32 0, .int .u32 0, .slice none 0 0, .slice none 0 0, .int .i64 0, .int .u32 0, .bool false, .int .u8 0, .int .u8 0, .int .u8 0, .int .u8 0, .int .u8 0, .int .u8 0, .int .u8 0, .int .u8 0, .int .u8 0, .int .u8 0, .int .u8 0, .int .u8 0, .int .u8 0, .int .u8 0, .int .u8 0, .int .u8 0]) := Lib.hid HRel.out.r0
      clear hvp hvc hvm h1p h1c h1m hra hop hoc hom hlenA
      go_wp2
      refine wp_region_held_drew (S := fun W => W.rangeAt (w.heap.size + 2) 0 (attV a vp vc vm) ∧ W.cell? ⟨w.heap.size + 2, 27, none⟩ = some (.int .i64 c)) (by kernel_rfl) (HSd.out) (fun hS => ?_)
      refine wpAnyH_take (i := 0) (oi := ⟨some 23, _, _, _, _, _⟩) (v := ?_) rfl (by kernel_rfl) (by kernel_rfl) (by kernel_rfl) (fun _ _ _ h => h) (Or.inl ⟨by rfl, ?_⟩) hS ?_
      rotate_left
      · intro wq hq
        first | (go_simp; done) | (go_simp; rfl)
      try simp only [Act.put, zP, zQ, zR]
      refine wpAnyH_take (i := 1) (oi := ⟨some 24, _, _, _, _, _⟩) rfl (by kernel_rfl) (by kernel_rfl) (by kernel_rfl) (fun _ _ _ h => h) (yieldsIf_load_mid (by rfl) 31 _ rfl _ _ rfl (attV a vp vc vm) _ (fun wq hq => hq.1) Tryz.underlying31 rfl (HSz.out)) hS ?_
      try simp only [Act.put, zP, zQ, zR]
      refine wpAnyH_take (i := 2) (oi := ⟨some 25, _, _, _, _, _⟩) (v := ?_) rfl (by kernel_rfl) (by kernel_rfl) (by kernel_rfl) (fun _ _ _ h => h) (Or.inl ⟨by rfl, ?_⟩) hS ?_
      rotate_left
      · intro wq hq
        first | (go_simp; done) | (go_simp; rfl)
      try simp only [Act.put, zP, zQ, zR]
      refine wpAnyH_take (i := 3) (oi := ⟨some 26, _, _, _, _, _⟩) (v := ?_) rfl (by kernel_rfl) (by kernel_rfl) (by kernel_rfl) (fun _ _ _ h => h) (Or.inl ⟨by rfl, ?_⟩) hS ?_
      rotate_left
      · intro wq hq
        have d1 : wq.cell? ⟨w.heap.size + 2, 27, none⟩ = some (.int .i64 c) := hq.2
        first | (go_simp; done) | (go_simp; rfl)
      try simp only [Act.put, zP, zQ, zR]
      refine wpAnyH_take (i := 4) (oi := ⟨some 27, _, _, _, _, _⟩) (v := ?_) rfl (by kernel_rfl) (by kernel_rfl) (by kernel_rfl) (fun _ _ _ h => h) (Or.inl ⟨by rfl, ?_⟩) hS ?_
      rotate_left
      · intro wq hq
        first | (go_simp; done) | (go_simp; rfl)
      try simp only [Act.put, zP, zQ, zR]
      obtain ⟨zs, hzs⟩ : ∃ zs, zs = attV a vp vc vm := ⟨_, rfl⟩
      obtain ⟨ds, hds⟩ : ∃ ds : List Value, ds = [.int .i64 0, .int .i64 0, .slice none 0 0] := ⟨_, rfl⟩
      have hzl : zs.length = 27 := by rw [hzs]; exact HLA.out
      have hdl : ds.length = 3 := by rw [hds]; rfl
      have hT0 : wr.drew.there w.heap.size 0 zs.length := by rw [hzl]; exact H0D.out.there 0 27 (by decide)
      have hS1 := hS
      refine wpAnyH_ready (rs := [5]) (by kernel_rfl) (by simp) ?_
      refine AllReadyH.cons (o := ⟨none, _, _, _, _, _⟩) rfl (fun K hK => ?_) AllReadyH.nil
      rw [if_pos (by rfl)]
      refine wp_store_list 31 _ _ rfl w.heap.size 0 zs rfl (by rw [hzs]; rfl) hT0 (by rw [asz, hzl]) (by rw [hzs]; exact HOne.out) ?_
      have hf2 : Blk (wr.drew.setCells w.heap.size 0 zs) (w.heap.size + 1) 56 #[.int .i64 0, .int .i64 0, .slice none 0 0] := HfD.out.grown (row_only _ _ _ _) (fun e => by injection e; omega)
      have hcell2 : (wr.drew.setCells w.heap.size 0 zs).cell? ⟨w.heap.size + 2, 27, none⟩ = some (.int .i64 c) := (World.cell?_setCells_out w.heap.size zs 0 wr.drew ⟨w.heap.size + 2, 27, none⟩ (fun e => by simp at e)).trans hS1.2
      refine hK.out _ _ ⟨World.rangeAt_setCells_apart hS1.1 _ _ _ (.inl (by omega)), hcell2⟩ (fun hS => ?_)
      clear hK K
      try simp only [Act.put, zP, zQ, zR]
      have hTf : (wr.drew.setCells w.heap.size 0 zs).there (w.heap.size + 1) 0 ds.length := by rw [hdl]; exact hf2.there 0 3 (by decide)
      have hra := World.rangeAt_setCells_apart (World.rangeAt_setCells_same wr.drew w.heap.size 0 zs hT0) (w.heap.size + 1) 0 ds (.inl (by omega))
      have hrf := World.rangeAt_setCells_same (wr.drew.setCells w.heap.size 0 zs) (w.heap.size + 1) 0 ds hTf
      have hBd : Below w.heap.size w wr.drew := below_drewN HRel.out.bel 1
      have hB2 := below_row (o := 0) hBd (Nat.le_refl _) hBd.size zs
      have hB3 := below_row (o := 0) hB2 (Nat.le_add_right _ 1) hB2.size ds
      have hd : Below wr.heap.size wr wr.drew := below_drewN (Below.refl _ _) 1
      have hOp3 := (((HOp.out.below hd).grown (row_only wr.drew w.heap.size 0 zs) (by omega)).grown (row_only _ (w.heap.size + 1) 0 ds) (by omega)).low (show w.heap.size ≤ w.heap.size + 2 + 1 by omega)
      have hOc3 := (((HOc.out.below hd).grown (row_only wr.drew w.heap.size 0 zs) (by omega)).grown (row_only _ (w.heap.size + 1) 0 ds) (by omega)).low (show w.heap.size ≤ w.heap.size + 2 + 1 by omega)
      have hOm3 := (((HOm.out.below hd).grown (row_only wr.drew w.heap.size 0 zs) (by omega)).grown (row_only _ (w.heap.size + 1) 0 ds) (by omega)).low (show w.heap.size ≤ w.heap.size + 2 + 1 by omega)
      have HEnd : Hid (Readed w rs (.returned (.tuple #[.agg zs.toArray, .int .i64 c, .agg ds.toArray])) ((wr.drew.setCells w.heap.size 0 zs).setCells (w.heap.size + 1) 0 ds)) := Lib.hid ⟨zs, none, 0, 0, by rw [HEq.out, hds], by rw [HEq.out]; exact ⟨⟨vp, vc, vm, hzs, hOp3, hOc3, hOm3⟩, HRel.out.isr.ip⟩, by rw [HEq.out]; exact OwnB.nil_ _ _, hB3⟩
      have HRa3 := Lib.hid hra
      have HRf3 := Lib.hid hrf
      have HZl := Lib.hid hzl
      have HDl := Lib.hid hdl
      have HTf := Lib.hid hTf
      have HDy : Hid (Value.agg #[.int .i64 0, .int .i64 0, .slice none 0 0] = .agg ds.toArray) := Lib.hid (by rw [hds])
      have HD1 : Hid (∀ v ∈ ds, v.oneCell' = true) := Lib.hid (by rw [hds]; intro v hv; simp only [List.mem_cons, List.mem_nil_iff, or_false] at hv; rcases hv with rfl | rfl | rfl <;> rfl)
      clear hra hrf hBd hB2 hB3 hOp3 hOc3 hOm3 hzs hds hzl hdl hT0 hf2 hS1 hTf hd hcell2
      refine wpAnyH_take (i := 6) (oi := ⟨some 3, _, _, _, _, _⟩) (v := ?_) rfl (by kernel_rfl) (by kernel_rfl) (by kernel_rfl) (fun _ _ _ h => h) (Or.inl ⟨by rfl, ?_⟩) hS ?_
      rotate_left
      · intro wq hq
        first | (go_simp; done) | (go_simp; rfl)
      try simp only [Act.put, zP, zQ, zR]
      refine wpAnyH_ready (rs := [7]) (by kernel_rfl) (by simp) ?_
      refine AllReadyH.cons (o := ⟨none, _, _, _, _, _⟩) rfl (fun K hK => ?_) AllReadyH.nil
      rw [if_pos (by rfl)]
      refine wp_store_list 56 _ _ rfl (w.heap.size + 1) 0 ds rfl HDy.out HTf.out (by rw [fsz, HDl.out]) HD1.out ?_
      have hS2 := hS
      have hcell3 : ((wr.drew.setCells w.heap.size 0 zs).setCells (w.heap.size + 1) 0 ds).cell? ⟨w.heap.size + 2, 27, none⟩ = some (.int .i64 c) := (World.cell?_setCells_out (w.heap.size + 1) ds 0 _ ⟨w.heap.size + 2, 27, none⟩ (fun e => by simp at e)).trans hS2.2
      refine hK.out _ _ ⟨World.rangeAt_setCells_apart hS2.1 _ _ _ (.inl (by omega)), hcell3⟩ (fun hS => ?_)
      clear hK K
      try simp only [Act.put, zP, zQ, zR]
      refine wpAnyH_done (by kernel_rfl) ?_ _
      clear hS hS2 hcell3
      go_wp2
      try simp only [Exit.inBlock, Exit.then]
      exact bodyPost_ret (results_csc rfl _ _ w.heap.size (w.heap.size + 1) zs ds _ _ (.int .i64 c) rfl rfl rfl HRa3.out HRf3.out Tryz.underlying31 rfl (by rw [asz, HZl.out]) Tryz.underlying56 rfl (by rw [fsz, HDl.out])) rfl HEnd.out
end Go.Proofs.YtdgoeibfggjbmaaGreatDoor
namespace Go.Proofs.YtdgoeibfggjbmaaGreatDoor
open Go.RowKit
set_option maxRecDepth 100000
set_option linter.unusedSimpArgs false
set_option linter.unusedVariables false

structure OwnV (B lo : Nat) (w : World) (v : Value) (rs : List Raw) : Prop where
  ex : ∃ cs, w.ownsRow lo 67 3 v rs.length cs ∧ Rs (Rd w B) cs rs ∧ ∀ u ∈ cs, u.oneCell' = true
  le : B ≤ lo
theorem RdR.cells {w : World} {B : Nat} {A : Option Addr} {n : Nat} {rs : List Raw} (h : RdR w B A n rs) (hn : 0 < n) : ∃ b off cs, A = some ⟨b, off, none⟩ ∧ b < B ∧ Rs (Rd w B) cs rs ∧ (∀ j y, cs[j]? = some y → w.cell? ⟨b, off + j, none⟩ = some y) ∧ ∀ u ∈ cs, u.oneCell' = true := by
  obtain ⟨b, off, rfl, hb, hc⟩ := h.at_ hn
  have key : ∀ m, m ≤ rs.length → ∃ cs, Rs (Rd w B) cs (rs.take m) ∧ (∀ j y, cs[j]? = some y → w.cell? ⟨b, off + j, none⟩ = some y) ∧ ∀ u ∈ cs, u.oneCell' = true := by
    intro m
    induction m with
    | zero => exact fun _ => ⟨[], by simpa using Rs.nil_, fun j y hy => by simp at hy, fun u hu => by cases hu⟩
    | succ m ih =>
      intro hm
      obtain ⟨cs, h1, h2, h3⟩ := ih (by omega)
      obtain ⟨A1, n1, c1, k0, k1, k2, k3⟩ := hc m (by omega)
      have hl : cs.length = m * 3 := by rw [h1.len, List.length_take]; congr 1; omega
      refine ⟨cs ++ [.int .i64 rs[m].1, .int .i64 rs[m].2.1, .slice A1 n1 c1], ?_, fun j y hy => ?_, fun u hu => ?_⟩
      · rw [List.take_succ_eq_append_getElem (by omega)]
        exact h1.app (Rs.one (f := rs[m].1) (k := rs[m].2.1) (b := rs[m].2.2) k3)
      · rcases Nat.lt_or_ge j cs.length with hj | hj
        · rw [List.getElem?_append_left hj] at hy
          exact h2 j y hy
        · rw [List.getElem?_append_right hj] at hy
          obtain ⟨q, rfl⟩ : ∃ q, j = m * 3 + q := ⟨j - m * 3, by omega⟩
          rw [hl, Nat.add_sub_cancel_left] at hy
          match q, hy with
          | 0, hy => injection hy with hy; subst hy; simpa using k0
          | 1, hy => injection hy with hy; subst hy; rw [← Nat.add_assoc]; exact k1
          | 2, hy => injection hy with hy; subst hy; rw [← Nat.add_assoc]; exact k2
          | q + 3, hy => simp at hy
      · rcases List.mem_append.1 hu with hu | hu
        · exact h3 u hu
        · simp only [List.mem_cons, List.mem_nil_iff, or_false] at hu
          rcases hu with rfl | rfl | rfl <;> rfl
  obtain ⟨cs, h1, h2, h3⟩ := key rs.length (Nat.le_refl _)
  rw [List.take_length] at h1
  exact ⟨b, off, cs, rfl, hb, h1, h2, h3⟩
theorem OwnV.nil_ (B lo : Nat) (w : World) (h : B ≤ lo) (g cap : Nat) (hg : lo ≤ g) (hb : w.heap[g]? = some (.cells #[] 67 (0, 0))) : OwnV B lo w (.slice (some ⟨g, 0, none⟩) 0 0) [] :=
  ⟨⟨[], ⟨rfl, .inr ⟨g, 0, #[], rfl, hg, hb, Nat.le_refl _, Nat.zero_le _, rfl, rfl⟩⟩, Rs.nil_, fun u hu => by cases hu⟩, h⟩
theorem OwnV.below {B lo : Nat} {w w' : World} {v : Value} {rs : List Raw} (h : OwnV B lo w v rs) (hb : Below w.heap.size w w') (hl : lo ≤ w.heap.size) : OwnV B lo w' v rs := by
  obtain ⟨cs, h1, h2, h3⟩ := h.ex
  exact ⟨⟨cs, own_keep h1 fun i c hi _ _ => hb.block i (Array.getElem?_eq_some_iff.1 hi).1, h2.imp fun A n l hr => hr.below (hb.mono (Nat.le_trans h.le hl)), h3⟩, h.le⟩
theorem OwnV.rd {B lo : Nat} {w : World} {v : Value} {rs : List Raw} (h : OwnV B lo w v rs) (hl : lo ≤ w.heap.size) : ∃ A c, v = .slice A rs.length c ∧ RdR w w.heap.size A rs.length rs := by
  obtain ⟨cs, h1, h2, _⟩ := h.ex
  rcases h1.2 with ⟨rfl, hn⟩ | ⟨g, cap, cur, rfl, hb, hg, hnc, hcm, hcs, hx⟩
  · exact ⟨none, 0, by rw [hn], ⟨rfl, fun hp => by omega⟩⟩
  · refine ⟨_, cap, rfl, ⟨rfl, fun _ => ⟨g, 0, rfl, (Array.getElem?_eq_some_iff.1 hg).1, fun i hi => ?_⟩⟩⟩
    have hcell : ∀ j u, cs[j]? = some u → w.cell? ⟨g, j, none⟩ = some u := by
      intro j u hu
      rw [← hx, List.getElem?_take] at hu
      split at hu
      · simp only [World.cell?, hg]
        rw [← Array.getElem?_toList]
        exact hu
      · cases hu
    obtain ⟨k0, k1, A1, n1, c1, k2, k3⟩ := h2.at_ i hi
    refine ⟨A1, n1, c1, ?_, ?_, ?_, k3.more (Nat.le_trans h.le hl)⟩
    · rw [Nat.zero_add]; exact hcell _ _ k0
    · rw [Nat.zero_add]; exact hcell _ _ k1
    · rw [Nat.zero_add]; exact hcell _ _ k2
theorem rdF_props : ∀ (l done : List Raw) (a : Att) (c : Int), 0 ≤ c → c ≤ 2 →
    c ≤ (rdF done a c l).2.1 ∧ (rdF done a c l).2.1 ≤ 3 ∧ ((rdF done a c l).2.1 ≠ 3 → (rdF done a c l).2.1 ≤ 2 ∧ (rdF done a c l).2.2 = (0, 0, [])) ∧
      ∀ more, rdF done a c (l ++ more) = if (rdF done a c l).2.1 = 3 then rdF done a c l else rdF (done ++ l) (rdF done a c l).1 (rdF done a c l).2.1 more
  | [], done, a, c, h0, h2 => ⟨Int.le_refl _, by simp [rdF]; omega, fun _ => ⟨h2, rfl⟩, fun more => by
      rw [List.nil_append, List.append_nil, if_neg (by simp [rdF]; omega)]
      rfl⟩
  | r :: l, done, a, c, h0, h2 => by
    have hj := judge_bd r.1 r.2.1 r.2.2
    by_cases hs : (bnd r.2.1).isSome = true ∧ r.2.1 ∈ done.map (·.2.1)
    · by_cases h14 : r.2.1 = 14 ∨ r.2.1 = 15
      · have e : ∀ m, rdF done a c (r :: m) = (Att.zero, 3, 3, 1, []) := fun m => by rw [rdF, if_pos hs, if_pos h14]
        simp only [List.cons_append, e]
        exact ⟨by omega, by omega, fun h => absurd rfl h, fun more => by rw [if_pos trivial]⟩
      · have e : ∀ m, rdF done a c (r :: m) = rdF (done ++ [r]) a (max c 1) m := fun m => by rw [rdF, if_pos hs, if_neg h14]
        have ih := rdF_props l (done ++ [r]) a (max c 1) (by omega) (by omega)
        simp only [List.cons_append, e]
        refine ⟨by omega, ih.2.1, ih.2.2.1, fun more => ?_⟩
        rw [ih.2.2.2 more, List.append_assoc]
        rfl
    · by_cases hj3 : judge r.1 r.2.1 r.2.2 = 3
      · have e : ∀ m, rdF done a c (r :: m) = (Att.zero, 3, 3, (if (bnd r.2.1).isSome then 4 else 2), fdata r) := fun m => by rw [rdF, if_neg hs, if_pos hj3]
        simp only [List.cons_append, e]
        exact ⟨by omega, by omega, fun h => absurd rfl h, fun more => by rw [if_pos trivial]⟩
      · have e : ∀ m, rdF done a c (r :: m) = rdF (done ++ [r]) (if (bnd r.2.1).isSome = true ∧ judge r.1 r.2.1 r.2.2 = 0 then keepA a r.2.1 r.2.2 else a) (max c (judge r.1 r.2.1 r.2.2)) m := fun m => by rw [rdF, if_neg hs, if_neg hj3]
        have ih := rdF_props l (done ++ [r]) (if (bnd r.2.1).isSome = true ∧ judge r.1 r.2.1 r.2.2 = 0 then keepA a r.2.1 r.2.2 else a) (max c (judge r.1 r.2.1 r.2.2)) (by omega) (by omega)
        simp only [List.cons_append, e]
        refine ⟨by omega, ih.2.1, ih.2.2.1, fun more => ?_⟩
        rw [ih.2.2.2 more, List.append_assoc]
        rfl
theorem worse (l more : List Raw) : (readM l).2.1 ≤ (readM (l ++ more)).2.1 ∧ 0 ≤ (readM l).2.1 ∧ (readM l).2.1 ≤ 3 ∧ ((readM l).2.1 = 3 → readM (l ++ more) = readM l) ∧ ((readM l).2.1 ≠ 3 → (readM l).2.2 = (0, 0, [])) := by
  unfold readM
  obtain ⟨h1, h2, h3, h4⟩ := rdF_props l [] Att.zero 0 (by omega) (by omega)
  have h5 := h4 more
  refine ⟨?_, h1, h2, fun h => by rw [h5, if_pos h], fun h => (h3 h).2⟩
  rw [h5]
  split
  · exact Int.le_refl _
  · rename_i hn
    exact (rdF_props more ([] ++ l) _ _ h1 (h3 hn).1).1
end Go.Proofs.YtdgoeibfggjbmaaGreatDoor
