/-
  Layer 8: parameters (genHeC.py).
-/
import Derived.Test.YtgfjjkckamppoaaDoorHeB
namespace Go.Proofs.YtgfjjkckamppoaaDoor
open Go.RowKit
set_option maxRecDepth 100000
set_option linter.unusedSimpArgs false
set_option linter.unusedVariables false

/-- The capabilities' bytes. -/
def capsB (h : Hl) : List Int := (if h.ev then 1 :: 4 :: fam else []) ++ ((if h.rf then [2, 0] else []) ++ (if h.wd then 65 :: 4 :: be 4 h.as_ else []))
/-- The parameters' bytes. -/
def parB (h : Hl) : List Int := if capsB h = [] then [] else 2 :: ((capsB h).length : Int) :: capsB h
theorem capsB_le (h : Hl) : (capsB h).length ≤ 14 := by unfold capsB; simp only [List.length_append]; split <;> split <;> split <;> simp [be_len]
theorem parB_le (h : Hl) : (parB h).length ≤ 16 := by
  have := capsB_le h
  unfold parB
  split
  · simp
  · simp; omega
theorem be1 (n : Int) : be 1 n = [n % 256] := by simp [be]
theorem be4 (n : Int) : be 4 n = [n / 16777216 % 256, n / 65536 % 256, n / 256 % 256, n % 256] := by simp [be]
theorem OwnB.rd_of {lo : Nat} {w : World} {A : Option Addr} {n c : Nat} {l : List Int} (h : OwnB lo w (.slice A n c) l) : Rd w w.heap.size A n l := by
  obtain ⟨A', c', e, _, hr, _⟩ := h.at_
  injection e with e1 e2 e3
  subst e1 e2 e3
  exact hr
/-- The memory of parameters: the hello's box, and the bytes of its own. -/
structure CapS (w W : World) (h : Hl) (v : Value) (l : List Int) : Prop where
  low : Below w.heap.size w W
  box : HlAt W w.heap.size h
  env : EnvF W
  own : OwnB (w.heap.size + 1) W v l
  lo : w.heap.size + 1 ≤ W.heap.size
section
variable {w W W' : World} {h : Hl} {v v' : Value} {l l' : List Int}
theorem CapS.below (k : CapS w W h v l) (hB : Below W.heap.size W W') : CapS w W' h v l := ⟨k.low.trans (hB.mono k.low.size), k.box.below hB k.lo, k.env.below hB, k.own.below hB, Nat.le_trans k.lo hB.size⟩
theorem CapS.app (k : CapS w W h v l) (ho : OwnB (w.heap.size + 1) W' v' l') (hB : Below (w.heap.size + 1) W W') (hpos : 0 < w.heap.size) : CapS w W' h v' l' := ⟨k.low.trans (hB.mono (Nat.le_succ _)), k.box.below hB (Nat.lt_succ_self _), k.env.low hB (by omega), ho, Nat.le_trans k.lo hB.size⟩
end
def ParPost (w : World) (h : Hl) (e : Ending) (w' : World) : Prop := ∃ A c, e = .returned (.slice A (parB h).length c) ∧ Rd w' w'.heap.size A (parB h).length (parB h) ∧ Below w.heap.size w w'

set_option maxHeartbeats 2000000 in
theorem par_111 (w : World) (E : EnvF w) (a o i : Int) (ha : 0 ≤ a ∧ a < 4294967296) : Calls Tryd.prog 34 #[.agg (hlc ⟨a, o, i, true, true, true⟩).toArray] w (ParPost w ⟨a, o, i, true, true, true⟩) := by
  have hpos := E.lt
  have HS0 : Hid (CapS w (w.alloc (.cells (hlc ⟨a, o, i, true, true, true⟩).toArray 24)) ⟨a, o, i, true, true, true⟩ (.slice none 0 0) []) := Lib.hid ⟨below_one8 _ _, Blk.new w 24 _, E.below (below_one8 _ _), OwnB.nil_ _ _, by simp⟩
  generalize hh : (⟨a, o, i, true, true, true⟩ : Hl) = h at *
  have HH := Lib.hid hh
  have HC : Hid (∀ W v l, CapS w W h v l → W.cell? ⟨w.heap.size, 0, none⟩ = some (.int .u32 a) ∧ W.cell? ⟨w.heap.size, 3, none⟩ = some (.bool true) ∧ W.cell? ⟨w.heap.size, 4, none⟩ = some (.bool true) ∧ W.cell? ⟨w.heap.size, 5, none⟩ = some (.bool true)) := Lib.hid (by
    intro W v l k
    rw [← hh] at k
    exact ⟨k.box.cell 0, k.box.cell 3, k.box.cell 4, k.box.cell 5⟩)
  obtain ⟨d0, d3, d4, d5⟩ := HC.out _ _ _ HS0.out
  clear E hh
  go_enter Tryd.func34, Tryd.ntmps34
  go_wp2_with fail
  refine (family_is _ HS0.out.env).mono ?_
  generalize (w.alloc (.cells (hlc h).toArray 24)) = W0 at *
  rintro e W1 ⟨rfl, hby, hB1⟩
  have HR1 : Hid (Rd W1 W1.heap.size (some ⟨W0.heap.size, 0, none⟩) 4 fam) := Lib.hid (hby.rd_all fam_oct hby.lt)
  have HS1 := Lib.hid (HS0.out.below hB1)
  clear hby hB1 HS0 d0 d3 d4 d5
  go_wp2_with fail
  refine (part_is _ 1 (by omega) _ 4 4 fam HR1.out (by omega)).mono ?_
  rintro e W2 ⟨v, rfl, hO, hB2⟩
  obtain ⟨Ap, cp, rfl, _, hrp, _⟩ := hO.at_
  have HS2 := Lib.hid (HS1.out.below hB2)
  have HRp := Lib.hid hrp
  clear hO hB2 HS1 hrp HR1
  go_wp2_with (at_builtin; refine app_bs rfl _ _ rfl HS2.out.own HS2.out.lo HRp.out (by simp) rfl rfl ?_)
  intro v W3 ho hb _ _
  have hs := HS2.out.app ho hb hpos
  obtain ⟨A3, c3, rfl, _, _, _⟩ := ho.at_
  have HS3 : Hid (CapS w W3 h (.slice A3 6 c3) [1, 4, 0, 25, 0, 70]) := Lib.hid hs
  clear hs ho hb HS2 HRp
  obtain ⟨d0, d3, d4, d5⟩ := HC.out _ _ _ HS3.out
  simp only [List.nil_append, List.length_cons, List.length_nil, Nat.zero_add, Nat.reduceAdd, Int.cast_ofNat_Int]
  go_wp2_with fail
  refine (part_is _ 2 (by omega) none 0 0 [] (Rd.nil_ none) (by omega)).mono ?_
  rintro e W4 ⟨v, rfl, hO, hB2⟩
  obtain ⟨Ap, cp, rfl, _, hrp, _⟩ := hO.at_
  have HS4 := Lib.hid (HS3.out.below hB2)
  have HRp := Lib.hid hrp
  clear hO hB2 HS3 hrp d0 d3 d4 d5
  go_wp2_with (at_builtin; refine app_bs rfl _ _ rfl HS4.out.own HS4.out.lo HRp.out (by simp) rfl rfl ?_)
  intro v W5 ho hb _ _
  have hs := HS4.out.app ho hb hpos
  obtain ⟨A5, c5, rfl, _, _, _⟩ := ho.at_
  have HS5 : Hid (CapS w W5 h (.slice A5 8 c5) [1, 4, 0, 25, 0, 70, 2, 0]) := Lib.hid hs
  clear hs ho hb HS4 HRp
  obtain ⟨d0, d3, d4, d5⟩ := HC.out _ _ _ HS5.out
  simp only [List.nil_append, List.cons_append, List.length_cons, List.length_nil, Nat.zero_add, Nat.reduceAdd, Int.cast_ofNat_Int]
  have hw : a % 18446744073709551616 = a := Int.emod_eq_of_lt ha.1 (by omega)
  have HN := Lib.hid (numb_is W5 a 4 ha.1 (by omega) (by omega) (by omega) (by omega))
  go_wp2_with fail
  refine HN.out.mono ?_
  rintro e W6 ⟨A6, c6, rfl, _, hr6, hB6⟩
  have HR6 := Lib.hid hr6
  have HS6 := Lib.hid (HS5.out.below hB6)
  clear hr6 hB6 HS5 d0 d3 d4 d5 HN
  rw [be_len] at HR6
  simp only [be_len]
  go_wp2_with fail
  refine (part_is _ 65 (by omega) _ 4 _ _ HR6.out (by omega)).mono ?_
  rintro e W7 ⟨v, rfl, hO, hB2⟩
  obtain ⟨Ap, cp, rfl, _, hrp, _⟩ := hO.at_
  have HS7 := Lib.hid (HS6.out.below hB2)
  have HRp := Lib.hid hrp
  clear hO hB2 HS6 hrp HR6
  go_wp2_with (at_builtin; refine app_bs rfl _ _ rfl HS7.out.own HS7.out.lo HRp.out (by simp [be_len]) rfl rfl ?_)
  intro v W8 ho hb _ _
  have hs := HS7.out.app ho hb hpos
  obtain ⟨A8, c8, rfl, _, _, _⟩ := ho.at_
  have HS8 : Hid (CapS w W8 h (.slice A8 14 c8) (1 :: 4 :: 0 :: 25 :: 0 :: 70 :: 2 :: 0 :: 65 :: 4 :: be 4 a)) := Lib.hid (by simpa [be_len] using hs)
  clear hs ho hb HS7 HRp
  have hlen8 : (1 :: 4 :: 0 :: 25 :: 0 :: 70 :: 2 :: 0 :: 65 :: 4 :: be 4 a).length = 14 := by simp [be_len]
  obtain ⟨d0, d3, d4, d5⟩ := HC.out _ _ _ HS8.out
  simp only [List.nil_append, List.cons_append, List.length_cons, List.length_nil, be_len, Nat.zero_add, Nat.reduceAdd, Int.cast_ofNat_Int]
  go_wp2_with fail
  have HRz := Lib.hid (HS8.out.own.rd_of)
  refine (part_is _ 2 (by omega) _ 14 _ _ HRz.out (by omega)).mono ?_
  rintro e W9 ⟨v, rfl, hO, hB2⟩
  obtain ⟨Ap, cp, rfl, hcp, hrp, _⟩ := hO.at_
  have HB9 := Lib.hid (HS8.out.low.trans (hB2.mono HS8.out.low.size))
  have HRp := Lib.hid hrp
  have HP : Hid (parB h = 2 :: ((14 : Nat) : Int) :: (1 :: 4 :: 0 :: 25 :: 0 :: 70 :: 2 :: 0 :: 65 :: 4 :: be 4 a)) := Lib.hid (by rw [← HH.out]; simp [parB, capsB, be_len])
  clear hO hB2 hrp HS8 HRz d0 d3 d4 d5
  go_wp2
  go_ret
  unfold ParPost
  rw [HP.out]
  exact ⟨Ap, cp, rfl, HRp.out, HB9.out⟩

set_option maxHeartbeats 2000000 in
theorem par_110 (w : World) (E : EnvF w) (a o i : Int) (ha : 0 ≤ a ∧ a < 4294967296) : Calls Tryd.prog 34 #[.agg (hlc ⟨a, o, i, true, false, true⟩).toArray] w (ParPost w ⟨a, o, i, true, false, true⟩) := by
  have hpos := E.lt
  have HS0 : Hid (CapS w (w.alloc (.cells (hlc ⟨a, o, i, true, false, true⟩).toArray 24)) ⟨a, o, i, true, false, true⟩ (.slice none 0 0) []) := Lib.hid ⟨below_one8 _ _, Blk.new w 24 _, E.below (below_one8 _ _), OwnB.nil_ _ _, by simp⟩
  generalize hh : (⟨a, o, i, true, false, true⟩ : Hl) = h at *
  have HH := Lib.hid hh
  have HC : Hid (∀ W v l, CapS w W h v l → W.cell? ⟨w.heap.size, 0, none⟩ = some (.int .u32 a) ∧ W.cell? ⟨w.heap.size, 3, none⟩ = some (.bool true) ∧ W.cell? ⟨w.heap.size, 4, none⟩ = some (.bool false) ∧ W.cell? ⟨w.heap.size, 5, none⟩ = some (.bool true)) := Lib.hid (by
    intro W v l k
    rw [← hh] at k
    exact ⟨k.box.cell 0, k.box.cell 3, k.box.cell 4, k.box.cell 5⟩)
  obtain ⟨d0, d3, d4, d5⟩ := HC.out _ _ _ HS0.out
  clear E hh
  go_enter Tryd.func34, Tryd.ntmps34
  go_wp2_with fail
  refine (family_is _ HS0.out.env).mono ?_
  generalize (w.alloc (.cells (hlc h).toArray 24)) = W0 at *
  rintro e W1 ⟨rfl, hby, hB1⟩
  have HR1 : Hid (Rd W1 W1.heap.size (some ⟨W0.heap.size, 0, none⟩) 4 fam) := Lib.hid (hby.rd_all fam_oct hby.lt)
  have HS1 := Lib.hid (HS0.out.below hB1)
  clear hby hB1 HS0 d0 d3 d4 d5
  go_wp2_with fail
  refine (part_is _ 1 (by omega) _ 4 4 fam HR1.out (by omega)).mono ?_
  rintro e W2 ⟨v, rfl, hO, hB2⟩
  obtain ⟨Ap, cp, rfl, _, hrp, _⟩ := hO.at_
  have HS2 := Lib.hid (HS1.out.below hB2)
  have HRp := Lib.hid hrp
  clear hO hB2 HS1 hrp HR1
  go_wp2_with (at_builtin; refine app_bs rfl _ _ rfl HS2.out.own HS2.out.lo HRp.out (by simp) rfl rfl ?_)
  intro v W3 ho hb _ _
  have hs := HS2.out.app ho hb hpos
  obtain ⟨A3, c3, rfl, _, _, _⟩ := ho.at_
  have HS3 : Hid (CapS w W3 h (.slice A3 6 c3) [1, 4, 0, 25, 0, 70]) := Lib.hid hs
  clear hs ho hb HS2 HRp
  obtain ⟨d0, d3, d4, d5⟩ := HC.out _ _ _ HS3.out
  simp only [List.nil_append, List.length_cons, List.length_nil, Nat.zero_add, Nat.reduceAdd, Int.cast_ofNat_Int]
  go_wp2_with fail
  refine (part_is _ 2 (by omega) none 0 0 [] (Rd.nil_ none) (by omega)).mono ?_
  rintro e W4 ⟨v, rfl, hO, hB2⟩
  obtain ⟨Ap, cp, rfl, _, hrp, _⟩ := hO.at_
  have HS4 := Lib.hid (HS3.out.below hB2)
  have HRp := Lib.hid hrp
  clear hO hB2 HS3 hrp d0 d3 d4 d5
  go_wp2_with (at_builtin; refine app_bs rfl _ _ rfl HS4.out.own HS4.out.lo HRp.out (by simp) rfl rfl ?_)
  intro v W5 ho hb _ _
  have hs := HS4.out.app ho hb hpos
  obtain ⟨A5, c5, rfl, _, _, _⟩ := ho.at_
  have HS5 : Hid (CapS w W5 h (.slice A5 8 c5) [1, 4, 0, 25, 0, 70, 2, 0]) := Lib.hid hs
  clear hs ho hb HS4 HRp
  obtain ⟨d0, d3, d4, d5⟩ := HC.out _ _ _ HS5.out
  simp only [List.nil_append, List.cons_append, List.length_cons, List.length_nil, Nat.zero_add, Nat.reduceAdd, Int.cast_ofNat_Int]
  go_wp2_with fail
  have HRz := Lib.hid (HS5.out.own.rd_of)
  refine (part_is _ 2 (by omega) _ 8 _ _ HRz.out (by omega)).mono ?_
  rintro e W9 ⟨v, rfl, hO, hB2⟩
  obtain ⟨Ap, cp, rfl, hcp, hrp, _⟩ := hO.at_
  have HB9 := Lib.hid (HS5.out.low.trans (hB2.mono HS5.out.low.size))
  have HRp := Lib.hid hrp
  have HP : Hid (parB h = 2 :: ((8 : Nat) : Int) :: [1, 4, 0, 25, 0, 70, 2, 0]) := Lib.hid (by rw [← HH.out]; simp [parB, capsB, be_len])
  clear hO hB2 hrp HS5 HRz d0 d3 d4 d5
  go_wp2
  go_ret
  unfold ParPost
  rw [HP.out]
  exact ⟨Ap, cp, rfl, HRp.out, HB9.out⟩

set_option maxHeartbeats 2000000 in
theorem par_101 (w : World) (E : EnvF w) (a o i : Int) (ha : 0 ≤ a ∧ a < 4294967296) : Calls Tryd.prog 34 #[.agg (hlc ⟨a, o, i, true, true, false⟩).toArray] w (ParPost w ⟨a, o, i, true, true, false⟩) := by
  have hpos := E.lt
  have HS0 : Hid (CapS w (w.alloc (.cells (hlc ⟨a, o, i, true, true, false⟩).toArray 24)) ⟨a, o, i, true, true, false⟩ (.slice none 0 0) []) := Lib.hid ⟨below_one8 _ _, Blk.new w 24 _, E.below (below_one8 _ _), OwnB.nil_ _ _, by simp⟩
  generalize hh : (⟨a, o, i, true, true, false⟩ : Hl) = h at *
  have HH := Lib.hid hh
  have HC : Hid (∀ W v l, CapS w W h v l → W.cell? ⟨w.heap.size, 0, none⟩ = some (.int .u32 a) ∧ W.cell? ⟨w.heap.size, 3, none⟩ = some (.bool true) ∧ W.cell? ⟨w.heap.size, 4, none⟩ = some (.bool true) ∧ W.cell? ⟨w.heap.size, 5, none⟩ = some (.bool false)) := Lib.hid (by
    intro W v l k
    rw [← hh] at k
    exact ⟨k.box.cell 0, k.box.cell 3, k.box.cell 4, k.box.cell 5⟩)
  obtain ⟨d0, d3, d4, d5⟩ := HC.out _ _ _ HS0.out
  clear E hh
  go_enter Tryd.func34, Tryd.ntmps34
  go_wp2_with fail
  refine (family_is _ HS0.out.env).mono ?_
  generalize (w.alloc (.cells (hlc h).toArray 24)) = W0 at *
  rintro e W1 ⟨rfl, hby, hB1⟩
  have HR1 : Hid (Rd W1 W1.heap.size (some ⟨W0.heap.size, 0, none⟩) 4 fam) := Lib.hid (hby.rd_all fam_oct hby.lt)
  have HS1 := Lib.hid (HS0.out.below hB1)
  clear hby hB1 HS0 d0 d3 d4 d5
  go_wp2_with fail
  refine (part_is _ 1 (by omega) _ 4 4 fam HR1.out (by omega)).mono ?_
  rintro e W2 ⟨v, rfl, hO, hB2⟩
  obtain ⟨Ap, cp, rfl, _, hrp, _⟩ := hO.at_
  have HS2 := Lib.hid (HS1.out.below hB2)
  have HRp := Lib.hid hrp
  clear hO hB2 HS1 hrp HR1
  go_wp2_with (at_builtin; refine app_bs rfl _ _ rfl HS2.out.own HS2.out.lo HRp.out (by simp) rfl rfl ?_)
  intro v W3 ho hb _ _
  have hs := HS2.out.app ho hb hpos
  obtain ⟨A3, c3, rfl, _, _, _⟩ := ho.at_
  have HS3 : Hid (CapS w W3 h (.slice A3 6 c3) [1, 4, 0, 25, 0, 70]) := Lib.hid hs
  clear hs ho hb HS2 HRp
  obtain ⟨d0, d3, d4, d5⟩ := HC.out _ _ _ HS3.out
  simp only [List.nil_append, List.length_cons, List.length_nil, Nat.zero_add, Nat.reduceAdd, Int.cast_ofNat_Int]
  have hw : a % 18446744073709551616 = a := Int.emod_eq_of_lt ha.1 (by omega)
  have HN := Lib.hid (numb_is W3 a 4 ha.1 (by omega) (by omega) (by omega) (by omega))
  go_wp2_with fail
  refine HN.out.mono ?_
  rintro e W6 ⟨A6, c6, rfl, _, hr6, hB6⟩
  have HR6 := Lib.hid hr6
  have HS6 := Lib.hid (HS3.out.below hB6)
  clear hr6 hB6 HS3 d0 d3 d4 d5 HN
  rw [be_len] at HR6
  simp only [be_len]
  go_wp2_with fail
  refine (part_is _ 65 (by omega) _ 4 _ _ HR6.out (by omega)).mono ?_
  rintro e W7 ⟨v, rfl, hO, hB2⟩
  obtain ⟨Ap, cp, rfl, _, hrp, _⟩ := hO.at_
  have HS7 := Lib.hid (HS6.out.below hB2)
  have HRp := Lib.hid hrp
  clear hO hB2 HS6 hrp HR6
  go_wp2_with (at_builtin; refine app_bs rfl _ _ rfl HS7.out.own HS7.out.lo HRp.out (by simp [be_len]) rfl rfl ?_)
  intro v W8 ho hb _ _
  have hs := HS7.out.app ho hb hpos
  obtain ⟨A8, c8, rfl, _, _, _⟩ := ho.at_
  have HS8 : Hid (CapS w W8 h (.slice A8 12 c8) (1 :: 4 :: 0 :: 25 :: 0 :: 70 :: 65 :: 4 :: be 4 a)) := Lib.hid (by simpa [be_len] using hs)
  clear hs ho hb HS7 HRp
  have hlen8 : (1 :: 4 :: 0 :: 25 :: 0 :: 70 :: 65 :: 4 :: be 4 a).length = 12 := by simp [be_len]
  obtain ⟨d0, d3, d4, d5⟩ := HC.out _ _ _ HS8.out
  simp only [List.nil_append, List.cons_append, List.length_cons, List.length_nil, be_len, Nat.zero_add, Nat.reduceAdd, Int.cast_ofNat_Int]
  go_wp2_with fail
  have HRz := Lib.hid (HS8.out.own.rd_of)
  refine (part_is _ 2 (by omega) _ 12 _ _ HRz.out (by omega)).mono ?_
  rintro e W9 ⟨v, rfl, hO, hB2⟩
  obtain ⟨Ap, cp, rfl, hcp, hrp, _⟩ := hO.at_
  have HB9 := Lib.hid (HS8.out.low.trans (hB2.mono HS8.out.low.size))
  have HRp := Lib.hid hrp
  have HP : Hid (parB h = 2 :: ((12 : Nat) : Int) :: (1 :: 4 :: 0 :: 25 :: 0 :: 70 :: 65 :: 4 :: be 4 a)) := Lib.hid (by rw [← HH.out]; simp [parB, capsB, be_len])
  clear hO hB2 hrp HS8 HRz d0 d3 d4 d5
  go_wp2
  go_ret
  unfold ParPost
  rw [HP.out]
  exact ⟨Ap, cp, rfl, HRp.out, HB9.out⟩

set_option maxHeartbeats 2000000 in
theorem par_100 (w : World) (E : EnvF w) (a o i : Int) (ha : 0 ≤ a ∧ a < 4294967296) : Calls Tryd.prog 34 #[.agg (hlc ⟨a, o, i, true, false, false⟩).toArray] w (ParPost w ⟨a, o, i, true, false, false⟩) := by
  have hpos := E.lt
  have HS0 : Hid (CapS w (w.alloc (.cells (hlc ⟨a, o, i, true, false, false⟩).toArray 24)) ⟨a, o, i, true, false, false⟩ (.slice none 0 0) []) := Lib.hid ⟨below_one8 _ _, Blk.new w 24 _, E.below (below_one8 _ _), OwnB.nil_ _ _, by simp⟩
  generalize hh : (⟨a, o, i, true, false, false⟩ : Hl) = h at *
  have HH := Lib.hid hh
  have HC : Hid (∀ W v l, CapS w W h v l → W.cell? ⟨w.heap.size, 0, none⟩ = some (.int .u32 a) ∧ W.cell? ⟨w.heap.size, 3, none⟩ = some (.bool true) ∧ W.cell? ⟨w.heap.size, 4, none⟩ = some (.bool false) ∧ W.cell? ⟨w.heap.size, 5, none⟩ = some (.bool false)) := Lib.hid (by
    intro W v l k
    rw [← hh] at k
    exact ⟨k.box.cell 0, k.box.cell 3, k.box.cell 4, k.box.cell 5⟩)
  obtain ⟨d0, d3, d4, d5⟩ := HC.out _ _ _ HS0.out
  clear E hh
  go_enter Tryd.func34, Tryd.ntmps34
  go_wp2_with fail
  refine (family_is _ HS0.out.env).mono ?_
  generalize (w.alloc (.cells (hlc h).toArray 24)) = W0 at *
  rintro e W1 ⟨rfl, hby, hB1⟩
  have HR1 : Hid (Rd W1 W1.heap.size (some ⟨W0.heap.size, 0, none⟩) 4 fam) := Lib.hid (hby.rd_all fam_oct hby.lt)
  have HS1 := Lib.hid (HS0.out.below hB1)
  clear hby hB1 HS0 d0 d3 d4 d5
  go_wp2_with fail
  refine (part_is _ 1 (by omega) _ 4 4 fam HR1.out (by omega)).mono ?_
  rintro e W2 ⟨v, rfl, hO, hB2⟩
  obtain ⟨Ap, cp, rfl, _, hrp, _⟩ := hO.at_
  have HS2 := Lib.hid (HS1.out.below hB2)
  have HRp := Lib.hid hrp
  clear hO hB2 HS1 hrp HR1
  go_wp2_with (at_builtin; refine app_bs rfl _ _ rfl HS2.out.own HS2.out.lo HRp.out (by simp) rfl rfl ?_)
  intro v W3 ho hb _ _
  have hs := HS2.out.app ho hb hpos
  obtain ⟨A3, c3, rfl, _, _, _⟩ := ho.at_
  have HS3 : Hid (CapS w W3 h (.slice A3 6 c3) [1, 4, 0, 25, 0, 70]) := Lib.hid hs
  clear hs ho hb HS2 HRp
  obtain ⟨d0, d3, d4, d5⟩ := HC.out _ _ _ HS3.out
  simp only [List.nil_append, List.length_cons, List.length_nil, Nat.zero_add, Nat.reduceAdd, Int.cast_ofNat_Int]
  go_wp2_with fail
  have HRz := Lib.hid (HS3.out.own.rd_of)
  refine (part_is _ 2 (by omega) _ 6 _ _ HRz.out (by omega)).mono ?_
  rintro e W9 ⟨v, rfl, hO, hB2⟩
  obtain ⟨Ap, cp, rfl, hcp, hrp, _⟩ := hO.at_
  have HB9 := Lib.hid (HS3.out.low.trans (hB2.mono HS3.out.low.size))
  have HRp := Lib.hid hrp
  have HP : Hid (parB h = 2 :: ((6 : Nat) : Int) :: [1, 4, 0, 25, 0, 70]) := Lib.hid (by rw [← HH.out]; simp [parB, capsB, be_len])
  clear hO hB2 hrp HS3 HRz d0 d3 d4 d5
  go_wp2
  go_ret
  unfold ParPost
  rw [HP.out]
  exact ⟨Ap, cp, rfl, HRp.out, HB9.out⟩

set_option maxHeartbeats 2000000 in
theorem par_011 (w : World) (E : EnvF w) (a o i : Int) (ha : 0 ≤ a ∧ a < 4294967296) : Calls Tryd.prog 34 #[.agg (hlc ⟨a, o, i, false, true, true⟩).toArray] w (ParPost w ⟨a, o, i, false, true, true⟩) := by
  have hpos := E.lt
  have HS0 : Hid (CapS w (w.alloc (.cells (hlc ⟨a, o, i, false, true, true⟩).toArray 24)) ⟨a, o, i, false, true, true⟩ (.slice none 0 0) []) := Lib.hid ⟨below_one8 _ _, Blk.new w 24 _, E.below (below_one8 _ _), OwnB.nil_ _ _, by simp⟩
  generalize hh : (⟨a, o, i, false, true, true⟩ : Hl) = h at *
  have HH := Lib.hid hh
  have HC : Hid (∀ W v l, CapS w W h v l → W.cell? ⟨w.heap.size, 0, none⟩ = some (.int .u32 a) ∧ W.cell? ⟨w.heap.size, 3, none⟩ = some (.bool false) ∧ W.cell? ⟨w.heap.size, 4, none⟩ = some (.bool true) ∧ W.cell? ⟨w.heap.size, 5, none⟩ = some (.bool true)) := Lib.hid (by
    intro W v l k
    rw [← hh] at k
    exact ⟨k.box.cell 0, k.box.cell 3, k.box.cell 4, k.box.cell 5⟩)
  obtain ⟨d0, d3, d4, d5⟩ := HC.out _ _ _ HS0.out
  clear E hh
  go_enter Tryd.func34, Tryd.ntmps34
  go_wp2_with fail
  refine (part_is _ 2 (by omega) none 0 0 [] (Rd.nil_ none) (by omega)).mono ?_
  rintro e W4 ⟨v, rfl, hO, hB2⟩
  obtain ⟨Ap, cp, rfl, _, hrp, _⟩ := hO.at_
  have HS4 := Lib.hid (HS0.out.below hB2)
  have HRp := Lib.hid hrp
  clear hO hB2 HS0 hrp d0 d3 d4 d5
  go_wp2_with (at_builtin; refine app_bs rfl _ _ rfl HS4.out.own HS4.out.lo HRp.out (by simp) rfl rfl ?_)
  intro v W5 ho hb _ _
  have hs := HS4.out.app ho hb hpos
  obtain ⟨A5, c5, rfl, _, _, _⟩ := ho.at_
  have HS5 : Hid (CapS w W5 h (.slice A5 2 c5) [2, 0]) := Lib.hid hs
  clear hs ho hb HS4 HRp
  obtain ⟨d0, d3, d4, d5⟩ := HC.out _ _ _ HS5.out
  simp only [List.nil_append, List.cons_append, List.length_cons, List.length_nil, Nat.zero_add, Nat.reduceAdd, Int.cast_ofNat_Int]
  have hw : a % 18446744073709551616 = a := Int.emod_eq_of_lt ha.1 (by omega)
  have HN := Lib.hid (numb_is W5 a 4 ha.1 (by omega) (by omega) (by omega) (by omega))
  go_wp2_with fail
  refine HN.out.mono ?_
  rintro e W6 ⟨A6, c6, rfl, _, hr6, hB6⟩
  have HR6 := Lib.hid hr6
  have HS6 := Lib.hid (HS5.out.below hB6)
  clear hr6 hB6 HS5 d0 d3 d4 d5 HN
  rw [be_len] at HR6
  simp only [be_len]
  go_wp2_with fail
  refine (part_is _ 65 (by omega) _ 4 _ _ HR6.out (by omega)).mono ?_
  rintro e W7 ⟨v, rfl, hO, hB2⟩
  obtain ⟨Ap, cp, rfl, _, hrp, _⟩ := hO.at_
  have HS7 := Lib.hid (HS6.out.below hB2)
  have HRp := Lib.hid hrp
  clear hO hB2 HS6 hrp HR6
  go_wp2_with (at_builtin; refine app_bs rfl _ _ rfl HS7.out.own HS7.out.lo HRp.out (by simp [be_len]) rfl rfl ?_)
  intro v W8 ho hb _ _
  have hs := HS7.out.app ho hb hpos
  obtain ⟨A8, c8, rfl, _, _, _⟩ := ho.at_
  have HS8 : Hid (CapS w W8 h (.slice A8 8 c8) (2 :: 0 :: 65 :: 4 :: be 4 a)) := Lib.hid (by simpa [be_len] using hs)
  clear hs ho hb HS7 HRp
  have hlen8 : (2 :: 0 :: 65 :: 4 :: be 4 a).length = 8 := by simp [be_len]
  obtain ⟨d0, d3, d4, d5⟩ := HC.out _ _ _ HS8.out
  simp only [List.nil_append, List.cons_append, List.length_cons, List.length_nil, be_len, Nat.zero_add, Nat.reduceAdd, Int.cast_ofNat_Int]
  go_wp2_with fail
  have HRz := Lib.hid (HS8.out.own.rd_of)
  refine (part_is _ 2 (by omega) _ 8 _ _ HRz.out (by omega)).mono ?_
  rintro e W9 ⟨v, rfl, hO, hB2⟩
  obtain ⟨Ap, cp, rfl, hcp, hrp, _⟩ := hO.at_
  have HB9 := Lib.hid (HS8.out.low.trans (hB2.mono HS8.out.low.size))
  have HRp := Lib.hid hrp
  have HP : Hid (parB h = 2 :: ((8 : Nat) : Int) :: (2 :: 0 :: 65 :: 4 :: be 4 a)) := Lib.hid (by rw [← HH.out]; simp [parB, capsB, be_len])
  clear hO hB2 hrp HS8 HRz d0 d3 d4 d5
  go_wp2
  go_ret
  unfold ParPost
  rw [HP.out]
  exact ⟨Ap, cp, rfl, HRp.out, HB9.out⟩

set_option maxHeartbeats 2000000 in
theorem par_010 (w : World) (E : EnvF w) (a o i : Int) (ha : 0 ≤ a ∧ a < 4294967296) : Calls Tryd.prog 34 #[.agg (hlc ⟨a, o, i, false, false, true⟩).toArray] w (ParPost w ⟨a, o, i, false, false, true⟩) := by
  have hpos := E.lt
  have HS0 : Hid (CapS w (w.alloc (.cells (hlc ⟨a, o, i, false, false, true⟩).toArray 24)) ⟨a, o, i, false, false, true⟩ (.slice none 0 0) []) := Lib.hid ⟨below_one8 _ _, Blk.new w 24 _, E.below (below_one8 _ _), OwnB.nil_ _ _, by simp⟩
  generalize hh : (⟨a, o, i, false, false, true⟩ : Hl) = h at *
  have HH := Lib.hid hh
  have HC : Hid (∀ W v l, CapS w W h v l → W.cell? ⟨w.heap.size, 0, none⟩ = some (.int .u32 a) ∧ W.cell? ⟨w.heap.size, 3, none⟩ = some (.bool false) ∧ W.cell? ⟨w.heap.size, 4, none⟩ = some (.bool false) ∧ W.cell? ⟨w.heap.size, 5, none⟩ = some (.bool true)) := Lib.hid (by
    intro W v l k
    rw [← hh] at k
    exact ⟨k.box.cell 0, k.box.cell 3, k.box.cell 4, k.box.cell 5⟩)
  obtain ⟨d0, d3, d4, d5⟩ := HC.out _ _ _ HS0.out
  clear E hh
  go_enter Tryd.func34, Tryd.ntmps34
  go_wp2_with fail
  refine (part_is _ 2 (by omega) none 0 0 [] (Rd.nil_ none) (by omega)).mono ?_
  rintro e W4 ⟨v, rfl, hO, hB2⟩
  obtain ⟨Ap, cp, rfl, _, hrp, _⟩ := hO.at_
  have HS4 := Lib.hid (HS0.out.below hB2)
  have HRp := Lib.hid hrp
  clear hO hB2 HS0 hrp d0 d3 d4 d5
  go_wp2_with (at_builtin; refine app_bs rfl _ _ rfl HS4.out.own HS4.out.lo HRp.out (by simp) rfl rfl ?_)
  intro v W5 ho hb _ _
  have hs := HS4.out.app ho hb hpos
  obtain ⟨A5, c5, rfl, _, _, _⟩ := ho.at_
  have HS5 : Hid (CapS w W5 h (.slice A5 2 c5) [2, 0]) := Lib.hid hs
  clear hs ho hb HS4 HRp
  obtain ⟨d0, d3, d4, d5⟩ := HC.out _ _ _ HS5.out
  simp only [List.nil_append, List.cons_append, List.length_cons, List.length_nil, Nat.zero_add, Nat.reduceAdd, Int.cast_ofNat_Int]
  go_wp2_with fail
  have HRz := Lib.hid (HS5.out.own.rd_of)
  refine (part_is _ 2 (by omega) _ 2 _ _ HRz.out (by omega)).mono ?_
  rintro e W9 ⟨v, rfl, hO, hB2⟩
  obtain ⟨Ap, cp, rfl, hcp, hrp, _⟩ := hO.at_
  have HB9 := Lib.hid (HS5.out.low.trans (hB2.mono HS5.out.low.size))
  have HRp := Lib.hid hrp
  have HP : Hid (parB h = 2 :: ((2 : Nat) : Int) :: [2, 0]) := Lib.hid (by rw [← HH.out]; simp [parB, capsB, be_len])
  clear hO hB2 hrp HS5 HRz d0 d3 d4 d5
  go_wp2
  go_ret
  unfold ParPost
  rw [HP.out]
  exact ⟨Ap, cp, rfl, HRp.out, HB9.out⟩

set_option maxHeartbeats 2000000 in
theorem par_001 (w : World) (E : EnvF w) (a o i : Int) (ha : 0 ≤ a ∧ a < 4294967296) : Calls Tryd.prog 34 #[.agg (hlc ⟨a, o, i, false, true, false⟩).toArray] w (ParPost w ⟨a, o, i, false, true, false⟩) := by
  have hpos := E.lt
  have HS0 : Hid (CapS w (w.alloc (.cells (hlc ⟨a, o, i, false, true, false⟩).toArray 24)) ⟨a, o, i, false, true, false⟩ (.slice none 0 0) []) := Lib.hid ⟨below_one8 _ _, Blk.new w 24 _, E.below (below_one8 _ _), OwnB.nil_ _ _, by simp⟩
  generalize hh : (⟨a, o, i, false, true, false⟩ : Hl) = h at *
  have HH := Lib.hid hh
  have HC : Hid (∀ W v l, CapS w W h v l → W.cell? ⟨w.heap.size, 0, none⟩ = some (.int .u32 a) ∧ W.cell? ⟨w.heap.size, 3, none⟩ = some (.bool false) ∧ W.cell? ⟨w.heap.size, 4, none⟩ = some (.bool true) ∧ W.cell? ⟨w.heap.size, 5, none⟩ = some (.bool false)) := Lib.hid (by
    intro W v l k
    rw [← hh] at k
    exact ⟨k.box.cell 0, k.box.cell 3, k.box.cell 4, k.box.cell 5⟩)
  obtain ⟨d0, d3, d4, d5⟩ := HC.out _ _ _ HS0.out
  clear E hh
  go_enter Tryd.func34, Tryd.ntmps34
  have hw : a % 18446744073709551616 = a := Int.emod_eq_of_lt ha.1 (by omega)
  have HN := Lib.hid (numb_is (w.alloc (.cells (hlc h).toArray 24)) a 4 ha.1 (by omega) (by omega) (by omega) (by omega))
  go_wp2_with fail
  refine HN.out.mono ?_
  rintro e W6 ⟨A6, c6, rfl, _, hr6, hB6⟩
  have HR6 := Lib.hid hr6
  have HS6 := Lib.hid (HS0.out.below hB6)
  clear hr6 hB6 HS0 d0 d3 d4 d5 HN
  rw [be_len] at HR6
  simp only [be_len]
  go_wp2_with fail
  refine (part_is _ 65 (by omega) _ 4 _ _ HR6.out (by omega)).mono ?_
  rintro e W7 ⟨v, rfl, hO, hB2⟩
  obtain ⟨Ap, cp, rfl, _, hrp, _⟩ := hO.at_
  have HS7 := Lib.hid (HS6.out.below hB2)
  have HRp := Lib.hid hrp
  clear hO hB2 HS6 hrp HR6
  go_wp2_with (at_builtin; refine app_bs rfl _ _ rfl HS7.out.own HS7.out.lo HRp.out (by simp [be_len]) rfl rfl ?_)
  intro v W8 ho hb _ _
  have hs := HS7.out.app ho hb hpos
  obtain ⟨A8, c8, rfl, _, _, _⟩ := ho.at_
  have HS8 : Hid (CapS w W8 h (.slice A8 6 c8) (65 :: 4 :: be 4 a)) := Lib.hid (by simpa [be_len] using hs)
  clear hs ho hb HS7 HRp
  have hlen8 : (65 :: 4 :: be 4 a).length = 6 := by simp [be_len]
  obtain ⟨d0, d3, d4, d5⟩ := HC.out _ _ _ HS8.out
  simp only [List.nil_append, List.cons_append, List.length_cons, List.length_nil, be_len, Nat.zero_add, Nat.reduceAdd, Int.cast_ofNat_Int]
  go_wp2_with fail
  have HRz := Lib.hid (HS8.out.own.rd_of)
  refine (part_is _ 2 (by omega) _ 6 _ _ HRz.out (by omega)).mono ?_
  rintro e W9 ⟨v, rfl, hO, hB2⟩
  obtain ⟨Ap, cp, rfl, hcp, hrp, _⟩ := hO.at_
  have HB9 := Lib.hid (HS8.out.low.trans (hB2.mono HS8.out.low.size))
  have HRp := Lib.hid hrp
  have HP : Hid (parB h = 2 :: ((6 : Nat) : Int) :: (65 :: 4 :: be 4 a)) := Lib.hid (by rw [← HH.out]; simp [parB, capsB, be_len])
  clear hO hB2 hrp HS8 HRz d0 d3 d4 d5
  go_wp2
  go_ret
  unfold ParPost
  rw [HP.out]
  exact ⟨Ap, cp, rfl, HRp.out, HB9.out⟩

set_option maxHeartbeats 2000000 in
theorem par_000 (w : World) (E : EnvF w) (a o i : Int) (ha : 0 ≤ a ∧ a < 4294967296) : Calls Tryd.prog 34 #[.agg (hlc ⟨a, o, i, false, false, false⟩).toArray] w (ParPost w ⟨a, o, i, false, false, false⟩) := by
  have hpos := E.lt
  have HS0 : Hid (CapS w (w.alloc (.cells (hlc ⟨a, o, i, false, false, false⟩).toArray 24)) ⟨a, o, i, false, false, false⟩ (.slice none 0 0) []) := Lib.hid ⟨below_one8 _ _, Blk.new w 24 _, E.below (below_one8 _ _), OwnB.nil_ _ _, by simp⟩
  generalize hh : (⟨a, o, i, false, false, false⟩ : Hl) = h at *
  have HH := Lib.hid hh
  have HC : Hid (∀ W v l, CapS w W h v l → W.cell? ⟨w.heap.size, 0, none⟩ = some (.int .u32 a) ∧ W.cell? ⟨w.heap.size, 3, none⟩ = some (.bool false) ∧ W.cell? ⟨w.heap.size, 4, none⟩ = some (.bool false) ∧ W.cell? ⟨w.heap.size, 5, none⟩ = some (.bool false)) := Lib.hid (by
    intro W v l k
    rw [← hh] at k
    exact ⟨k.box.cell 0, k.box.cell 3, k.box.cell 4, k.box.cell 5⟩)
  obtain ⟨d0, d3, d4, d5⟩ := HC.out _ _ _ HS0.out
  clear E hh
  go_enter Tryd.func34, Tryd.ntmps34
  have HP : Hid (parB h = []) := Lib.hid (by rw [← HH.out]; simp [parB, capsB])
  go_wp2
  go_ret
  unfold ParPost
  rw [HP.out]
  exact ⟨none, 0, rfl, Rd.nil_ _, HS0.out.low⟩

theorem params_is (w : World) (E : EnvF w) (h : Hl) (hk : HlOk h) : Calls Tryd.prog 34 #[.agg (hlc h).toArray] w (ParPost w h) := by
  obtain ⟨a, o, i, ev, wd, rf⟩ := h
  have ha := hk.as_
  cases ev <;> cases wd <;> cases rf
  · exact par_000 w E a o i ha
  · exact par_010 w E a o i ha
  · exact par_001 w E a o i ha
  · exact par_011 w E a o i ha
  · exact par_100 w E a o i ha
  · exact par_110 w E a o i ha
  · exact par_101 w E a o i ha
  · exact par_111 w E a o i ha
end Go.Proofs.YtgfjjkckamppoaaDoor
