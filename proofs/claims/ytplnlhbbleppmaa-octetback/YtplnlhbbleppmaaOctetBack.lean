/-
  OctetBack: its walk: for every slice of bytes, number and size the law returns true, and nothing that was there has turned.
-/
import Derived.Test.YtplnlhbbleppmaaOctH
import Derived.Test.YtplnlhbbleppmaaOctF
namespace Go.Proofs.Ytplnlhbbleppmaa
open Go.RowKit

theorem foldl_num (r : List Int) : ∀ x : Int, r.foldl (fun n b => n * 256 + b) x = x * 256 ^ r.length + numOf r := by
  induction r with
  | nil => intro x; simp [numOf]
  | cons b r ih =>
    intro x
    unfold numOf
    rw [List.foldl_cons, List.foldl_cons, ih, ih, List.length_cons, Int.pow_succ, Int.zero_mul, Int.zero_add, Int.add_mul, Int.mul_assoc, Int.mul_comm 256 (256 ^ r.length), Int.add_assoc]
theorem numOf_cons (b : Int) (r : List Int) : numOf (b :: r) = b * 256 ^ r.length + numOf r := by
  unfold numOf
  rw [List.foldl_cons, foldl_num]
  simp [numOf]
theorem mod_step (n P : Int) (hP : 0 < P) : (n / P % 256) * P + n % P = n % (P * 256) := by
  have h1 : n = P * (n / P) + n % P := (Int.mul_ediv_add_emod n P).symm
  have h2 : n / P = 256 * (n / P / 256) + n / P % 256 := (Int.mul_ediv_add_emod (n / P) 256).symm
  have h3 := Int.emod_nonneg n (Int.ne_of_gt hP)
  have h4 := Int.emod_lt_of_pos n hP
  have h5 : 0 ≤ n / P % 256 := by omega
  have h6 : n / P % 256 ≤ 255 := by omega
  generalize n / P % 256 = t at *
  generalize n / P / 256 = q at *
  generalize n % P = r at *
  have h7 : n = (t * P + r) + (P * 256) * q := by
    rw [h1, h2, Int.mul_add, Int.mul_comm P t, Int.mul_assoc]
    omega
  have h8 : t * P ≤ 255 * P := Int.mul_le_mul_of_nonneg_right h6 (Int.le_of_lt hP)
  have h9 : 0 ≤ t * P := Int.mul_nonneg h5 (Int.le_of_lt hP)
  have h10 : n % (P * 256) = (t * P + r) % (P * 256) := by
    conv => lhs; rw [h7]
    rw [Int.add_mul_emod_self_left]
  rw [h10, Int.emod_eq_of_lt (by omega) (by omega)]
theorem numOf_be (n : Int) : ∀ s, numOf (be s n) = n % 256 ^ s
  | 0 => by simp [be, numOf, Int.emod_one]
  | s + 1 => by
    rw [be, numOf_cons, be_len, numOf_be n s, Int.pow_succ]
    exact mod_step n _ (Int.pow_pos (by decide))

section
variable (l : List Int) (n : Int) (s : Nat)
theorem back_len : (l ++ be s n ++ be 1 7).length = l.length + s + 1 := by simp [be_len]; omega
theorem back_took : stepTook (l ++ be s n ++ be 1 7) 0 0 l.length = l := by
  unfold stepTook
  rw [if_pos (by rw [back_len]; omega)]
  simp
theorem back_at : stepAt (l ++ be s n ++ be 1 7) 0 0 l.length = l.length := by
  unfold stepAt
  rw [if_pos (by rw [back_len]; omega)]
  simp
theorem back_err : stepErr (l ++ be s n ++ be 1 7) 0 0 l.length = 0 := by
  unfold stepErr
  rw [if_pos rfl, if_neg (by omega), if_neg (by rw [back_len]; omega)]
theorem back_num (h1 : 1 ≤ s) (h8 : s ≤ 8) (hn : 0 ≤ n) (hf : n < 256 ^ s) : numVal (l ++ be s n ++ be 1 7) l.length 0 s = n := by
  unfold numVal
  rw [if_pos (by omega)]
  have e : stepTook (l ++ be s n ++ be 1 7) l.length 0 s = be s n := by
    unfold stepTook
    rw [if_pos (by rw [back_len]; omega), List.append_assoc, List.drop_left, Int.toNat_natCast, List.take_append_of_le_length (by simp [be_len])]
    exact List.take_of_length_le (by simp [be_len])
  rw [e, numOf_be, Int.emod_eq_of_lt hn hf]
theorem back_numAt (h1 : 1 ≤ s) (h8 : s ≤ 8) : numAt (l ++ be s n ++ be 1 7) l.length 0 s = l.length + s := by
  unfold numAt stepAt
  rw [if_pos (by omega), if_pos (by rw [back_len]; omega)]
  simp
theorem back_numErr (h1 : 1 ≤ s) (h8 : s ≤ 8) : numErr (l ++ be s n ++ be 1 7) l.length 0 s = 0 := by
  unfold numErr stepErr
  rw [if_pos (by omega), if_pos rfl, if_neg (by omega), if_neg (by rw [back_len]; omega)]
theorem back_seven : numVal (l ++ be s n ++ be 1 7) (l.length + s) 0 1 = 7 := by
  unfold numVal
  rw [if_pos (by omega)]
  have e : stepTook (l ++ be s n ++ be 1 7) (l.length + s) 0 1 = be 1 7 := by
    unfold stepTook
    rw [if_pos (by rw [back_len]; omega), List.drop_left' (by simp [be_len])]
    rfl
  rw [e]
  decide
theorem back_sevenAt : numAt (l ++ be s n ++ be 1 7) (l.length + s) 0 1 = l.length + s + 1 := by
  unfold numAt stepAt
  rw [if_pos (by omega), if_pos (by rw [back_len]; omega)]
  simp
theorem back_sevenErr : numErr (l ++ be s n ++ be 1 7) (l.length + s) 0 1 = 0 := by
  unfold numErr stepErr
  rw [if_pos (by omega), if_pos rfl, if_neg (by omega), if_neg (by rw [back_len]; omega)]
end

set_option maxHeartbeats 1000000 in
theorem octetBack_no (w : World) (A : Option Addr) (m c : Nat) (l : List Int) (n size : Int) (hr : Rd w w.heap.size A m l) (hm : m ≤ 140737488351232) (hn : 0 ≤ n) (hn2 : n < 18446744073709551616)
    (hfit : ¬ (1 ≤ size ∧ size ≤ 8 ∧ n < 256 ^ size.toNat)) :
    Calls Try.prog 5 #[.slice A m c, .int .u64 n, .int .i64 size] w fun e w' => e = .returned (.bool true) ∧ Below w.heap.size w w' := by
  have H := Lib.hid hr
  have Hfit := Lib.hid hfit
  clear hr hfit
  go_enter Try.func5, Try.ntmps5
  go_wp2_with fail
  refine (put_is w A m c l n size H.out (by omega) hn hn2).mono ?_
  rintro e w1 ⟨hB1, he⟩
  rw [if_neg Hfit.out] at he
  subst he
  have HB1 := Lib.hid hB1
  clear hB1
  go_wp2_with fail
  refine (alive_is w1).mono ?_
  rintro e w2 ⟨rfl, hB2⟩
  have HB2 := Lib.hid hB2
  clear hB2
  go_wp2
  go_ret
  exact ⟨rfl, HB1.out.trans (HB2.out.mono HB1.out.size)⟩

set_option maxHeartbeats 1000000 in
theorem octetBack_yes (w : World) (A : Option Addr) (c : Nat) (l : List Int) (n : Int) (s : Nat) (hr : Rd w w.heap.size A l.length l) (hm : l.length ≤ 140737488351232) (hn : 0 ≤ n) (hn2 : n < 18446744073709551616)
    (h1 : 1 ≤ s) (h8 : s ≤ 8) (hf : n < 256 ^ s) :
    Calls Try.prog 5 #[.slice A l.length c, .int .u64 n, .int .i64 s] w fun e w' => e = .returned (.bool true) ∧ Below w.heap.size w w' := by
  have H := Lib.hid hr
  have Hf := Lib.hid hf
  clear hr hf
  go_enter Try.func5, Try.ntmps5
  go_wp2_with fail
  refine (put_fits w A l.length c l n s H.out (by omega) hn hn2 (by omega) (by omega) Hf.out).mono ?_
  rintro e w1 ⟨rfl, hb1, hB1⟩
  rw [Int.toNat_natCast] at *
  have Hb1 := Lib.hid hb1
  have HB1 := Lib.hid hB1
  have hoct : Oct (l ++ be s n) := by
    have ho := H.out.oct
    intro x hx
    rcases List.mem_append.1 hx with hx | hx
    · exact ho x hx
    · exact be_oct _ _ x hx
  have Hoct := Lib.hid hoct
  clear hb1 hB1 hoct
  go_wp2_with fail
  have hrd1 : Rd w1 w1.heap.size (some ⟨w.heap.size, 0, none⟩) (l.length + s) (l ++ be s n) := by
    have h := Hb1.out.rd_all Hoct.out Hb1.out.lt
    rwa [show (l ++ be s n).length = l.length + s from by simp [be_len]] at h
  have Hrd1 := Lib.hid hrd1
  clear hrd1
  refine (put_fits w1 _ _ _ (l ++ be s n) 7 1 Hrd1.out (by omega) (by omega) (by omega) (by omega) (by omega) (by decide)).mono ?_
  rintro e w2 ⟨rfl, hb2, hB2⟩
  rw [show (l ++ be s n).length + (1 : Int).toNat = l.length + s + 1 from by simp [be_len]] at *
  have hb2' : Byt w2 w1.heap.size 5 (l ++ be s n ++ be 1 7) := hb2
  have Hb2 := Lib.hid hb2'
  have HB2 := Lib.hid hB2
  have hoct2 : Oct (l ++ be s n ++ be 1 7) := by
    have ho := Hoct.out
    intro x hx
    rcases List.mem_append.1 hx with hx | hx
    · exact ho x hx
    · exact be_oct _ _ x hx
  have Hoct2 := Lib.hid hoct2
  clear hb2 hb2' hB2 hoct2
  go_wp2_with fail
  have hrd2 : Rd w2 w2.heap.size (some ⟨w1.heap.size, 0, none⟩) (l.length + s + 1) (l ++ be s n ++ be 1 7) := by
    have h := Hb2.out.rd_all Hoct2.out Hb2.out.lt
    rwa [back_len] at h
  have Hrd2 := Lib.hid hrd2
  clear hrd2
  refine (new_is w2 _ _ _ (l ++ be s n ++ be 1 7) Hrd2.out (by omega)).mono ?_
  rintro e w3 ⟨g, rfl, hg, hcur, hB3⟩
  have hB02 : Below w.heap.size w w2 := HB1.out.trans (HB2.out.mono HB1.out.size)
  have hB03 : Below w.heap.size w w3 := hB02.trans (hB3.mono hB02.size)
  have HB03 := Lib.hid hB03
  have Hg := Lib.hid (Nat.le_trans hB02.size hg)
  have Hcur := Lib.hid hcur
  clear hB02 hB03 hg hcur hB3 HB2 Hb2 HB1 Hb1 Hrd1 Hrd2 Hoct Hoct2
  go_wp2_with fail
  refine (take_is w3 g (l ++ be s n ++ be 1 7) 0 0 l.length Hcur.out).mono ?_
  rintro e w4 ⟨A4, rfl, hn4, hcur, hon⟩
  rw [back_took, back_at, back_err] at *
  have hrd4 := hn4.rd
  have hB04 : Below w.heap.size w w4 := below_only HB03.out hon HB03.out.size (fun k hk => by cases hk; exact Hg.out)
  have HB04 := Lib.hid hB04
  have Hrd4 := Lib.hid hrd4
  have Hcur4 := Lib.hid hcur
  have Hrb := Lib.hid (H.out.below hB04)
  clear hB04 hrd4 hcur hon hn4 HB03 Hcur
  go_wp2_with fail
  refine (same_is w4 w4.heap.size A4 A _ _ _ c l l Hrd4.out (Hrb.out.more HB04.out.size) true (by simp)).mono ?_
  rintro e w5 ⟨rfl, rfl⟩
  go_wp2_with fail
  refine (num_is w4 g _ l.length 0 s Hcur4.out).mono ?_
  rintro e w5 ⟨rfl, hcur, hon⟩
  rw [back_num l n s h1 h8 hn Hf.out, back_numAt l n s h1 h8, back_numErr l n s h1 h8] at *
  have hB05 : Below w.heap.size w w5 := below_only HB04.out hon HB04.out.size (fun k hk => by cases hk; exact Hg.out)
  have HB05 := Lib.hid hB05
  have Hcur5 := Lib.hid hcur
  have hnn : (n != n) = false := by simp
  clear hB05 hcur hon HB04 Hcur4 Hrd4 Hrb
  go_wp2_with fail
  refine (num_is w5 g _ (l.length + s) 0 1 Hcur5.out).mono ?_
  rintro e w6 ⟨rfl, hcur, hon⟩
  rw [back_seven, back_sevenAt, back_sevenErr] at *
  have hB06 : Below w.heap.size w w6 := below_only HB05.out hon HB05.out.size (fun k hk => by cases hk; exact Hg.out)
  have HB06 := Lib.hid hB06
  have Hcur6 := Lib.hid hcur
  clear hB06 hcur hon HB05 Hcur5
  go_wp2_with fail
  refine (leftC_is w6 g _ _ 0 Hcur6.out).mono ?_
  rintro e w7 ⟨rfl, k, rfl⟩
  rw [back_len, Int.sub_self]
  go_wp2_with fail
  refine (at_is (w6.drewN k) g _ _ 0 (Hcur6.out.drewN k)).mono ?_
  rintro e w7 ⟨rfl, rfl⟩
  rw [show ((l.length + s + 1 : Nat) : Int) = (l.length : Int) + (s : Int) + 1 from by omega]
  go_wp2_with fail
  refine (err_is (w6.drewN k) g _ _ 0 (Hcur6.out.drewN k)).mono ?_
  rintro e w7 ⟨rfl, rfl⟩
  go_wp2_with fail
  refine (alive_is (w6.drewN k)).mono ?_
  rintro e w7 ⟨rfl, hB7⟩
  have HB7 := Lib.hid hB7
  clear hB7
  go_wp2
  go_ret
  exact ⟨rfl, (below_drewN HB06.out k).trans (HB7.out.mono HB06.out.size)⟩

theorem octetBack_walk (w : World) (A : Option Addr) (m c : Nat) (l : List Int) (n size : Int) (hr : Rd w w.heap.size A m l) (hm : m ≤ 140737488351232) (hn : (Lit.int .u64 n).wf = true) (_ : (Lit.int .i64 size).wf = true) :
    Calls Try.prog 5 #[.slice A m c, .int .u64 n, .int .i64 size] w fun e w' => e = .returned (.bool true) ∧ Below w.heap.size w w' := by
  by_cases hfit : 1 ≤ size ∧ size ≤ 8 ∧ n < 256 ^ size.toNat
  · obtain ⟨s, rfl⟩ := Int.eq_ofNat_of_zero_le (show 0 ≤ size by omega)
    obtain rfl := hr.len
    exact octetBack_yes w A c l n s hr hm (wf_u64 hn).1 (wf_u64 hn).2 (by omega) (by omega) hfit.2.2
  · exact octetBack_no w A m c l n size hr hm (wf_u64 hn).1 (wf_u64 hn).2 hfit
end Go.Proofs.Ytplnlhbbleppmaa
