/-
  FrameTurned: the walk.
-/
import Derived.Test.YtoiigalaijnoeaaFrJ
namespace Go.Proofs.Ytoiigalaijnoeaa
open Go.RowKit
set_option linter.unusedSimpArgs false
set_option linter.unusedVariables false

theorem turned255 : ∀ b : Fin 256, b.val ≠ 0 → bits .xor .u8 255 (b.val : Int) ≠ 255 := by decide +kernel
theorem turn_ne (y : Int) (h0 : 0 ≤ y) (h1 : y < 256) (hne : y ≠ 0) : bits .xor .u8 255 y ≠ 255 := by
  obtain ⟨m, rfl⟩ := Int.eq_ofNat_of_zero_le h0
  exact turned255 ⟨m, by omega⟩ (by show m ≠ 0; omega)
theorem putL_mark_at (k : Int) (l : List Int) (t : Nat) (h : t < 16) : (putL k l).getD t 0 = 255 := by
  unfold putL
  rw [getD_app (by rw [List.length_replicate]; exact h)]
  simp only [List.getD, List.getElem?_replicate, if_pos h, Option.getD_some]
theorem oct_set {l : List Int} (h : Oct l) (i : Nat) {x : Int} (hx : 0 ≤ x ∧ x < 256) : Oct (l.set i x) := fun y hy => by
  rcases List.mem_or_eq_of_mem_set hy with hy | rfl
  · exact h y hy
  · exact hx

set_option maxHeartbeats 4000000 in
set_option maxRecDepth 100000 in
theorem frameTurned_walk (w : World) (k : Int) (A : Option Addr) (n c : Nat) (l : List Int) (a y : Int) (A2 : Option Addr) (n2 c2 : Nat) (l2 : List Int) (wk : (Lit.int .i64 k).wf = true) (hr : Rd w w.heap.size A n l) (hm : n ≤ 140737488351232) (wa : (Lit.int .i64 a).wf = true) (wy : (Lit.int .u8 y).wf = true)
    (hr2 : Rd w w.heap.size A2 n2 l2) (hm2 : n2 ≤ 140737488351232) :
    Calls Try.prog 7 #[.agg #[.int .i64 k, .slice A n c], .int .i64 a, .int .u8 y, .slice A2 n2 c2] w fun e w' => e = .returned (.bool true) ∧ Below w.heap.size w w' := by
  have hy : 0 ≤ y ∧ y < 256 := by
    simp [Lit.wf, IntKind.min, IntKind.max, IntKind.signed, IntKind.bits] at wy
    omega
  have HB0 : Hid (Below w.heap.size w (w.alloc (.cells #[.int .i64 k, .slice A n c] 24))) := Lib.hid ((Below.refl _ _).alloc (Nat.le_refl _) _)
  have HR := Lib.hid ((hr.below HB0.out).more HB0.out.size)
  have hlen := Lib.hid hr.len
  have ho := Lib.hid hr.oct
  clear hr hr2 wk wa wy
  by_cases hfit : FitsB k l.length
  · have he := putErr_zero.2 hfit
    have HPut := Lib.hid (put_is (w.alloc (.cells #[.int .i64 k, .slice A n c] 24)) k A n c l HR.out (by omega))
    unfold PutR at HPut
    have hpb : putBytes k l = putL k l := by unfold putBytes; rw [if_pos he]
    rw [he, hpb, putL_len, hlen.out] at HPut
    have hn4 : n ≤ 4077 := by have := hfit.2.2; have := mostI_bd k; have := hlen.out; omega
    have HFit := Lib.hid hfit
    clear he hpb hfit
    by_cases hy0 : y = 0
    · subst hy0
      go_enter Try.func7, Try.ntmps7
      go_wp2_with fail
      refine HPut.out.mono ?_
      rintro e w1 ⟨hB1, A1, rfl, _⟩
      have HB1 := Lib.hid (HB0.out.trans (hB1.mono HB0.out.size))
      clear hB1
      go_wp2_with fail
      refine (alive_is w1).mono ?_
      rintro e w4 ⟨rfl, hb4⟩
      have HB4 := Lib.hid (HB1.out.trans (hb4.mono HB1.out.size))
      clear hb4 HB1
      go_wp2
      go_ret
      exact ⟨rfl, HB4.out⟩
    · have hyz : (y == 0) = false := by simpa using hy0
      have hcb := cnt_bd (a := a) (m := 16) (by omega)
      have HCnt := Lib.hid (fun w => count_is w a 16 (by omega) (by omega))
      obtain ⟨t, ht⟩ := Int.eq_ofNat_of_zero_le hcb.1
      rw [ht] at HCnt hcb
      have ht16 : t < 16 := by omega
      have HTurn := Lib.hid (turn_ne y hy.1 hy.2 hy0)
      have hxb := xor_u8_bd 255 y
      generalize hx : bits .xor .u8 255 y = x at *
      have HPa := Lib.hid (parse_turned (putL k l) t x ht16 (by rw [putL_len]; omega) HTurn.out)
      have HOs := Lib.hid (oct_set (putL_oct k l HFit.out ho.out) t hxb)
      have HMk := Lib.hid (putL_mark_at k l t ht16)
      have HLl : Hid (((putL k l).set t x).length = 19 + n) := Lib.hid (by simp [putL_len, hlen.out])
      have HLp : Hid ((putL k l).length = 19 + n) := Lib.hid (by rw [putL_len, hlen.out])
      have ht19 : (t : Int) < 19 + (n : Int) := by omega
      have htn : t < 19 + n := by omega
      clear ht hcb hy0 HTurn
      go_enter Try.func7, Try.ntmps7
      go_wp2_with fail
      refine HPut.out.mono ?_
      rintro e w1 ⟨hB1, A1, rfl, hF1⟩
      obtain ⟨i, rfl, hi, hby⟩ := fresh_at hF1 (by omega)
      have HB1 := Lib.hid (HB0.out.trans (hB1.mono HB0.out.size))
      have hiw : w.heap.size ≤ i := Nat.le_trans HB0.out.size hi
      have x0 : w1.cell? ⟨i, t, none⟩ = some (.int .u8 255) := by rw [hby.cell (by rw [HLp.out]; omega), HMk.out]
      have f0 : w1.frozen? ⟨i, t, none⟩ = false := hby.frozen t
      have HY1 := Lib.hid (hby.set_ t x)
      clear hB1 hF1 hby HPut
      go_wp2_with fail
      refine (HCnt.out w1).mono ?_
      rintro e w' ⟨rfl, rfl⟩
      go_wp2_with fail
      have HB2 := Lib.hid (HB1.out.setCell (p := ⟨i, t, none⟩) hiw (.int .u8 x))
      clear x0 f0 HB1
      generalize w1.setCell ⟨i, t, none⟩ (.int .u8 x) = w2 at *
      refine (newS_is w2).mono ?_
      rintro e w3 ⟨rfl, hs3, hB3, hz3⟩
      have HB3 := Lib.hid (HB2.out.trans (hB3.mono HB2.out.size))
      have HY3 : Hid (Byt w3 i 5 ((putL k l).set t x)) := Lib.hid (HY1.out.below hB3 HY1.out.lt)
      have HS3 := Lib.hid (waiting_new hs3)
      have hi2 : i < w2.heap.size := HY1.out.lt
      have hw2 := HB2.out.size
      clear hs3 hB3 hz3 HB2 HY1
      generalize w2.heap.size = g at *
      go_wp2_with fail
      have hng : ∀ b off, (some ⟨i, 0, none⟩ : Option Addr) = some ⟨b, off, none⟩ → b ≠ g ∧ some b ≠ (none : Option Nat) := fun b off e => by
        injection e with e
        injection e with e
        exact ⟨by omega, by simp⟩
      have hF := feed_is w3 g none [] ((putL k l).set t x) (some ⟨i, 0, none⟩) (19 + n) HS3.out (HY3.out.rd_all HOs.out HY3.out.lt) (by rw [HLl.out]; omega) hng (by rw [HLl.out]; omega)
      unfold Fed at hF
      rw [show feed (.wait []) ((putL k l).set t x) = ([], .bad ⟨1, 1, []⟩) from HPa.out, HLl.out] at hF
      refine hF.mono ?_
      clear hF
      rintro e w4 ⟨v, q4, d4, rfl, ht4, hs4, _, _, hf4, _⟩
      obtain ⟨A4, c4, rfl, _⟩ := told_msr ht4
      have HS4 : Hid (Broken w4 g d4 ⟨1, 1, []⟩) := Lib.hid hs4
      have HB4 : Hid (Below w.heap.size w w4) := Lib.hid (HB3.out.trans (hf4.below HB3.out.size hw2 (fun i e => by cases e)))
      have hg4 : g < w4.heap.size := by
        obtain ⟨_, _, hS, _⟩ := hs4
        exact Blk.lt hS
      clear ht4 hs4 hf4 hng HB3 HS3 HY3 HOs HPa
      go_wp2_with fail
      refine (fault_bad w4 g d4 ⟨1, 1, []⟩ HS4.out (by simp)).mono ?_
      rintro e w5 ⟨A5, n5, rfl, hf5, hb5⟩
      obtain rfl : 0 = n5 := hf5.2.1
      have HS5 : Hid (Broken w5 g d4 ⟨1, 1, []⟩) := Lib.hid (IsS.below (q := none) (st := .bad ⟨1, 1, []⟩) HS4.out hb5)
      have HB5 := Lib.hid (HB4.out.trans (hb5.mono HB4.out.size))
      clear hf5 hb5 HS4 HB4
      simp only [fltOf, badB]
      go_wp2_with fail
      have HB6 := Lib.hid (HB5.out.alloc HB5.out.size (.cells #[.int .i64 1, .int .i64 1, .slice A5 0 0] 43))
      have HS6 : Hid (Broken (w5.alloc (.cells #[.int .i64 1, .int .i64 1, .slice A5 0 0] 43)) g d4 ⟨1, 1, []⟩) := Lib.hid (IsS.kept (q := none) (st := .bad ⟨1, 1, []⟩) HS5.out fun i hi _ => Below.heap_alloc _ _ _ hi)
      clear HB5 HS5
      refine (feed_broken _ g d4 _ A2 n2 c2 HS6.out).mono ?_
      rintro e w' ⟨rfl, rfl⟩
      go_wp2_with fail
      refine (waits_any _ g none d4 (.bad ⟨1, 1, []⟩) HS6.out).mono ?_
      rintro e w' ⟨rfl, rfl⟩
      simp only [waitsN]
      go_wp2_with fail
      refine (alive_is _).mono ?_
      rintro e w7 ⟨rfl, hb7⟩
      have HB7 := Lib.hid (HB6.out.trans (hb7.mono HB6.out.size))
      clear hb7 HB6 HS6
      go_wp2
      go_ret
      exact ⟨rfl, HB7.out⟩
  · have hne : putErr k l.length ≠ 0 := fun e => hfit (putErr_zero.1 e)
    have HPut := Lib.hid (put_is (w.alloc (.cells #[.int .i64 k, .slice A n c] 24)) k A n c l HR.out (by omega))
    unfold PutR at HPut
    generalize putErr k l.length = er at *
    have hne' : (er != 0) = true := by simpa using hne
    generalize (putBytes k l).length = pl at *
    clear hfit hne
    go_enter Try.func7, Try.ntmps7
    go_wp2_with fail
    refine HPut.out.mono ?_
    rintro e w1 ⟨hB1, A1, rfl, _⟩
    have HB1 := Lib.hid (HB0.out.trans (hB1.mono HB0.out.size))
    clear hB1
    go_wp2_with fail
    refine (alive_is w1).mono ?_
    rintro e w4 ⟨rfl, hb4⟩
    have HB4 := Lib.hid (HB1.out.trans (hb4.mono HB1.out.size))
    clear hb4 HB1
    go_wp2
    go_ret
    exact ⟨rfl, HB4.out⟩
end Go.Proofs.Ytoiigalaijnoeaa
