/-
  Layer 3: the law's own alive.
-/
import Derived.Test.YtoiigalaijnoeaaFrI
namespace Go.Proofs.Ytoiigalaijnoeaa
open Go.RowKit
set_option linter.unusedSimpArgs false
set_option linter.unusedVariables false

theorem waiting_new {w : World} {g : Nat} (h : StrB w g (.slice none 0 0) 0 0 0 (.slice none 0 0) false) : Waiting w g none [] :=
  ⟨⟨_, 0, 0, _, h, World.ownsRow_nil _ _ _ _, rfl⟩, Quiet.nil_, oct_nil⟩
theorem fresh_at {lo : Nat} {w : World} {A : Option Addr} {n : Nat} {l : List Int} (h : Fresh lo w A n l) (hn : 0 < n) : ∃ i, A = some ⟨i, 0, none⟩ ∧ lo ≤ i ∧ Byt w i 5 l := h.2.2.resolve_left (by omega)
def kaL : List Int := putL 4 []
theorem ka_len : kaL.length = 19 := by decide
theorem ka_err : putErr 4 ([] : List Int).length = 0 := by decide
theorem ka_bytes : putBytes 4 [] = kaL := by decide
theorem ka_err5 : putErr 4 ([1] : List Int).length = 5 := by decide
theorem ka_bytes5 : putBytes 4 [1] = [] := by decide
theorem ka_feed1 : feed (.wait []) (kaL.take 10) = ([], .wait (kaL.take 10)) := parse_short (by decide)
theorem ka_feed2 : feed (.wait (kaL.take 10)) (kaL.drop 10) = ([(4, [])], .wait []) := by
  show parse (kaL.take 10 ++ kaL.drop 10) = _
  rw [List.take_append_drop]
  have h := parse_put 4 [] [] (putErr_zero.1 ka_err)
  rw [List.append_nil, parse_short (l := []) (by decide)] at h
  exact h

set_option maxHeartbeats 4000000 in
set_option maxRecDepth 100000 in
theorem alive_is (w : World) : Calls Try.prog 17 #[] w fun e w' => e = .returned (.bool true) ∧ Below w.heap.size w w' := by
  have hP1 := put_is w 4 none 0 0 [] (Rd.nil_ none) (by omega)
  unfold PutR at hP1
  rw [ka_err, ka_bytes, ka_len] at hP1
  have HP1 := Lib.hid hP1
  clear hP1
  go_enter Try.func17, Try.ntmps17
  go_wp2_with fail
  refine HP1.out.mono ?_
  rintro e w1 ⟨hB1, A, rfl, hF1⟩
  obtain ⟨i, rfl, hi, hby⟩ := fresh_at hF1 (by omega)
  have HB1 := Lib.hid hB1
  have HY1 := Lib.hid hby
  have HOk := Lib.hid hF1.1
  clear hB1 hF1 hby HP1
  go_wp2_with fail
  have hone : Byt (w1.alloc (.cells #[.int .u8 1] 5)) w1.heap.size 5 [1] := byt_new w1 5 [1] _ rfl
  have hP2 := put_is (w1.alloc (.cells #[.int .u8 1] 5)) 4 (some ⟨w1.heap.size, 0, none⟩) 1 1 [1] (hone.rd_all (by unfold Oct; decide) hone.lt) (by omega)
  unfold PutR at hP2
  rw [ka_err5, ka_bytes5] at hP2
  have HP2 := Lib.hid hP2
  have HB1' := Lib.hid (HB1.out.alloc HB1.out.size (.cells #[.int .u8 1] 5))
  have HY1' : Hid (Byt (w1.alloc (.cells #[.int .u8 1] 5)) i 5 kaL) := Lib.hid (HY1.out.alloc _)
  clear hone hP2 HY1 HB1
  refine HP2.out.mono ?_
  clear HP2
  generalize w1.alloc (.cells #[.int .u8 1] 5) = wa at *
  rintro e w2 ⟨hB2, A2, rfl, _⟩
  have HB2 := Lib.hid (HB1'.out.trans (hB2.mono HB1'.out.size))
  have HY2 : Hid (Byt w2 i 5 kaL) := Lib.hid (HY1'.out.below hB2 HY1'.out.lt)
  clear hB2 HB1' HY1'
  go_wp2_with fail
  refine (newS_is w2).mono ?_
  rintro e w3 ⟨rfl, hs3, hB3, hz3⟩
  have HB3 := Lib.hid (HB2.out.trans (hB3.mono HB2.out.size))
  have HY3 : Hid (Byt w3 i 5 kaL) := Lib.hid (HY2.out.below hB3 HY2.out.lt)
  have HS3 := Lib.hid (waiting_new hs3)
  have hi2 : i < w2.heap.size := HY2.out.lt
  have hw2 := HB2.out.size
  clear hs3 hB3 hz3 HB2 HY2
  generalize w2.heap.size = g at *
  go_wp2_with fail
  have hng : ∀ b off, (some ⟨i, 0, none⟩ : Option Addr) = some ⟨b, off, none⟩ → b ≠ g ∧ some b ≠ (none : Option Nat) := fun b off e => by
    injection e with e
    injection e with e
    exact ⟨by omega, by simp⟩
  have hF := feed_is w3 g none [] (kaL.take 10) (some ⟨i, 0, none⟩) 19 HS3.out (by have h := HY3.out.rd HOk.out (k := 10) (B := w3.heap.size) (by decide) HY3.out.lt; exact h) (by decide) hng (by decide)
  unfold Fed at hF
  rw [ka_feed1, show (kaL.take 10).length = 10 from by decide] at hF
  refine hF.mono ?_
  clear hF
  rintro e w4 ⟨v, q4, d4, rfl, ht, hs, ha, _, hf, _⟩
  obtain ⟨A4, c4, rfl, _⟩ := told_msr ht
  have HS4 : Hid (Waiting w4 g q4 (kaL.take 10)) := Lib.hid hs
  have HB4 : Hid (Below w.heap.size w w4) := Lib.hid (HB3.out.trans (hf.below HB3.out.size hw2 (fun i e => by cases e)))
  have HY4 : Hid (Byt w4 i 5 kaL) := Lib.hid ((hf.block i HY3.out.lt (by omega) (by simp)).trans HY3.out)
  have HA4 : Hid (some i ≠ q4) := Lib.hid (by
    have := HY3.out.lt
    rcases ha with rfl | rfl | ⟨j, rfl, hj⟩
    · simp
    · simp
    · intro e; injection e with e; omega)
  have HQ4 : Hid (∀ j, q4 = some j → w.heap.size ≤ j) := Lib.hid (by
    have := HB3.out.size
    rcases ha with rfl | rfl | ⟨j, rfl, hj⟩
    · intro j e; cases e
    · intro j e; cases e
    · intro k e; injection e with e; omega)
  clear ht hs ha hf HY3 HS3 hng HB3
  go_wp2_with fail
  have hW := waits_any w4 g q4 none (.wait (kaL.take 10)) HS4.out
  rw [show waitsN (.wait (kaL.take 10)) = 10 from by decide] at hW
  refine hW.mono ?_
  clear hW
  rintro e w' ⟨rfl, rfl⟩
  go_wp2_with fail
  have hng : ∀ b off, (some ⟨i, 10, none⟩ : Option Addr) = some ⟨b, off, none⟩ → b ≠ g ∧ some b ≠ q4 := fun b off e => by
    injection e with e
    injection e with e
    subst e
    exact ⟨by omega, HA4.out⟩
  have hrd : Rd w4 w4.heap.size (some ⟨i, 10, none⟩) (kaL.drop 10).length (kaL.drop 10) := by
    have h := (HY4.out.rd_all (B := w4.heap.size) HOk.out HY4.out.lt).cut (k := 10) (m := 9) (c := 19) (by decide) (by decide)
    rw [if_neg (by decide), show (kaL.drop 10).take 9 = kaL.drop 10 from by decide] at h
    exact h
  have hF := feed_is w4 g q4 (kaL.take 10) (kaL.drop 10) (some ⟨i, 10, none⟩) 9 HS4.out hrd (by decide) hng (by decide)
  unfold Fed at hF
  rw [ka_feed2, show (kaL.drop 10).length = 9 from by decide] at hF
  refine hF.mono ?_
  clear hF hrd
  rintro e w5 ⟨v, q5, d5, rfl, ht, hs, ha, _, hf, _⟩
  obtain ⟨A5, c5, rfl, hm5⟩ := told_msr ht
  obtain ⟨b5, off5, A6, n6, c6, rfl, x0, _, _⟩ := hm5.at_ (k := 0) (by decide)
  have x0' : w5.cell? ⟨b5, off5, none⟩ = some (.int .i64 4) := x0
  have HS5 : Hid (Waiting w5 g q5 []) := Lib.hid hs
  have HB5 : Hid (Below w.heap.size w w5) := Lib.hid (HB4.out.trans (hf.below HB4.out.size hw2 HQ4.out))
  clear ht hs ha hf HY4 HS4 hng HB4 x0 hm5 HA4 HQ4
  go_wp2_with fail
  refine (waits_any w5 g q5 none (.wait []) HS5.out).mono ?_
  rintro e w' ⟨rfl, rfl⟩
  go_wp2
  go_ret
  exact ⟨rfl, HB5.out⟩
end Go.Proofs.Ytoiigalaijnoeaa
