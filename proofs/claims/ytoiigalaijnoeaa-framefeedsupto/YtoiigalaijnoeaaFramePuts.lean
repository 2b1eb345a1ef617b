/-
  FramePuts: the walk.
-/
import Derived.Test.YtoiigalaijnoeaaFrP
namespace Go.Proofs.Ytoiigalaijnoeaa
open Go.RowKit
set_option linter.unusedSimpArgs false
set_option linter.unusedVariables false

theorem spoil_fresh (lo : Nat) (w : World) (A : Option Addr) (n c : Nat) (l : List Int) (h : Fresh lo w A n l) (hlo : lo ≤ w.heap.size) (hm : n ≤ 281474976710656) :
    Calls Try.prog 15 #[.slice A n c] w fun e w' => e = .returned (.tuple #[]) ∧ Below lo w w' := by
  obtain ⟨ho, hl, rfl | ⟨g, rfl, hg, hb⟩⟩ := h
  · refine (spoil_none w A c).mono ?_
    rintro e w' ⟨rfl, rfl⟩
    exact ⟨rfl, Below.refl _ _⟩
  · refine (spoil_row w g n c n ⟨l, hb, ho, hl⟩ (Nat.le_refl _) hm).mono ?_
    rintro e w' ⟨rfl, _, hgr⟩
    exact ⟨rfl, (Below.refl lo w).grown hgr hlo (by rintro i hi; injection hi with hi; omega)⟩

set_option maxHeartbeats 4000000 in
set_option maxRecDepth 100000 in
theorem framePuts_walk (w : World) (k : Int) (A : Option Addr) (n c : Nat) (l : List Int) (wk : (Lit.int .i64 k).wf = true) (hr : Rd w w.heap.size A n l) (hm : n ≤ 140737488351232) :
    Calls Try.prog 3 #[.agg #[.int .i64 k, .slice A n c]] w fun e w' => e = .returned (.bool true) ∧ Below w.heap.size w w' := by
  have hB0 : Below w.heap.size w (w.alloc (.cells #[.int .i64 k, .slice A n c] 24)) := (Below.refl _ _).alloc (Nat.le_refl _) _
  have HB0 := Lib.hid hB0
  have HM0 := Lib.hid (Blk.new w 24 #[.int .i64 k, .slice A n c])
  have HR0 := Lib.hid ((hr.below hB0).more hB0.size)
  have HR := Lib.hid hr
  have hlen := Lib.hid hr.len
  have hpl : (putBytes k l).length ≤ 281474976710656 := by
    unfold putBytes
    split
    · rename_i h
      have := (putErr_zero.1 h).2.2
      have := mostI_bd k
      rw [putL_len]
      omega
    · simp
  clear hr wk hB0
  go_enter Try.func3, Try.ntmps3
  go_wp2_with fail
  have hg0 : w.heap.size < (w.alloc (.cells #[.int .i64 k, .slice A n c] 24)).heap.size := by simp
  generalize w.alloc (.cells #[.int .i64 k, .slice A n c] 24) = w1 at *
  refine (lent_is w1 A n c l HR0.out (by omega)).mono ?_
  rintro e w2 ⟨rfl, hby2, hb2⟩
  have HB2 := Lib.hid (HB0.out.trans (hb2.mono HB0.out.size))
  have hm2 := HM0.out.below hb2 hg0
  have c0 : w2.cell? ⟨w.heap.size, 0, none⟩ = some (.int .i64 k) := hm2.cell 0
  have HY2 := Lib.hid hby2
  have HM2 := Lib.hid hm2
  have HRo : Hid (Rd w2 w2.heap.size (some ⟨w1.heap.size, 0, none⟩) n l) := Lib.hid (by
    have h := hby2.rd (k := n) (B := w2.heap.size) (oct_app HR.out.oct (by unfold Oct; decide)) (by simp [hlen.out]) hby2.lt
    rwa [List.take_append_of_le_length (by rw [hlen.out]; exact Nat.le_refl _), List.take_of_length_le (by rw [hlen.out]; exact Nat.le_refl _)] at h)
  clear hby2 hb2 hm2 HM0 HB0 HR0
  generalize w1.heap.size = go at *
  go_wp2_with fail
  refine (put_is w2 k (some ⟨go, 0, none⟩) n (n + 2) l HRo.out (by omega)).mono ?_
  rintro e w3 ⟨hb3, A3, rfl, hf3⟩
  have HB3 := Lib.hid (HB2.out.trans (hb3.mono HB2.out.size))
  have hm3 := HM2.out.below hb3 HM2.out.lt
  have d0 : w3.cell? ⟨w.heap.size, 0, none⟩ = some (.int .i64 k) := hm3.cell 0
  have d1 : w3.cell? ⟨w.heap.size, 1, none⟩ = some (.slice A n c) := hm3.cell 1
  have HY3 : Hid (Byt w3 go 5 (l ++ [165, 90])) := Lib.hid (HY2.out.below hb3 HY2.out.lt)
  have HM3 := Lib.hid hm3
  have HF3 := Lib.hid hf3
  have HZ3 : Hid (go < w2.heap.size ∧ w.heap.size ≤ w2.heap.size ∧ w2.heap.size ≤ w3.heap.size) := Lib.hid ⟨HY2.out.lt, HB2.out.size, hb3.size⟩
  clear hb3 hm3 hf3 c0 HY2 HM2 HRo HB2
  go_wp2_with fail
  refine (rput_is w3 k A n c l ((HR.out.below HB3.out).more HB3.out.size) (by omega)).mono ?_
  rintro e w4 ⟨hb4, A4, c4, rfl, hr4⟩
  have HB4 := Lib.hid (HB3.out.trans (hb4.mono HB3.out.size))
  have hm4 := HM3.out.below hb4 HM3.out.lt
  have e0 : w4.cell? ⟨w.heap.size, 0, none⟩ = some (.int .i64 k) := hm4.cell 0
  have HM4 := Lib.hid hm4
  have HY4 : Hid (Byt w4 go 5 (l ++ [165, 90])) := Lib.hid (HY3.out.below hb4 HY3.out.lt)
  have HF4 : Hid (Fresh w2.heap.size w4 A3 (putBytes k l).length (putBytes k l)) := Lib.hid (HF3.out.keep fun i _ hi => hb4.block i hi)
  have HR4 := Lib.hid hr4
  have HZ4 : Hid (w2.heap.size ≤ w4.heap.size) := Lib.hid (Nat.le_trans HZ3.out.2.2 hb4.size)
  clear hb4 hm4 hr4 d0 d1 HY3 HF3 HB3 HM3
  go_wp2_with fail
  refine (least_is w4 k).mono ?_
  rintro e w' ⟨rfl, rfl⟩
  go_wp2_with fail
  refine (rleast_is w4 k).mono ?_
  rintro e w' ⟨rfl, rfl⟩
  have t1 : (putErr k l.length != putErr k l.length) = false := by simp
  have t2 : (leastI k != leastI k) = false := by simp
  have t3 : (mostI k != mostI k) = false := by simp
  have HSame := Lib.hid (same_is w4 w4.heap.size A3 A4 (putBytes k l).length (putBytes k l).length (putBytes k l).length c4 (putBytes k l) (putBytes k l) HF4.out.rd HR4.out true (by simp))
  have HSp := Lib.hid (spoil_fresh w2.heap.size w4 A3 (putBytes k l).length (putBytes k l).length (putBytes k l) HF4.out HZ4.out hpl)
  clear hpl HR4 HF4
  generalize (putBytes k l).length = pl at *
  generalize putErr k l.length = er at *
  generalize leastI k = la at *
  generalize mostI k = mo at *
  go_wp2_with fail
  refine HSame.out.mono ?_
  rintro e w' ⟨rfl, rfl⟩
  go_wp2_with fail
  refine HSp.out.mono ?_
  rintro e w5 ⟨rfl, hb5⟩
  have HB5 : Hid (Below w.heap.size w w5) := Lib.hid (HB4.out.trans (hb5.mono HZ3.out.2.1))
  have hm5 : Blk w5 w.heap.size 24 #[.int .i64 k, .slice A n c] := HM4.out.below hb5 (by have := HZ3.out; omega)
  have g1 : w5.cell? ⟨w.heap.size, 1, none⟩ = some (.slice A n c) := hm5.cell 1
  have HY5 : Hid (Byt w5 go 5 (l ++ [165, 90])) := Lib.hid (HY4.out.below hb5 HZ3.out.1)
  clear hb5 hm5 e0 HSame HSp HB4 HM4 HY4
  go_wp2_with fail
  refine (kept_is w5 go w.heap.size A n c l HY5.out (HR.out.below HB5.out) (by omega)).mono ?_
  rintro e w' ⟨rfl, rfl⟩
  go_wp2_with fail
  refine (alive_is w5).mono ?_
  rintro e w7 ⟨rfl, hb7⟩
  have HB7 := Lib.hid (HB5.out.trans (hb7.mono HB5.out.size))
  clear hb7 HB5 HY5 g1
  go_wp2
  go_ret
  exact ⟨rfl, HB7.out⟩
end Go.Proofs.Ytoiigalaijnoeaa
