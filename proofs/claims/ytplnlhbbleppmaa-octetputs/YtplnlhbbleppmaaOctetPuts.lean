/-
  OctetPuts: its walk: for every slice of bytes, number and size the law returns true, and nothing that was there has turned.
-/
import Derived.Test.YtplnlhbbleppmaaOctH
import Derived.Test.YtplnlhbbleppmaaOctF
namespace Go.Proofs.Ytplnlhbbleppmaa
open Go.RowKit

set_option maxHeartbeats 1000000 in
theorem octetPuts_main (w : World) (A : Option Addr) (m c : Nat) (l : List Int) (n size : Int) (hr : Rd w w.heap.size A m l) (hm : m ≤ 140737488351232) (hn : 0 ≤ n) (hn2 : n < 18446744073709551616) :
    Calls Try.prog 3 #[.slice A m c, .int .u64 n, .int .i64 size] w fun e w' => e = .returned (.bool true) ∧ Below w.heap.size w w' := by
  have H := Lib.hid hr
  have hlen := Lib.hid hr.len
  clear hr
  go_enter Try.func3, Try.ntmps3
  go_wp2_with fail
  refine (lent_is w A m c l H.out (by omega)).mono ?_
  rintro e w1 ⟨rfl, hb1, hB1⟩
  have Hb1 := Lib.hid hb1
  have HB1 := Lib.hid hB1
  clear hb1 hB1
  go_wp2_with fail
  have hr1 : Rd w1 w1.heap.size (some ⟨w.heap.size, 0, none⟩) m l := by
    have hoct := H.out.oct
    have := Hb1.out.rd (B := w1.heap.size) (k := m) (by
      intro x hx
      rcases List.mem_append.1 hx with hx | hx
      · exact hoct x hx
      · simp at hx; omega) (by simp [hlen.out]) Hb1.out.lt
    rwa [← hlen.out, List.take_left, hlen.out] at this
  have Hr1 := Lib.hid hr1
  clear hr1
  refine (put_is w1 (some ⟨w.heap.size, 0, none⟩) m (m + 2) l n size Hr1.out (by omega) hn hn2).mono ?_
  rintro e w2 ⟨hB2, he⟩
  have HB2 := Lib.hid hB2
  clear hB2
  have hr2 : Rd w2 w.heap.size A m l := (H.out.below HB1.out).below (HB2.out.mono HB1.out.size)
  have hb12 : Byt w2 w.heap.size 5 (l ++ [165, 90]) := Hb1.out.below HB2.out Hb1.out.lt
  have hB02 : Below w.heap.size w w2 := HB1.out.trans (HB2.out.mono HB1.out.size)
  have Hr2 := Lib.hid hr2
  have Hb12 := Lib.hid hb12
  have HB02 := Lib.hid hB02
  have hg1 := Lib.hid Hb1.out.lt
  clear hr2 hb12 hB02 Hb1 HB1 Hr1 H
  by_cases hfit : 1 ≤ size ∧ size ≤ 8 ∧ n < 256 ^ size.toNat
  · rw [if_pos hfit] at he
    obtain ⟨rfl, hb2⟩ := he
    have Hb2 := Lib.hid hb2
    have Hfit := Lib.hid hfit
    clear hb2 hfit
    go_wp2_with fail
    refine (rput_is w2 A m c l n size (Hr2.out.more HB02.out.size) (by omega) hn hn2).mono ?_
    rintro e w3 ⟨hB3, he⟩
    rw [if_pos Hfit.out] at he
    obtain ⟨rfl, hb3⟩ := he
    have HB3 := Lib.hid hB3
    have Hb3 := Lib.hid hb3
    have hoct : Oct (l ++ be size.toNat n) := by
      have ho := Hr2.out.oct
      intro x hx
      rcases List.mem_append.1 hx with hx | hx
      · exact ho x hx
      · exact be_oct _ _ x hx
    have Hoct := Lib.hid hoct
    have hx3 : Byt w3 w1.heap.size 5 (l ++ be size.toNat n) := Hb2.out.below HB3.out Hb2.out.lt
    have Hx3 := Lib.hid hx3
    have hlen2 : (l ++ be size.toNat n).length = l.length + size.toNat := by simp [be_len]
    have Hlen2 := Lib.hid hlen2
    clear hB3 hb3 hoct hx3 hlen2
    go_wp2_with fail
    refine (same_is w3 w3.heap.size _ _ _ _ _ _ (l ++ be size.toNat n) (l ++ be size.toNat n) (by have h := Hx3.out.rd_all Hoct.out Hx3.out.lt; rwa [Hlen2.out] at h) (by have h := Hb3.out.rd_all Hoct.out Hb3.out.lt; rwa [Hlen2.out] at h) true (by simp)).mono ?_
    rintro e w4 ⟨rfl, rfl⟩
    go_wp2_with fail
    refine (spoil_row w3 w1.heap.size (l.length + size.toNat) (l.length + size.toNat) (l.length + size.toNat) ⟨_, Hx3.out, Hoct.out, Hlen2.out⟩ (Nat.le_refl _) (by have := hlen.out; have := Hfit.out; omega)).mono ?_
    rintro e w4 ⟨rfl, _, hg4⟩
    have hB03 : Below w.heap.size w w3 := HB02.out.trans (HB3.out.mono HB02.out.size)
    have hB04 : Below w.heap.size w w4 := below_only hB03 hg4 hB03.size (fun k hk => by cases hk; exact Nat.le_of_lt hg1.out)
    have hr4 : Rd w4 w.heap.size A m l := (Hr2.out.below (HB3.out.mono HB02.out.size)).grown hg4 hB03.size (fun k hk => by cases hk; exact Nat.le_of_lt hg1.out)
    have hb4 : Byt w4 w.heap.size 5 (l ++ [165, 90]) := (Hb12.out.below HB3.out Hb12.out.lt).grown hg4 (fun e => by injection e with e; have := hg1.out; omega)
    have HB04 := Lib.hid hB04
    have Hr4 := Lib.hid hr4
    have Hb4 := Lib.hid hb4
    clear hB03 hB04 hr4 hb4 hg4
    go_wp2_with fail
    refine (kept_is w4 w.heap.size w.heap.size A m c l Hb4.out Hr4.out (by omega)).mono ?_
    rintro e w5 ⟨rfl, rfl⟩
    go_wp2_with fail
    refine (alive_is w4).mono ?_
    rintro e w5 ⟨rfl, hB5⟩
    have HB5 := Lib.hid hB5
    clear hB5
    go_wp2
    go_ret
    exact ⟨rfl, HB04.out.trans (HB5.out.mono HB04.out.size)⟩
  · rw [if_neg hfit] at he
    subst he
    have Hfit := Lib.hid hfit
    clear hfit
    go_wp2_with fail
    refine (rput_is w2 A m c l n size (Hr2.out.more HB02.out.size) (by omega) hn hn2).mono ?_
    rintro e w3 ⟨hB3, he⟩
    rw [if_neg Hfit.out] at he
    subst he
    have HB3 := Lib.hid hB3
    clear hB3
    go_wp2_with fail
    refine (same_is w3 0 none none 0 0 0 0 [] [] (Rd.nil_ _) (Rd.nil_ _) true (by simp)).mono ?_
    rintro e w4 ⟨rfl, rfl⟩
    go_wp2_with fail
    refine (spoil_none w3 none 0).mono ?_
    rintro e w4 ⟨rfl, rfl⟩
    go_wp2_with fail
    refine (kept_is w3 w.heap.size w.heap.size A m c l (Hb12.out.below HB3.out Hb12.out.lt) (Hr2.out.below (HB3.out.mono HB02.out.size)) (by omega)).mono ?_
    rintro e w5 ⟨rfl, rfl⟩
    go_wp2_with fail
    refine (alive_is w3).mono ?_
    rintro e w5 ⟨rfl, hB5⟩
    have HB5 := Lib.hid hB5
    clear hB5
    go_wp2
    go_ret
    have hB03 : Below w.heap.size w w3 := HB02.out.trans (HB3.out.mono HB02.out.size)
    exact ⟨rfl, hB03.trans (HB5.out.mono hB03.size)⟩

theorem octetPuts_walk (w : World) (A : Option Addr) (m c : Nat) (l : List Int) (n size : Int) (hr : Rd w w.heap.size A m l) (hm : m ≤ 140737488351232) (hn : (Lit.int .u64 n).wf = true) (_ : (Lit.int .i64 size).wf = true) :
    Calls Try.prog 3 #[.slice A m c, .int .u64 n, .int .i64 size] w fun e w' => e = .returned (.bool true) ∧ Below w.heap.size w w' :=
  octetPuts_main w A m c l n size hr hm (wf_u64 hn).1 (wf_u64 hn).2
end Go.Proofs.Ytplnlhbbleppmaa
