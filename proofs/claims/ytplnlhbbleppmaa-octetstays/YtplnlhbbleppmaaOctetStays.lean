/-
  OctetStays: its walk: for every input the law returns true, and nothing that was there has turned.
-/
import Derived.Test.YtplnlhbbleppmaaOctH
import Derived.Test.YtplnlhbbleppmaaOctF
namespace Go.Proofs.Ytplnlhbbleppmaa
open Go.RowKit

def Counted (w : World) (most : Int) (e : Ending) (w' : World) : Prop := ∃ k : Nat, e = .returned (.int .i64 k) ∧ (k : Int) < most ∧ w = w'

set_option maxHeartbeats 400000 in
theorem count_is (w : World) (n most : Int) (h1 : 1 ≤ most) (hm : most < 4611686018427387904) (_ : -9223372036854775808 ≤ n ∧ n < 9223372036854775808) :
    Calls Try.prog 26 #[.int .i64 n, .int .i64 most] w (Counted w most) := by
  have hx : -most < n.tmod most ∧ n.tmod most < most := by
    have h2 := Int.tmod_lt_of_pos n (show 0 < most by omega)
    have h3 := Int.lt_tmod_of_pos n (show 0 < most by omega)
    exact ⟨h3, h2⟩
  have hne : (most == 0) = false := by simp; omega
  go_enter Try.func26, Try.ntmps26
  go_wp2
  all_goals go_ret
  · exact ⟨(n.tmod most + most).toNat, by rw [Int.toNat_of_nonneg (by omega)]; rfl, by omega, rfl⟩
  · exact ⟨(n.tmod most).toNat, by rw [Int.toNat_of_nonneg (by assumption)]; rfl, by omega, rfl⟩

set_option maxHeartbeats 1000000 in
theorem octetStays_walk (w : World) (A : Option Addr) (m c : Nat) (l : List Int) (at0 more : Int) (A3 : Option Addr) (n3 c3 : Nat) (xs : List (Int × Int)) (hr : Rd w w.heap.size A m l) (hm : m ≤ 140737488351232)
    (h1 : (Lit.int .i64 at0).wf = true) (h2 : (Lit.int .i64 more).wf = true) (hx : Rec2 w w.heap.size A3 n3 xs) (hn3 : n3 * 16 ≤ 140737488351232) :
    Calls Try.prog 6 #[.slice A m c, .int .i64 at0, .int .i64 more, .slice A3 n3 c3] w fun e w' => e = .returned (.bool true) ∧ Below w.heap.size w w' := by
  have Hw1 := Lib.hid (wf_i64 h1)
  have hm2 := wf_i64 h2
  have Hx := Lib.hid hx
  have Hr := Lib.hid hr
  obtain rfl := hr.len
  obtain rfl := hx.len
  clear h1 h2 hx hr
  go_enter Try.func6, Try.ntmps6
  go_wp2_with fail
  refine (new_is w A _ c l Hr.out (by omega)).mono ?_
  rintro e w1 ⟨g, rfl, hg, hcur, hB⟩
  have Hg := Lib.hid hg
  have Hcur := Lib.hid hcur
  have HB := Lib.hid hB
  clear hg hcur hB
  go_wp2_with fail
  refine (count_is w1 at0 ((l.length : Int) + 1) (by omega) (by omega) Hw1.out).mono ?_
  rintro e w2 ⟨at1, rfl, hat, rfl⟩
  have hat1 : at1 ≤ l.length := by omega
  have e1 : stepAt l 0 0 at1 = at1 := by unfold stepAt; rw [if_pos (by omega)]; simp
  have e2 : stepErr l 0 0 at1 = 0 := by unfold stepErr; rw [if_pos rfl, if_neg (by omega), if_neg (by omega)]
  have E1 := Lib.hid e1
  have E2 := Lib.hid e2
  clear hat e1 e2
  go_wp2_with fail
  refine (skip_is w1 g l 0 0 at1 Hcur.out).mono ?_
  rintro e w2 ⟨rfl, hcur, hon⟩
  rw [E1.out, E2.out] at hcur
  have Hcur2 := Lib.hid hcur
  have HB2 := Lib.hid (below_only HB.out hon HB.out.size (fun k hk => by cases hk; exact Hg.out))
  clear hcur hon HB Hcur E1 E2
  go_wp2_with fail
  refine (err_is w2 g l at1 0 Hcur2.out).mono ?_
  rintro e w3 ⟨rfl, rfl⟩
  go_wp2_with fail
  refine (at_is w2 g l at1 0 Hcur2.out).mono ?_
  rintro e w3 ⟨rfl, rfl⟩
  have hnn : ((at1 : Int) != (at1 : Int)) = false := by simp
  by_cases hfree : 0 ≤ more ∧ more ≤ (l.length : Int) - at1
  · obtain ⟨hf1, hf2⟩ := hfree
    go_wp2_with fail
    refine (alive_is w2).mono ?_
    rintro e w4 ⟨rfl, hB4⟩
    have HB4 := Lib.hid hB4
    clear hB4
    go_wp2
    go_ret
    exact ⟨rfl, HB2.out.trans (HB4.out.mono HB2.out.size)⟩
  · obtain ⟨er, hE, hne, ht⟩ : ∃ er, stepErr l at1 0 more = er ∧ er ≠ 0 ∧ ((more < 0 ∧ (er != 2) = false) ∨ ((l.length : Int) - at1 < more ∧ (er != 3) = false)) := by
      by_cases hneg : more < 0
      · exact ⟨2, by unfold stepErr; rw [if_pos rfl, if_pos hneg], by decide, .inl ⟨hneg, by decide⟩⟩
      · exact ⟨3, by unfold stepErr; rw [if_pos rfl, if_neg hneg, if_pos (by omega)], by decide, .inr ⟨by omega, by decide⟩⟩
    have hA : stepAt l at1 0 more = at1 := by unfold stepAt; rw [if_neg (by omega)]
    have HA := Lib.hid hA
    have HE := Lib.hid hE
    have HN := Lib.hid hne
    have hee : (er != er) = false := by simp
    clear hfree hA hE hne
    rcases ht with ⟨hmore, ht⟩ | ⟨hmore, ht⟩
    all_goals
      go_wp2_with fail
      refine (skip_is w2 g l at1 0 more Hcur2.out).mono ?_
      rintro e w4 ⟨rfl, hcur, hon⟩
      rw [HA.out, HE.out] at hcur
      have Hcur4 := Lib.hid hcur
      have HB4 := Lib.hid (below_only HB2.out hon HB2.out.size (fun k hk => by cases hk; exact Hg.out))
      clear hcur hon HB2 Hcur2 HA HE
      go_wp2_with fail
      refine (err_is w4 g l at1 er Hcur4.out).mono ?_
      rintro e w5 ⟨rfl, rfl⟩
      go_wp2
      go_loopw [12, 66] (fun _ i wr => ∃ k : Nat, k ≤ xs.length ∧ i = .int .i64 k ∧ IsCur wr g l at1 er ∧ Below w.heap.size w wr) (fun _ i _ => xs.length - (intOf i).toNat)
      case atStart => exact ⟨0, Nat.zero_le _, rfl, Hcur4.out, HB4.out⟩
      case round =>
        obtain ⟨k, hk, rfl, hcur, hB⟩ := hrel
        have HC := Lib.hid hcur
        have HD := Lib.hid hB
        clear hcur hB
        by_cases hlt : k < xs.length
        · obtain ⟨b, off, rfl, hb, hc⟩ := (Hx.out.below HD.out).at_ (by omega)
          obtain ⟨hc0, hc1⟩ := hc k hlt
          generalize xs[k].1 = q0 at *
          generalize xs[k].2 = q1 at *
          clear hc Hcur4 HB4 Hr Hw1
          have Hk : Hid (IsCur (wr.alloc (.cells #[.int .i64 q0, .int .i64 q1] 38)) g l at1 er) := HC.out.keep ((Below.refl _ _).alloc HC.out.lt _)
          have Hl : Hid (Below w.heap.size w (wr.alloc (.cells #[.int .i64 q0, .int .i64 q1] 38))) := HD.out.alloc HD.out.size _
          have Ho : Hid (Blk (wr.alloc (.cells #[.int .i64 q0, .int .i64 q1] 38)) wr.heap.size 38 #[.int .i64 q0, .int .i64 q1]) := Blk.new wr 38 _
          have Hgo : Hid (some wr.heap.size ≠ some g) := fun e => by injection e with e; have := HC.out.lt; omega
          have hll : ((l.length : Int) - at1 != (l.length : Int) - at1) = false := by simp
          clear HC HD
          by_cases h1 : q0 = 1
          · subst h1
            go_wp2_with fail
            refine (num_is _ g l at1 er q1 Hk.out).mono ?_
            generalize wr.alloc (.cells #[.int .i64 1, .int .i64 q1] 38) = wr1 at *
            rintro e w6 ⟨rfl, hcur, hon⟩
            rw [late_numAt _ _ _ _ HN.out, late_numErr _ _ _ _ HN.out] at hcur
            rw [late_num _ _ _ _ HN.out]
            have Hcur6 := Lib.hid hcur
            have HB6 := Lib.hid (below_only Hl.out hon Hl.out.size (fun k hk => by cases hk; exact Hg.out))
            have o0 : w6.cell? ⟨wr.heap.size, 0, none⟩ = some (.int .i64 1) := (Ho.out.grown hon Hgo.out).cell 0
            clear hcur hon Hk Hl Ho
            go_wp2_with fail
            refine (at_is w6 g l at1 er Hcur6.out).mono ?_
            rintro e w7 ⟨rfl, rfl⟩
            go_wp2_with fail
            refine (leftC_is w6 g l at1 er Hcur6.out).mono ?_
            rintro e w7 ⟨rfl, k7, rfl⟩
            go_wp2_with fail
            refine (err_is (w6.drewN k7) g l at1 er (Hcur6.out.drewN k7)).mono ?_
            rintro e w7 ⟨rfl, rfl⟩
            go_wp2
            exact ⟨⟨k + 1, by omega, by go_num, Hcur6.out.drewN k7, below_drewN HB6.out k7⟩, by simp [intOf]; omega⟩
          · have h1' : (q0 == 1) = false := by simpa using h1
            clear h1
            by_cases h2 : q0 = 2
            · subst h2
              go_wp2_with fail
              refine (take_is _ g l at1 er q1 Hk.out).mono ?_
              generalize wr.alloc (.cells #[.int .i64 2, .int .i64 q1] 38) = wr1 at *
              rintro e w6 ⟨A6, rfl, hn6, hcur, hon⟩
              rw [late_at _ _ _ _ HN.out, late_err _ _ _ _ HN.out] at hcur
              rw [late_took _ _ _ _ HN.out]
              have Hcur6 := Lib.hid hcur
              have HB6 := Lib.hid (below_only Hl.out hon Hl.out.size (fun k hk => by cases hk; exact Hg.out))
              clear hcur hon Hk Hl Ho hn6
              go_wp2_with fail
              refine (at_is w6 g l at1 er Hcur6.out).mono ?_
              rintro e w7 ⟨rfl, rfl⟩
              go_wp2_with fail
              refine (leftC_is w6 g l at1 er Hcur6.out).mono ?_
              rintro e w7 ⟨rfl, k7, rfl⟩
              go_wp2_with fail
              refine (err_is (w6.drewN k7) g l at1 er (Hcur6.out.drewN k7)).mono ?_
              rintro e w7 ⟨rfl, rfl⟩
              go_wp2
              exact ⟨⟨k + 1, by omega, by go_num, Hcur6.out.drewN k7, below_drewN HB6.out k7⟩, by simp [intOf]; omega⟩
            · have h2' : (q0 == 2) = false := by simpa using h2
              clear h2
              go_wp2_with fail
              refine (at_is _ g l at1 er Hk.out).mono ?_
              generalize wr.alloc (.cells #[.int .i64 q0, .int .i64 q1] 38) = wr1 at *
              rintro e w7 ⟨rfl, rfl⟩
              go_wp2_with fail
              refine (leftC_is wr1 g l at1 er Hk.out).mono ?_
              rintro e w7 ⟨rfl, k7, rfl⟩
              go_wp2_with fail
              refine (err_is (wr1.drewN k7) g l at1 er (Hk.out.drewN k7)).mono ?_
              rintro e w7 ⟨rfl, rfl⟩
              go_wp2
              exact ⟨⟨k + 1, by omega, by go_num, Hk.out.drewN k7, below_drewN Hl.out k7⟩, by simp [intOf]; omega⟩
        · go_wp2_with fail
          refine (alive_is wr).mono ?_
          rintro e w6 ⟨rfl, hB6⟩
          have HB6 := Lib.hid hB6
          clear hB6
          go_wp2
          go_ret
          exact ⟨rfl, HD.out.trans (HB6.out.mono HD.out.size)⟩
end Go.Proofs.Ytplnlhbbleppmaa
