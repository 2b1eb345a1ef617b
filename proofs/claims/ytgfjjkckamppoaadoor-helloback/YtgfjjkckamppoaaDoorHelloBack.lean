/-
  HelloBack's walk.
-/
import Derived.Test.YtgfjjkckamppoaaDoorHeN
import Derived.Test.YtgfjjkckamppoaaDoorHeP
namespace Go.Proofs.YtgfjjkckamppoaaDoor
open Go.RowKit
set_option maxRecDepth 100000
set_option linter.unusedSimpArgs false
set_option linter.unusedVariables false

theorem one_ft (W : World) (c s : Int) (A : Option Addr) (n k : Nat) : Blk ((W.alloc (.cells #[.int .i64 0, .int .i64 0, .slice none 0 0] 34)).setRow W.heap.size #[.int .i64 c, .int .i64 s, .slice A n k]) W.heap.size 34 #[.int .i64 c, .int .i64 s, .slice A n k] ∧
    Below W.heap.size W ((W.alloc (.cells #[.int .i64 0, .int .i64 0, .slice none 0 0] 34)).setRow W.heap.size #[.int .i64 c, .int .i64 s, .slice A n k]) :=
  ⟨Blk.setRow (Blk.new W 34 #[.int .i64 0, .int .i64 0, .slice none 0 0]) _, (below_one8 _ _).trans (below_setRow _ _ _ (Nat.le_refl _))⟩
set_option maxHeartbeats 4000000 in
theorem helloBack_walk (w : World) (E : EnvF w) (h : Hl) (c s : Int) (A : Option Addr) (n k : Nat) (l : List Int) (hk : HlOk h) (hr : Rd w w.heap.size A n l) (hsz : n ≤ 140737488351232) : Calls Tryd.prog 7 #[.agg (hlc h).toArray, .agg #[.int .i64 c, .int .i64 s, .slice A n k]] w (AliveP w) := by
  have hal := (below_one8 w (.cells (hlc h).toArray 24)).trans ((below_one8 (w.alloc (.cells (hlc h).toArray 24)) (.cells #[.int .i64 c, .int .i64 s, .slice A n k] 34)).mono (below_one8 _ _).size)
  have HX0 := Lib.hid ((Blk.new w 24 (hlc h).toArray).alloc (.cells #[.int .i64 c, .int .i64 s, .slice A n k] 34))
  have hf0 := Blk.new (w.alloc (.cells (hlc h).toArray 24)) 34 #[.int .i64 c, .int .i64 s, .slice A n k]
  rw [show (w.alloc (.cells (hlc h).toArray 24)).heap.size = w.heap.size + 1 by simp] at hf0
  have HF0 := Lib.hid hf0
  have HB0 := Lib.hid hal
  have HE0 := Lib.hid (E.below hal)
  have HR0 := Lib.hid (hr.up hal)
  have HK := Lib.hid hk
  have HPl : Hid (pfE c s l = 0 → (0 ≤ c ∧ c ≤ 255) ∧ (0 ≤ s ∧ s ≤ 255) ∧ l.length ≤ 4075) := Lib.hid (by
    intro hp
    unfold pfE at hp
    split at hp
    · cases hp
    · rename_i h1
      split at hp
      · cases hp
      · rename_i h2
        have h1 := Classical.not_not.1 h1
        exact ⟨h1.1, h1.2, by omega⟩)
  clear hal E hk hr hf0
  cases hrr : rightH h with
  | false =>
    have HBd : Hid (errH h = 2) := Lib.hid (by unfold errH; rw [if_neg (by rw [hrr]; decide)])
    clear hrr
    go_enter Tryd.func7, Tryd.ntmps7
    go_wp2_with (refine h_fetch rfl _ rfl w.heap.size h 24 rfl HX0.out ?_)
    refine (putH_is _ HE0.out h HK.out).mono ?_
    generalize ((w.alloc (.cells (hlc h).toArray 24)).alloc (.cells #[.int .i64 c, .int .i64 s, .slice A n k] 34)) = W1 at *
    rintro e W2 ⟨A2, n2, c2, rfl, _, _, _, hB⟩
    rw [HBd.out]
    have HB := Lib.hid (HB0.out.trans (hB.mono HB0.out.size))
    have HE := Lib.hid (HE0.out.below hB)
    have HF := Lib.hid (HF0.out.below hB HF0.out.lt)
    have HR := Lib.hid (HR0.out.up hB)
    clear hB HB0 HE0 HX0 HF0 HR0
    go_wp2_with (refine f_fetch rfl _ rfl (w.heap.size + 1) c s A n k 34 rfl HF.out ?_)
    refine (putf_is _ c s A n k l HR.out).mono ?_
    intro e Z2 ⟨Ap, np, kp, he, hnp, hkp, hrp, hB⟩
    subst he
    have HBb := Lib.hid (HB.out.trans (hB.mono HB.out.size))
    have HFb := Lib.hid (HF.out.below hB HF.out.lt)
    have HEb := Lib.hid (HE.out.below hB)
    have HRb := Lib.hid (HR.out.up hB)
    clear hB HB HF HE HR
    by_cases hpe : pfE c s l = 0
    · obtain ⟨hc1, hs1, hl1⟩ := HPl.out hpe
      have hpb : pfB c s l = c :: s :: l := by unfold pfB; rw [if_pos ⟨hc1, hs1, hl1⟩]
      rw [hpb] at hnp hrp
      rw [hpe]
      have hnp2 : np = l.length + 2 := by rw [hnp]; simp
      have HRp := Lib.hid hrp
      have HNp := Lib.hid hnp
      have hnl : np ≤ 4077 := by omega
      clear hnp hrp hpb hpe hc1 hs1 hl1 hnp2
      go_wp2_with fail
      refine (readf_is Z2 Ap np kp _ HRp.out hkp (by omega)).mono ?_
      rintro e Z3 ⟨hB, Aq, nq, kq, rfl, hx, hnq, hkq⟩
      have h0 : ¬ (c :: s :: l).length < 2 := by simp
      rw [if_neg h0, if_neg h0, if_neg h0]
      have hx2 : BodyX Z2 Z3 Aq l := hx
      have hnq2 : nq = l.length := hnq
      have g0 : (c :: s :: l).getD 0 0 = c := rfl
      have g1 : (c :: s :: l).getD 1 0 = s := rfl
      rw [g0, g1]
      have HX3 := Lib.hid hx2
      have HNq := Lib.hid hnq2
      have HBc := Lib.hid (HBb.out.trans (hB.mono HBb.out.size))
      have HFc := Lib.hid (HFb.out.below hB HFb.out.lt)
      have HEc := Lib.hid (HEb.out.below hB)
      have HRc := Lib.hid (HRb.out.up hB)
      clear hB hx hx2 hnq hnq2 g0 g1 HBb HFb HEb HRb HRp h0
      obtain ⟨h1, h2⟩ := one_ft Z3 c s Aq nq kq
      have H30 := Lib.hid (Blk.new Z3 34 #[.int .i64 0, .int .i64 0, .slice none 0 0])
      have HG4 := Lib.hid h1
      have HX4 := Lib.hid (HX3.out.below h2)
      have HBd := Lib.hid (HBc.out.trans (h2.mono HBc.out.size))
      have HFd := Lib.hid (HFc.out.below h2 HFc.out.lt)
      have HEd := Lib.hid (HEc.out.below h2)
      have HRd := Lib.hid (HRc.out.up h2)
      clear h1 h2 HBc HFc HEc HRc HX3
      go_wp2_with (first
        | (refine f_store rfl _ _ rfl Z3.heap.size c s Aq nq kq rfl rfl 34 _ H30.out rfl ?_)
        | (refine f_fetch rfl _ rfl Z3.heap.size c s Aq nq kq 34 rfl HG4.out ?_)
        | (refine f_fetch rfl _ rfl (w.heap.size + 1) c s A n k 34 rfl HFd.out ?_))
      have hq := HX4.out.rd
      rw [← HNq.out] at hq
      refine (alike_is _ c s c s Aq A nq n kq k l l hq HRd.out true (by simp)).mono ?_
      clear hq H30 HG4
      generalize ((Z3.alloc (.cells #[.int .i64 0, .int .i64 0, .slice none 0 0] 34)).setRow Z3.heap.size #[.int .i64 c, .int .i64 s, .slice Aq nq kq]) = Z4 at *
      generalize Z3.heap.size = gz at *
      rintro e Z5 ⟨rfl, hB⟩
      have HBe := Lib.hid (HBd.out.trans (hB.mono HBd.out.size))
      have HEe := Lib.hid (HEd.out.below hB)
      clear hB HBd HEd HFd HRd HX4
      have hnli : (np : Int) ≤ 4077 := by omega
      go_wp2_with fail
      refine (alive_is Z5 HEe.out).mono ?_
      rintro e Z6 ⟨rfl, hB⟩
      have HBf := Lib.hid (HBe.out.trans (hB.mono HBe.out.size))
      clear hB
      go_wp2
      go_ret
      exact ⟨rfl, HBf.out⟩
    · have e0 : (pfE c s l == 0) = false := by simpa using hpe
      clear hnp hrp hpe hkp
      generalize pfE c s l = pe at *
      go_wp2_with fail
      refine (alive_is Z2 HEb.out).mono ?_
      rintro e Z6 ⟨rfl, hB⟩
      have HBf := Lib.hid (HBb.out.trans (hB.mono HBb.out.size))
      clear hB
      go_wp2
      go_ret
      exact ⟨rfl, HBf.out⟩
  | true =>
    have HBd : Hid (errH h = 0 ∧ bodyH h = putB h) := Lib.hid (by unfold errH bodyH; rw [if_pos hrr, if_pos hrr]; exact ⟨rfl, rfl⟩)
    have HRead : Hid (readR (putB h) = .ok h) := Lib.hid (read_put HK.out hrr)
    have HLn := Lib.hid (putB_len h)
    have HLe := Lib.hid (parB_le h)
    clear hrr
    go_enter Tryd.func7, Tryd.ntmps7
    go_wp2_with (refine h_fetch rfl _ rfl w.heap.size h 24 rfl HX0.out ?_)
    refine (putH_is _ HE0.out h HK.out).mono ?_
    generalize ((w.alloc (.cells (hlc h).toArray 24)).alloc (.cells #[.int .i64 c, .int .i64 s, .slice A n k] 34)) = W1 at *
    rintro e W2 ⟨A2, n2, c2, rfl, hn2, hc2, hr2, hB⟩
    rw [HBd.out.1]
    rw [HBd.out.2] at hn2 hr2
    have hn10 : 10 ≤ n2 := by rw [hn2, HLn.out]; omega
    have hn26 : n2 ≤ 26 := by have := HLe.out; rw [hn2, HLn.out]; omega
    have HR2 := Lib.hid hr2
    have HB2 := Lib.hid (HB0.out.trans (hB.mono HB0.out.size))
    have HE2 := Lib.hid (HE0.out.below hB)
    have HF2 := Lib.hid (HF0.out.below hB HF0.out.lt)
    have HX2 := Lib.hid (HX0.out.below hB HX0.out.lt)
    have HRr2 := Lib.hid (HR0.out.up hB)
    clear hB HB0 HE0 HX0 hn2 hr2 HF0 HR0
    go_wp2_with fail
    refine (readH_is W2 HE2.out A2 n2 c2 _ HR2.out (by omega)).mono ?_
    rintro e W4 ⟨hB, hp⟩
    rw [HRead.out] at hp
    simp only at hp
    subst hp
    have HB4 := Lib.hid (HB2.out.trans (hB.mono HB2.out.size))
    have HE4 := Lib.hid (HE2.out.below hB)
    have HF4 := Lib.hid (HF2.out.below hB HF2.out.lt)
    have HX4 := Lib.hid (HX2.out.below hB HX2.out.lt)
    have HR4 := Lib.hid (HRr2.out.up hB)
    clear hB HB2 HE2 HR2 HF2 HX2 HRr2 HRead
    obtain ⟨h1, h2, h3⟩ := two_h W4 h 0 0 none 0 0
    have H40 := Lib.hid (two_h0 W4)
    have H41 := Lib.hid (two_h1 W4 h)
    have HG5 := Lib.hid h1
    have HK5 := Lib.hid h2
    have HB5 := Lib.hid (HB4.out.trans (h3.mono HB4.out.size))
    have HE5 := Lib.hid (HE4.out.below h3)
    have HF5 := Lib.hid (HF4.out.below h3 HF4.out.lt)
    have HX5 := Lib.hid (HX4.out.below h3 HX4.out.lt)
    have HR5 := Lib.hid (HR4.out.up h3)
    have he := h_neq h h HK.out HK.out true (by simp)
    clear h1 h2 h3 HB4 HE4 HF4 HX4 HR4
    go_wp2_with (first
      | (refine h_store rfl _ _ rfl W4.heap.size h rfl rfl 24 _ H40.out rfl ?_)
      | (refine f_store rfl _ _ rfl (W4.heap.size + 1) 0 0 none 0 0 rfl rfl 34 _ H41.out rfl ?_)
      | (refine h_fetch rfl _ rfl W4.heap.size h 24 rfl HG5.out ?_)
      | (refine h_fetch rfl _ rfl w.heap.size h 24 rfl HX5.out ?_)
      | (refine f_fetch rfl _ rfl (W4.heap.size + 1) 0 0 none 0 0 34 rfl HK5.out ?_))
    refine (alike_is _ 0 0 0 0 none none 0 0 0 0 [] [] (Rd.nil_ _) (Rd.nil_ _) true (by simp)).mono ?_
    clear H40 H41
    generalize ((((W4.alloc (.cells #[.int .u32 0, .int .i64 0, .int .u32 0, .bool false, .bool false, .bool false] 24)).alloc (.cells #[.int .i64 0, .int .i64 0, .slice none 0 0] 34)).setRow W4.heap.size (hlc h).toArray).setRow (W4.heap.size + 1) #[.int .i64 0, .int .i64 0, .slice none 0 0]) = W5 at *
    generalize W4.heap.size = g4 at *
    rintro e W6 ⟨rfl, hB⟩
    have HB := Lib.hid (HB5.out.trans (hB.mono HB5.out.size))
    have HE := Lib.hid (HE5.out.below hB)
    have HF := Lib.hid (HF5.out.below hB HF5.out.lt)
    have HR := Lib.hid (HR5.out.up hB)
    have hni : ¬ (n2 : Int) < 10 := by omega
    clear hB HB5 HE5 HF5 HX5 HR5 HG5 HK5
    go_wp2_with (refine f_fetch rfl _ rfl (w.heap.size + 1) c s A n k 34 rfl HF.out ?_)
    refine (putf_is _ c s A n k l HR.out).mono ?_
    intro e Z2 ⟨Ap, np, kp, he, hnp, hkp, hrp, hB⟩
    subst he
    have HBb := Lib.hid (HB.out.trans (hB.mono HB.out.size))
    have HFb := Lib.hid (HF.out.below hB HF.out.lt)
    have HEb := Lib.hid (HE.out.below hB)
    have HRb := Lib.hid (HR.out.up hB)
    clear hB HB HF HE HR
    by_cases hpe : pfE c s l = 0
    · obtain ⟨hc1, hs1, hl1⟩ := HPl.out hpe
      have hpb : pfB c s l = c :: s :: l := by unfold pfB; rw [if_pos ⟨hc1, hs1, hl1⟩]
      rw [hpb] at hnp hrp
      rw [hpe]
      have hnp2 : np = l.length + 2 := by rw [hnp]; simp
      have HRp := Lib.hid hrp
      have HNp := Lib.hid hnp
      have hnl : np ≤ 4077 := by omega
      clear hnp hrp hpb hpe hc1 hs1 hl1 hnp2
      go_wp2_with fail
      refine (readf_is Z2 Ap np kp _ HRp.out hkp (by omega)).mono ?_
      rintro e Z3 ⟨hB, Aq, nq, kq, rfl, hx, hnq, hkq⟩
      have h0 : ¬ (c :: s :: l).length < 2 := by simp
      rw [if_neg h0, if_neg h0, if_neg h0]
      have hx2 : BodyX Z2 Z3 Aq l := hx
      have hnq2 : nq = l.length := hnq
      have g0 : (c :: s :: l).getD 0 0 = c := rfl
      have g1 : (c :: s :: l).getD 1 0 = s := rfl
      rw [g0, g1]
      have HX3 := Lib.hid hx2
      have HNq := Lib.hid hnq2
      have HBc := Lib.hid (HBb.out.trans (hB.mono HBb.out.size))
      have HFc := Lib.hid (HFb.out.below hB HFb.out.lt)
      have HEc := Lib.hid (HEb.out.below hB)
      have HRc := Lib.hid (HRb.out.up hB)
      clear hB hx hx2 hnq hnq2 g0 g1 HBb HFb HEb HRb HRp h0
      obtain ⟨h1, h2⟩ := one_ft Z3 c s Aq nq kq
      have H30 := Lib.hid (Blk.new Z3 34 #[.int .i64 0, .int .i64 0, .slice none 0 0])
      have HG4 := Lib.hid h1
      have HX4 := Lib.hid (HX3.out.below h2)
      have HBd := Lib.hid (HBc.out.trans (h2.mono HBc.out.size))
      have HFd := Lib.hid (HFc.out.below h2 HFc.out.lt)
      have HEd := Lib.hid (HEc.out.below h2)
      have HRd := Lib.hid (HRc.out.up h2)
      clear h1 h2 HBc HFc HEc HRc HX3
      go_wp2_with (first
        | (refine f_store rfl _ _ rfl Z3.heap.size c s Aq nq kq rfl rfl 34 _ H30.out rfl ?_)
        | (refine f_fetch rfl _ rfl Z3.heap.size c s Aq nq kq 34 rfl HG4.out ?_)
        | (refine f_fetch rfl _ rfl (w.heap.size + 1) c s A n k 34 rfl HFd.out ?_))
      have hq := HX4.out.rd
      rw [← HNq.out] at hq
      refine (alike_is _ c s c s Aq A nq n kq k l l hq HRd.out true (by simp)).mono ?_
      clear hq H30 HG4
      generalize ((Z3.alloc (.cells #[.int .i64 0, .int .i64 0, .slice none 0 0] 34)).setRow Z3.heap.size #[.int .i64 c, .int .i64 s, .slice Aq nq kq]) = Z4 at *
      generalize Z3.heap.size = gz at *
      rintro e Z5 ⟨rfl, hB⟩
      have HBe := Lib.hid (HBd.out.trans (hB.mono HBd.out.size))
      have HEe := Lib.hid (HEd.out.below hB)
      clear hB HBd HEd HFd HRd HX4
      have hnli : (np : Int) ≤ 4077 := by omega
      go_wp2_with fail
      refine (alive_is Z5 HEe.out).mono ?_
      rintro e Z6 ⟨rfl, hB⟩
      have HBf := Lib.hid (HBe.out.trans (hB.mono HBe.out.size))
      clear hB
      go_wp2
      go_ret
      exact ⟨rfl, HBf.out⟩
    · have e0 : (pfE c s l == 0) = false := by simpa using hpe
      clear hnp hrp hpe hkp
      generalize pfE c s l = pe at *
      go_wp2_with fail
      refine (alive_is Z2 HEb.out).mono ?_
      rintro e Z6 ⟨rfl, hB⟩
      have HBf := Lib.hid (HBb.out.trans (hB.mono HBb.out.size))
      clear hB
      go_wp2
      go_ret
      exact ⟨rfl, HBf.out⟩
end Go.Proofs.YtgfjjkckamppoaaDoor
