/-
  Put together: UqD UqE.
-/
import Derived.Test.YtdgoeibfggjbmaaGreatDoorMQA
namespace Go.Proofs.YtdgoeibfggjbmaaGreatDoor
open Go.RowKit
set_option maxRecDepth 100000
set_option linter.unusedSimpArgs false
set_option linter.unusedVariables false

set_option maxHeartbeats 4000000 in
theorem raws7_is (w : World) (E : EnvK w) (u : Up) (hu : UpOk u) (cs : List Value) (hcs : RdAt w w.heap.size cs u.at_) (A1 : Option Addr) (n1 c1 : Nat) (A2 : Option Addr) (n2 c2 : Nat) (hr : UpRd w u A1 n1 A2 n2) (h1 : n1 ≤ 900000) (h2 : n2 ≤ 900000) (hR : rightsB u.re = true) (hU : rightsB u.un = true) :
    Calls Tryz.prog 49 #[.agg (upc cs u.nv u.nl (.slice A1 n1 c1) (.slice A2 n2 c2)).toArray] w (RawsP w u) := by
  have hc : cs.length = 27 := by
    obtain ⟨_, _, _, _, _, _, rfl, _⟩ := hcs.ex
    exact attV_len _ _ _ _ hu.at_.ip
  have hal := bl_one w (.cells (upc cs u.nv u.nl (.slice A1 n1 c1) (.slice A2 n2 c2)).toArray 34)
  have HS : Hid (PbS w (w.alloc (.cells (upc cs u.nv u.nl (.slice A1 n1 c1) (.slice A2 n2 c2)).toArray 34)) cs u (.slice A1 n1 c1) (.slice A2 n2 c2)) := Lib.hid ⟨UpBox.new w hc hu.nl, hal⟩
  have HOk := Lib.hid hu
  have HUp := Lib.hid (fun W (hB : Below w.heap.size w W) => hr.up hB)
  have HRe := Lib.hid hR
  have HUn := Lib.hid hU
  have HWr := Lib.hid (write_is _ (E.below hal) u.at_ hu.at_ cs ((hcs.below hal).more hal.size))
  have hpr := puts_le (rights_all hu.re hR)
  have hpu := puts_le (rights_all hu.un hU)
  have hlr := hr.re.len
  have hlu := hr.un.len
  have HFr : Hid (([famB, nextB u.nv u.nl, puts u.re] : List (List Int)).flatten = reachV u) := Lib.hid (by simp [reachV])
  have HFg : Hid (([famB, puts u.un] : List (List Int)).flatten = goneV u) := Lib.hid (by simp [goneV])
  have HLr : Hid ((([famB, nextB u.nv u.nl, puts u.re] : List (List Int)).flatten).length ≤ 140737488355328) := Lib.hid (by
    have : (nextB u.nv u.nl).length ≤ 100 := by unfold nextB nb; split <;> simp <;> omega
    simp only [List.flatten_cons, List.flatten_nil, List.length_append, List.length_nil]
    have : famB.length = 3 := rfl
    omega)
  have HLg : Hid ((([famB, puts u.un] : List (List Int)).flatten).length ≤ 140737488355328) := Lib.hid (by
    simp only [List.flatten_cons, List.flatten_nil, List.length_append, List.length_nil]
    have : famB.length = 3 := rfl
    omega)
  have HNdP := Lib.hid (pre_nodup u)
  have HLen : Hid ((u.re = [] ↔ n1 = 0) ∧ (u.un = [] ↔ n2 = 0)) := Lib.hid ⟨⟨fun h => by rw [h] at hlr; exact hlr.symm, fun h => List.eq_nil_of_length_eq_zero (by rw [hlr, h])⟩, ⟨fun h => by rw [h] at hlu; exact hlu.symm, fun h => List.eq_nil_of_length_eq_zero (by rw [hlu, h])⟩⟩
  have hr44 := HS.out.bx.cr
  clear hr hu hcs hc hR hU E hal hpr hpu hlr hlu
  rcases Nat.eq_zero_or_pos n1 with q1 | q1
  · have HRn := Lib.hid (HLen.out.1.2 q1)
    have HWe : Hid (u.re ≠ [] → writeE u.at_ = 0) := Lib.hid (fun h => absurd HRn.out h)
    have HOw : Hid (OwnW (w.heap.size + 1) (w.alloc (.cells (upc cs u.nv u.nl (.slice A1 n1 c1) (.slice A2 n2 c2)).toArray 34)) (.slice none 0 0) []) := Lib.hid (OwnW.nil_ _ _)
    subst q1
    have hu45 := HS.out.bx.cu
    clear HWr HLr HFr
    rcases Nat.eq_zero_or_pos n2 with q2 | q2
    · have HUn2 := Lib.hid (HLen.out.2.2 q2)
      have HPre : Hid (([] : List Raw) = preU u) := Lib.hid (by unfold preU goneR; rw [if_pos HRn.out, if_pos HUn2.out]; rfl)
      have HNd : Hid ((([] : List Raw).map (·.2.1)).Nodup) := Lib.hid (by rw [HPre.out]; exact HNdP.out)
      have HTl : Hid (([] : List Raw).length ≤ 10) := Lib.hid (by simp)
      subst q2
      clear HLen
      go_enter Tryz.func49, Tryz.ntmps49
      go_wp2_with fail
      refine (sort_raw (w.heap.size + 1) _ _ ([]) HOw.out HS.out.bx.lt HNd.out (by have := HTl.out; omega)).mono ?_
      rintro e Y ⟨rfl, hB, A9, c9, ss, hv, hrd, hpm, hso⟩
      cases hv
      have HEnd : Hid (RawsP w u (.returned (.tuple #[.slice none ([] : List Raw).length 0, .int .i64 0])) Y) := Lib.hid (by
        rw [HPre.out] at hpm
        obtain rfl := sorted_raws hpm hso
        have hl : ([] : List Raw).length = (rawsU u).length := by rw [HPre.out]; exact (hpm.length_eq).symm
        rw [hl] at hrd ⊢
        exact ⟨HS.out.low.trans (hB.mono (Nat.le_succ _)), Or.inr ⟨HWe.out, none, 0, rfl, hrd⟩⟩)
      clear hB hrd hpm hso
      go_wp2
      go_ret2
      exact HEnd.out
    · have HUn2 := Lib.hid (show ¬ u.un = [] from fun h => by have := HLen.out.2.1 h; omega)
      have HPre : Hid (([rawW 128 15 (goneV u)] : List Raw) = preU u) := Lib.hid (by unfold preU goneR; rw [if_pos HRn.out, if_neg HUn2.out]; rfl)
      have HNd : Hid ((([rawW 128 15 (goneV u)] : List Raw).map (·.2.1)).Nodup) := Lib.hid (by rw [HPre.out]; exact HNdP.out)
      have HTl : Hid (([rawW 128 15 (goneV u)] : List Raw).length ≤ 10) := Lib.hid (by simp)
      have hgt : (n2 : Int) > 0 := by omega
      clear HLen
      go_enter Tryz.func49, Tryz.ntmps49
      go_wp2_with fail
      clear hr44 hu45
      generalize (w.alloc (.cells (upc cs u.nv u.nl (.slice A1 0 c1) (.slice A2 n2 c2)).toArray 34)) = W2 at *
      refine wp_region_held_drew (S := fun W => PbS w W cs u (.slice A1 0 c1) (.slice A2 n2 c2)) (by kernel_rfl) (HS.out.below (below_drewN (Below.refl _ _) 1)) (fun hS => ?_)
      refine wpAnyH_take (i := 0) (oi := ⟨some 36, _, _, _, _, _⟩) (v := ?_) rfl (by kernel_rfl) (by kernel_rfl) (by kernel_rfl) (fun _ _ _ h => h) (Or.inl ⟨by rfl, ?_⟩) hS ?_
      rotate_left
      · intro wq hq
        first | (go_simp; done) | (go_simp; rfl)
      try simp only [Act.put, zP, zQ, zR]
      refine wpAnyH_take (i := 2) (oi := ⟨some 38, _, _, _, _, _⟩) (v := ?_) rfl (by kernel_rfl) (by kernel_rfl) (by kernel_rfl) (fun _ _ _ h => h) (Or.inl ⟨by rfl, ?_⟩) hS ?_
      rotate_left
      · intro wq hq
        first | (go_simp; done) | (go_simp; rfl)
      try simp only [Act.put, zP, zQ, zR]
      refine wpAnyH_take (i := 3) (oi := ⟨some 39, _, _, _, _, _⟩) (v := ?_) rfl (by kernel_rfl) (by kernel_rfl) (by kernel_rfl) (fun _ _ _ h => h) (Or.inl ⟨by rfl, ?_⟩) hS ?_
      rotate_left
      · intro wq hq
        have c45 := hq.bx.cu
        first | (go_simp; done) | (go_simp; rfl)
      try simp only [Act.put, zP, zQ, zR]
      have how := HOw.out.below (below_drewN (Below.refl _ _) 1)
      change OwnW (w.heap.size + 1) W2.drew _ _ at how
      generalize W2.drew = X1 at *
      clear HS HOw
      refine wpAnyH_ready (rs := [1]) (by kernel_rfl) (by simp) ?_
      refine AllReadyH.cons (o := ⟨some 37, _, _, _, _, _⟩) rfl (fun K hK => ?_) AllReadyH.nil
      rw [if_pos (by rfl)]
      go_wp2_with fail
      refine (family7_is X1).mono ?_
      rintro e X2 ⟨v1, rfl, hO, hB⟩
      obtain ⟨B1, d1, rfl, _, r1, _⟩ := hO.at_
      have hSn := hS.below hB
      have how := how.below hB
      clear hB hS hO
      refine hK.out _ _ (hSn) (fun hS => ?_)
      clear hK K
      try simp only [Act.put, zP, zQ, zR]
      clear hSn
      refine wpAnyH_ready (rs := [4]) (by kernel_rfl) (by simp) ?_
      refine AllReadyH.cons (o := ⟨some 40, _, _, _, _, _⟩) rfl (fun K hK => ?_) AllReadyH.nil
      rw [if_pos (by rfl)]
      go_wp2_with fail
      refine (rb7_is X2 A2 n2 c2 u.un (HUp.out X2 hS.low).un HUn.out h2).mono ?_
      rintro e X4 ⟨v3, rfl, hO, hB⟩
      obtain ⟨B2, d2, rfl, _, r2, _⟩ := hO.at_
      have hSn := hS.below hB
      have how := how.below hB
      have r1 := r1.up7 hB
      clear hB hS hO
      refine hK.out _ _ (hSn) (fun hS => ?_)
      clear hK K
      try simp only [Act.put, zP, zQ, zR]
      clear hSn
      refine wpAnyH_ready (rs := [5]) (by kernel_rfl) (by simp) ?_
      refine AllReadyH.cons (o := ⟨some 41, _, _, _, _, _⟩) rfl (fun K hK => ?_) AllReadyH.nil
      rw [if_pos (by rfl)]
      generalize hq1 : (famB).length = m1 at *
      generalize hq2 : (puts u.un).length = m2 at *
      go_wp2
      have hL := rdl_new_at (W := X4) (vs := [(B1, m1, d1), (B2, m2, d2)]) (ls := [famB, puts u.un]) ⟨r1, r2, trivial⟩ 38 #[.slice B1 m1 d1, .slice B2 m2 d2] rfl _ rfl
      have hSn := hS.below (bl_one X4 (.cells #[.slice B1 m1 d1, .slice B2 m2 d2] 38))
      have how := how.below (bl_one X4 (.cells #[.slice B1 m1 d1, .slice B2 m2 d2] 38))
      refine hK.out _ _ (hSn) (fun hS => ?_)
      clear hK K
      try simp only [Act.put, zP, zQ, zR]
      clear hSn r1 r2 hq1 hq2
      have HMd := Lib.hid (made7_is _ 15 (some ⟨X4.heap.size, 0, none⟩) 2 2 [famB, puts u.un] hL (by omega) HLg.out)
      rw [HFg.out] at HMd
      clear hL
      generalize X4.alloc (.cells #[.slice B1 m1 d1, .slice B2 m2 d2] 38) = X5 at *
      refine wpAnyH_ready (rs := [6]) (by kernel_rfl) (by simp) ?_
      refine AllReadyH.cons (o := ⟨some 42, _, _, _, _, _⟩) rfl (fun K hK => ?_) AllReadyH.nil
      rw [if_pos (by rfl)]
      go_wp2_with fail
      refine (HMd.out).mono ?_
      rintro e X6 ⟨B6, d6, rfl, hbd, hB⟩
      have hbd := hbd.low (lo' := w.heap.size + 1) hS.bx.lt
      have hSn := hS.below hB
      have how := how.below hB
      clear hB hS HMd
      refine hK.out _ _ (hSn) (fun hS => ?_)
      clear hK K
      try simp only [Act.put, zP, zQ, zR]
      clear hSn
      generalize hq4 : (goneV u).length = m4 at *
      generalize hq5 : lfl 128 (goneV u) = f4 at *
      refine wpAnyH_ready (rs := [7]) (by kernel_rfl) (by simp) ?_
      refine AllReadyH.cons (o := ⟨some 43, _, _, _, _, _⟩) rfl (fun K hK => ?_) AllReadyH.nil
      rw [if_pos (by rfl)]
      refine one_raw_wp _ rfl f4 15 B6 m4 d6 rfl ?_
      have hS6 := hS
      refine hK.out _ _ (hS.below (bl_one X6 _)) (fun hS => ?_)
      clear hK K
      try simp only [Act.put, zP, zQ, zR]
      refine wpAnyH_ready (rs := [8]) (by kernel_rfl) (by simp) ?_
      refine AllReadyH.cons (o := ⟨some 44, _, _, _, _, _⟩) rfl (fun K hK => ?_) AllReadyH.nil
      rw [if_pos (by rfl)]
      refine app_w_wp _ _ rfl how hS6.bx.lt (by have := write_len u.at_; simp; try omega) hbd rfl rfl ?_
      intro v7 X7 ho7 hb7 hg7 hold7
      have hS7 := hS6.low1 hb7
      have ho7 : OwnW (w.heap.size + 1) X7 v7 ([rawW 128 15 (goneV u)]) := by rw [show ([rawW 128 15 (goneV u)] : List Raw) = [] ++ [(f4, 15, goneV u)] from by rw [← hq5]; rfl]; exact ho7
      clear how hbd hb7 hg7 hold7 hS6 hS hq4 hq5
      refine hK.out _ _ (hS7) (fun hS => ?_)
      clear hK K
      try simp only [Act.put, zP, zQ, zR]
      refine wpAnyH_take (i := 9) (oi := ⟨some 4, _, _, _, _, _⟩) (v := ?_) rfl (by kernel_rfl) (by kernel_rfl) (by kernel_rfl) (fun _ _ _ h => h) (Or.inl ⟨by rfl, ?_⟩) hS ?_
      rotate_left
      · intro wq hq
        first | (go_simp; done) | (go_simp; rfl)
      try simp only [Act.put, zP, zQ, zR]
      refine wpAnyH_done (by kernel_rfl) ?_ _
      have HS := Lib.hid hS7
      have HOw := Lib.hid ho7
      clear hS hS7 ho7
      go_wp2_with fail
      refine (sort_raw (w.heap.size + 1) _ _ ([rawW 128 15 (goneV u)]) HOw.out HS.out.bx.lt HNd.out (by have := HTl.out; omega)).mono ?_
      rintro e Y ⟨rfl, hB, A9, c9, ss, hv, hrd, hpm, hso⟩
      subst hv
      have HEnd : Hid (RawsP w u (.returned (.tuple #[.slice A9 ([rawW 128 15 (goneV u)] : List Raw).length c9, .int .i64 0])) Y) := Lib.hid (by
        rw [HPre.out] at hpm
        obtain rfl := sorted_raws hpm hso
        have hl : ([rawW 128 15 (goneV u)] : List Raw).length = (rawsU u).length := by rw [HPre.out]; exact (hpm.length_eq).symm
        rw [hl] at hrd ⊢
        exact ⟨HS.out.low.trans (hB.mono (Nat.le_succ _)), Or.inr ⟨HWe.out, A9, c9, rfl, hrd⟩⟩)
      clear hB hrd hpm hso
      generalize ([rawW 128 15 (goneV u)] : List Raw).length = tl at *
      go_wp2
      go_ret2
      exact HEnd.out
  · have HRn := Lib.hid (show ¬ u.re = [] from fun h => by have := HLen.out.1.1 h; omega)
    have hgt : (n1 : Int) > 0 := by omega
    by_cases hw : writeE u.at_ = 0
    · have HWr2 := Lib.hid (HWr.out.mono (R' := fun e w' => ∃ v, e = .returned (.tuple #[v, .int .i64 0]) ∧ OwnW (w.heap.size + 1) w' v (writeR u.at_) ∧ Below (w.alloc (.cells (upc cs u.nv u.nl (.slice A1 n1 c1) (.slice A2 n2 c2)).toArray 34)).heap.size (w.alloc (.cells (upc cs u.nv u.nl (.slice A1 n1 c1) (.slice A2 n2 c2)).toArray 34)) w') (by
        rintro e w' ⟨hB, hp⟩
        rw [if_pos hw] at hp
        obtain ⟨v, rfl, ho⟩ := hp
        exact ⟨v, rfl, ho.low (by simp), hB⟩))
      have HWe : Hid (u.re ≠ [] → writeE u.at_ = 0) := Lib.hid (fun _ => hw)
      clear HWr hw
      have HTb : Hid ((writeR u.at_).length ≤ 8) := Lib.hid (write_len _)
      rcases Nat.eq_zero_or_pos n2 with q2 | q2
      · have HUn2 := Lib.hid (HLen.out.2.2 q2)
        have HPre : Hid ((writeR u.at_ ++ [rawW 128 14 (reachV u)] : List Raw) = preU u) := Lib.hid (by unfold preU goneR; rw [if_neg HRn.out, if_pos HUn2.out]; simp)
        have HNd : Hid (((writeR u.at_ ++ [rawW 128 14 (reachV u)] : List Raw).map (·.2.1)).Nodup) := Lib.hid (by rw [HPre.out]; exact HNdP.out)
        have HTl : Hid ((writeR u.at_ ++ [rawW 128 14 (reachV u)] : List Raw).length ≤ 10) := Lib.hid (by have := HTb.out; simp; omega)
        subst q2
        clear HLen
        go_enter Tryz.func49, Tryz.ntmps49
        go_wp2_with (first | (refine upa_fetch rfl _ rfl w.heap.size HS.out.bx rfl ?_) | fail)
        refine HWr2.out.mono ?_
        rintro e W2 ⟨v0, rfl, how, hB⟩
        have HS := Lib.hid (HS.out.below hB)
        have HOw := Lib.hid how
        clear hB how hr44 HWr2
        go_wp2_with fail
        refine wp_region_held_drew (S := fun W => PbS w W cs u (.slice A1 n1 c1) (.slice A2 0 c2)) (by kernel_rfl) (HS.out.below (below_drewN (Below.refl _ _) 1)) (fun hS => ?_)
        refine wpAnyH_take (i := 0) (oi := ⟨some 20, _, _, _, _, _⟩) (v := ?_) rfl (by kernel_rfl) (by kernel_rfl) (by kernel_rfl) (fun _ _ _ h => h) (Or.inl ⟨by rfl, ?_⟩) hS ?_
        rotate_left
        · intro wq hq
          first | (go_simp; done) | (go_simp; rfl)
        try simp only [Act.put, zP, zQ, zR]
        refine wpAnyH_take (i := 2) (oi := ⟨some 22, _, _, _, _, _⟩) (v := ?_) rfl (by kernel_rfl) (by kernel_rfl) (by kernel_rfl) (fun _ _ _ h => h) (Or.inl ⟨by rfl, ?_⟩) hS ?_
        rotate_left
        · intro wq hq
          first | (go_simp; done) | (go_simp; rfl)
        try simp only [Act.put, zP, zQ, zR]
        refine wpAnyH_take (i := 3) (oi := ⟨some 23, _, _, _, _, _⟩) rfl (by kernel_rfl) (by kernel_rfl) (by kernel_rfl) (fun _ _ _ h => h) (yieldsIf_load_mid (by rfl) 27 _ rfl _ _ rfl (ipc u.nv u.nl) _ (fun wq hq => hq.bx.rn) Tryz.underlying27 rfl (by rw [ip_sz, ipc_len, HOk.out.nl])) hS ?_
        try simp only [Act.put, zP, zQ, zR]
        refine wpAnyH_take (i := 5) (oi := ⟨some 25, _, _, _, _, _⟩) (v := ?_) rfl (by kernel_rfl) (by kernel_rfl) (by kernel_rfl) (fun _ _ _ h => h) (Or.inl ⟨by rfl, ?_⟩) hS ?_
        rotate_left
        · intro wq hq
          first | (go_simp; done) | (go_simp; rfl)
        try simp only [Act.put, zP, zQ, zR]
        refine wpAnyH_take (i := 6) (oi := ⟨some 26, _, _, _, _, _⟩) (v := ?_) rfl (by kernel_rfl) (by kernel_rfl) (by kernel_rfl) (fun _ _ _ h => h) (Or.inl ⟨by rfl, ?_⟩) hS ?_
        rotate_left
        · intro wq hq
          have c44 := hq.bx.cr
          first | (go_simp; done) | (go_simp; rfl)
        try simp only [Act.put, zP, zQ, zR]
        have how := HOw.out.below (below_drewN (Below.refl _ _) 1)
        change OwnW (w.heap.size + 1) W2.drew _ _ at how
        generalize W2.drew = X1 at *
        clear HS HOw
        refine wpAnyH_ready (rs := [1]) (by kernel_rfl) (by simp) ?_
        refine AllReadyH.cons (o := ⟨some 21, _, _, _, _, _⟩) rfl (fun K hK => ?_) AllReadyH.nil
        rw [if_pos (by rfl)]
        go_wp2_with fail
        refine (family7_is X1).mono ?_
        rintro e X2 ⟨v1, rfl, hO, hB⟩
        obtain ⟨B1, d1, rfl, _, r1, _⟩ := hO.at_
        have hSn := hS.below hB
        have how := how.below hB
        clear hB hS hO
        refine hK.out _ _ (hSn) (fun hS => ?_)
        clear hK K
        try simp only [Act.put, zP, zQ, zR]
        clear hSn
        refine wpAnyH_ready (rs := [4]) (by kernel_rfl) (by simp) ?_
        refine AllReadyH.cons (o := ⟨some 24, _, _, _, _, _⟩) rfl (fun K hK => ?_) AllReadyH.nil
        rw [if_pos (by rfl)]
        go_wp2_with fail
        refine (next7_is X2 u.nv u.nl HOk.out.nl HOk.out.onl).mono ?_
        rintro e X3 ⟨v2, rfl, hO, hB⟩
        obtain ⟨B2, d2, rfl, _, r2, _⟩ := hO.at_
        have hSn := hS.below hB
        have how := how.below hB
        have r1 := r1.up7 hB
        clear hB hS hO
        refine hK.out _ _ (hSn) (fun hS => ?_)
        clear hK K
        try simp only [Act.put, zP, zQ, zR]
        clear hSn
        refine wpAnyH_ready (rs := [7]) (by kernel_rfl) (by simp) ?_
        refine AllReadyH.cons (o := ⟨some 27, _, _, _, _, _⟩) rfl (fun K hK => ?_) AllReadyH.nil
        rw [if_pos (by rfl)]
        go_wp2_with fail
        refine (rb7_is X3 A1 n1 c1 u.re (HUp.out X3 hS.low).re HRe.out h1).mono ?_
        rintro e X4 ⟨v3, rfl, hO, hB⟩
        obtain ⟨B3, d3, rfl, _, r3, _⟩ := hO.at_
        have hSn := hS.below hB
        have how := how.below hB
        have r1 := r1.up7 hB
        have r2 := r2.up7 hB
        clear hB hS hO
        refine hK.out _ _ (hSn) (fun hS => ?_)
        clear hK K
        try simp only [Act.put, zP, zQ, zR]
        clear hSn
        refine wpAnyH_ready (rs := [8]) (by kernel_rfl) (by simp) ?_
        refine AllReadyH.cons (o := ⟨some 28, _, _, _, _, _⟩) rfl (fun K hK => ?_) AllReadyH.nil
        rw [if_pos (by rfl)]
        generalize hq1 : (famB).length = m1 at *
        generalize hq2 : (nextB u.nv u.nl).length = m2 at *
        generalize hq3 : (puts u.re).length = m3 at *
        go_wp2
        have hL := rdl_new_at (W := X4) (vs := [(B1, m1, d1), (B2, m2, d2), (B3, m3, d3)]) (ls := [famB, nextB u.nv u.nl, puts u.re]) ⟨r1, r2, r3, trivial⟩ 38 #[.slice B1 m1 d1, .slice B2 m2 d2, .slice B3 m3 d3] rfl _ rfl
        have hSn := hS.below (bl_one X4 (.cells #[.slice B1 m1 d1, .slice B2 m2 d2, .slice B3 m3 d3] 38))
        have how := how.below (bl_one X4 (.cells #[.slice B1 m1 d1, .slice B2 m2 d2, .slice B3 m3 d3] 38))
        refine hK.out _ _ (hSn) (fun hS => ?_)
        clear hK K
        try simp only [Act.put, zP, zQ, zR]
        clear hSn r1 r2 r3 hq1 hq2 hq3
        have HMd := Lib.hid (made7_is _ 14 (some ⟨X4.heap.size, 0, none⟩) 3 3 [famB, nextB u.nv u.nl, puts u.re] hL (by omega) HLr.out)
        rw [HFr.out] at HMd
        clear hL
        generalize X4.alloc (.cells #[.slice B1 m1 d1, .slice B2 m2 d2, .slice B3 m3 d3] 38) = X5 at *
        refine wpAnyH_ready (rs := [9]) (by kernel_rfl) (by simp) ?_
        refine AllReadyH.cons (o := ⟨some 29, _, _, _, _, _⟩) rfl (fun K hK => ?_) AllReadyH.nil
        rw [if_pos (by rfl)]
        go_wp2_with fail
        refine (HMd.out).mono ?_
        rintro e X6 ⟨B6, d6, rfl, hbd, hB⟩
        have hbd := hbd.low (lo' := w.heap.size + 1) hS.bx.lt
        have hSn := hS.below hB
        have how := how.below hB
        clear hB hS HMd
        refine hK.out _ _ (hSn) (fun hS => ?_)
        clear hK K
        try simp only [Act.put, zP, zQ, zR]
        clear hSn
        generalize hq4 : (reachV u).length = m4 at *
        generalize hq5 : lfl 128 (reachV u) = f4 at *
        refine wpAnyH_ready (rs := [10]) (by kernel_rfl) (by simp) ?_
        refine AllReadyH.cons (o := ⟨some 30, _, _, _, _, _⟩) rfl (fun K hK => ?_) AllReadyH.nil
        rw [if_pos (by rfl)]
        refine one_raw_wp _ rfl f4 14 B6 m4 d6 rfl ?_
        have hS6 := hS
        refine hK.out _ _ (hS.below (bl_one X6 _)) (fun hS => ?_)
        clear hK K
        try simp only [Act.put, zP, zQ, zR]
        refine wpAnyH_ready (rs := [11]) (by kernel_rfl) (by simp) ?_
        refine AllReadyH.cons (o := ⟨some 31, _, _, _, _, _⟩) rfl (fun K hK => ?_) AllReadyH.nil
        rw [if_pos (by rfl)]
        refine app_w_wp _ _ rfl how hS6.bx.lt (by have := write_len u.at_; simp; try omega) hbd rfl rfl ?_
        intro v7 X7 ho7 hb7 hg7 hold7
        have hS7 := hS6.low1 hb7
        have ho7 : OwnW (w.heap.size + 1) X7 v7 (writeR u.at_ ++ [rawW 128 14 (reachV u)]) := by rw [show (writeR u.at_ ++ [rawW 128 14 (reachV u)] : List Raw) = writeR u.at_ ++ [(f4, 14, reachV u)] from by rw [← hq5]; rfl]; exact ho7
        clear how hbd hb7 hg7 hold7 hS6 hS hq4 hq5
        refine hK.out _ _ (hS7) (fun hS => ?_)
        clear hK K
        try simp only [Act.put, zP, zQ, zR]
        refine wpAnyH_take (i := 12) (oi := ⟨some 4, _, _, _, _, _⟩) (v := ?_) rfl (by kernel_rfl) (by kernel_rfl) (by kernel_rfl) (fun _ _ _ h => h) (Or.inl ⟨by rfl, ?_⟩) hS ?_
        rotate_left
        · intro wq hq
          first | (go_simp; done) | (go_simp; rfl)
        try simp only [Act.put, zP, zQ, zR]
        refine wpAnyH_done (by kernel_rfl) ?_ _
        have HS := Lib.hid hS7
        have HOw := Lib.hid ho7
        clear hS hS7 ho7
        have hu45 := HS.out.bx.cu
        go_wp2_with fail
        refine (sort_raw (w.heap.size + 1) _ _ (writeR u.at_ ++ [rawW 128 14 (reachV u)]) HOw.out HS.out.bx.lt HNd.out (by have := HTl.out; omega)).mono ?_
        rintro e Y ⟨rfl, hB, A9, c9, ss, hv, hrd, hpm, hso⟩
        subst hv
        have HEnd : Hid (RawsP w u (.returned (.tuple #[.slice A9 (writeR u.at_ ++ [rawW 128 14 (reachV u)] : List Raw).length c9, .int .i64 0])) Y) := Lib.hid (by
          rw [HPre.out] at hpm
          obtain rfl := sorted_raws hpm hso
          have hl : (writeR u.at_ ++ [rawW 128 14 (reachV u)] : List Raw).length = (rawsU u).length := by rw [HPre.out]; exact (hpm.length_eq).symm
          rw [hl] at hrd ⊢
          exact ⟨HS.out.low.trans (hB.mono (Nat.le_succ _)), Or.inr ⟨HWe.out, A9, c9, rfl, hrd⟩⟩)
        clear hB hrd hpm hso
        generalize (writeR u.at_ ++ [rawW 128 14 (reachV u)] : List Raw).length = tl at *
        go_wp2
        go_ret2
        exact HEnd.out
      · have HUn2 := Lib.hid (show ¬ u.un = [] from fun h => by have := HLen.out.2.1 h; omega)
        have HPre : Hid (((writeR u.at_ ++ [rawW 128 14 (reachV u)]) ++ [rawW 128 15 (goneV u)] : List Raw) = preU u) := Lib.hid (by unfold preU goneR; rw [if_neg HRn.out, if_neg HUn2.out])
        have HNd : Hid ((((writeR u.at_ ++ [rawW 128 14 (reachV u)]) ++ [rawW 128 15 (goneV u)] : List Raw).map (·.2.1)).Nodup) := Lib.hid (by rw [HPre.out]; exact HNdP.out)
        have HTl : Hid (((writeR u.at_ ++ [rawW 128 14 (reachV u)]) ++ [rawW 128 15 (goneV u)] : List Raw).length ≤ 10) := Lib.hid (by have := HTb.out; simp; omega)
        have hgt2 : (n2 : Int) > 0 := by omega
        clear HLen
        go_enter Tryz.func49, Tryz.ntmps49
        go_wp2_with (first | (refine upa_fetch rfl _ rfl w.heap.size HS.out.bx rfl ?_) | fail)
        refine HWr2.out.mono ?_
        rintro e W2 ⟨v0, rfl, how, hB⟩
        have HS := Lib.hid (HS.out.below hB)
        have HOw := Lib.hid how
        clear hB how hr44 HWr2
        go_wp2_with fail
        refine wp_region_held_drew (S := fun W => PbS w W cs u (.slice A1 n1 c1) (.slice A2 n2 c2)) (by kernel_rfl) (HS.out.below (below_drewN (Below.refl _ _) 1)) (fun hS => ?_)
        refine wpAnyH_take (i := 0) (oi := ⟨some 20, _, _, _, _, _⟩) (v := ?_) rfl (by kernel_rfl) (by kernel_rfl) (by kernel_rfl) (fun _ _ _ h => h) (Or.inl ⟨by rfl, ?_⟩) hS ?_
        rotate_left
        · intro wq hq
          first | (go_simp; done) | (go_simp; rfl)
        try simp only [Act.put, zP, zQ, zR]
        refine wpAnyH_take (i := 2) (oi := ⟨some 22, _, _, _, _, _⟩) (v := ?_) rfl (by kernel_rfl) (by kernel_rfl) (by kernel_rfl) (fun _ _ _ h => h) (Or.inl ⟨by rfl, ?_⟩) hS ?_
        rotate_left
        · intro wq hq
          first | (go_simp; done) | (go_simp; rfl)
        try simp only [Act.put, zP, zQ, zR]
        refine wpAnyH_take (i := 3) (oi := ⟨some 23, _, _, _, _, _⟩) rfl (by kernel_rfl) (by kernel_rfl) (by kernel_rfl) (fun _ _ _ h => h) (yieldsIf_load_mid (by rfl) 27 _ rfl _ _ rfl (ipc u.nv u.nl) _ (fun wq hq => hq.bx.rn) Tryz.underlying27 rfl (by rw [ip_sz, ipc_len, HOk.out.nl])) hS ?_
        try simp only [Act.put, zP, zQ, zR]
        refine wpAnyH_take (i := 5) (oi := ⟨some 25, _, _, _, _, _⟩) (v := ?_) rfl (by kernel_rfl) (by kernel_rfl) (by kernel_rfl) (fun _ _ _ h => h) (Or.inl ⟨by rfl, ?_⟩) hS ?_
        rotate_left
        · intro wq hq
          first | (go_simp; done) | (go_simp; rfl)
        try simp only [Act.put, zP, zQ, zR]
        refine wpAnyH_take (i := 6) (oi := ⟨some 26, _, _, _, _, _⟩) (v := ?_) rfl (by kernel_rfl) (by kernel_rfl) (by kernel_rfl) (fun _ _ _ h => h) (Or.inl ⟨by rfl, ?_⟩) hS ?_
        rotate_left
        · intro wq hq
          have c44 := hq.bx.cr
          first | (go_simp; done) | (go_simp; rfl)
        try simp only [Act.put, zP, zQ, zR]
        have how := HOw.out.below (below_drewN (Below.refl _ _) 1)
        change OwnW (w.heap.size + 1) W2.drew _ _ at how
        generalize W2.drew = X1 at *
        clear HS HOw
        refine wpAnyH_ready (rs := [1]) (by kernel_rfl) (by simp) ?_
        refine AllReadyH.cons (o := ⟨some 21, _, _, _, _, _⟩) rfl (fun K hK => ?_) AllReadyH.nil
        rw [if_pos (by rfl)]
        go_wp2_with fail
        refine (family7_is X1).mono ?_
        rintro e X2 ⟨v1, rfl, hO, hB⟩
        obtain ⟨B1, d1, rfl, _, r1, _⟩ := hO.at_
        have hSn := hS.below hB
        have how := how.below hB
        clear hB hS hO
        refine hK.out _ _ (hSn) (fun hS => ?_)
        clear hK K
        try simp only [Act.put, zP, zQ, zR]
        clear hSn
        refine wpAnyH_ready (rs := [4]) (by kernel_rfl) (by simp) ?_
        refine AllReadyH.cons (o := ⟨some 24, _, _, _, _, _⟩) rfl (fun K hK => ?_) AllReadyH.nil
        rw [if_pos (by rfl)]
        go_wp2_with fail
        refine (next7_is X2 u.nv u.nl HOk.out.nl HOk.out.onl).mono ?_
        rintro e X3 ⟨v2, rfl, hO, hB⟩
        obtain ⟨B2, d2, rfl, _, r2, _⟩ := hO.at_
        have hSn := hS.below hB
        have how := how.below hB
        have r1 := r1.up7 hB
        clear hB hS hO
        refine hK.out _ _ (hSn) (fun hS => ?_)
        clear hK K
        try simp only [Act.put, zP, zQ, zR]
        clear hSn
        refine wpAnyH_ready (rs := [7]) (by kernel_rfl) (by simp) ?_
        refine AllReadyH.cons (o := ⟨some 27, _, _, _, _, _⟩) rfl (fun K hK => ?_) AllReadyH.nil
        rw [if_pos (by rfl)]
        go_wp2_with fail
        refine (rb7_is X3 A1 n1 c1 u.re (HUp.out X3 hS.low).re HRe.out h1).mono ?_
        rintro e X4 ⟨v3, rfl, hO, hB⟩
        obtain ⟨B3, d3, rfl, _, r3, _⟩ := hO.at_
        have hSn := hS.below hB
        have how := how.below hB
        have r1 := r1.up7 hB
        have r2 := r2.up7 hB
        clear hB hS hO
        refine hK.out _ _ (hSn) (fun hS => ?_)
        clear hK K
        try simp only [Act.put, zP, zQ, zR]
        clear hSn
        refine wpAnyH_ready (rs := [8]) (by kernel_rfl) (by simp) ?_
        refine AllReadyH.cons (o := ⟨some 28, _, _, _, _, _⟩) rfl (fun K hK => ?_) AllReadyH.nil
        rw [if_pos (by rfl)]
        generalize hq1 : (famB).length = m1 at *
        generalize hq2 : (nextB u.nv u.nl).length = m2 at *
        generalize hq3 : (puts u.re).length = m3 at *
        go_wp2
        have hL := rdl_new_at (W := X4) (vs := [(B1, m1, d1), (B2, m2, d2), (B3, m3, d3)]) (ls := [famB, nextB u.nv u.nl, puts u.re]) ⟨r1, r2, r3, trivial⟩ 38 #[.slice B1 m1 d1, .slice B2 m2 d2, .slice B3 m3 d3] rfl _ rfl
        have hSn := hS.below (bl_one X4 (.cells #[.slice B1 m1 d1, .slice B2 m2 d2, .slice B3 m3 d3] 38))
        have how := how.below (bl_one X4 (.cells #[.slice B1 m1 d1, .slice B2 m2 d2, .slice B3 m3 d3] 38))
        refine hK.out _ _ (hSn) (fun hS => ?_)
        clear hK K
        try simp only [Act.put, zP, zQ, zR]
        clear hSn r1 r2 r3 hq1 hq2 hq3
        have HMd := Lib.hid (made7_is _ 14 (some ⟨X4.heap.size, 0, none⟩) 3 3 [famB, nextB u.nv u.nl, puts u.re] hL (by omega) HLr.out)
        rw [HFr.out] at HMd
        clear hL
        generalize X4.alloc (.cells #[.slice B1 m1 d1, .slice B2 m2 d2, .slice B3 m3 d3] 38) = X5 at *
        refine wpAnyH_ready (rs := [9]) (by kernel_rfl) (by simp) ?_
        refine AllReadyH.cons (o := ⟨some 29, _, _, _, _, _⟩) rfl (fun K hK => ?_) AllReadyH.nil
        rw [if_pos (by rfl)]
        go_wp2_with fail
        refine (HMd.out).mono ?_
        rintro e X6 ⟨B6, d6, rfl, hbd, hB⟩
        have hbd := hbd.low (lo' := w.heap.size + 1) hS.bx.lt
        have hSn := hS.below hB
        have how := how.below hB
        clear hB hS HMd
        refine hK.out _ _ (hSn) (fun hS => ?_)
        clear hK K
        try simp only [Act.put, zP, zQ, zR]
        clear hSn
        generalize hq4 : (reachV u).length = m4 at *
        generalize hq5 : lfl 128 (reachV u) = f4 at *
        refine wpAnyH_ready (rs := [10]) (by kernel_rfl) (by simp) ?_
        refine AllReadyH.cons (o := ⟨some 30, _, _, _, _, _⟩) rfl (fun K hK => ?_) AllReadyH.nil
        rw [if_pos (by rfl)]
        refine one_raw_wp _ rfl f4 14 B6 m4 d6 rfl ?_
        have hS6 := hS
        refine hK.out _ _ (hS.below (bl_one X6 _)) (fun hS => ?_)
        clear hK K
        try simp only [Act.put, zP, zQ, zR]
        refine wpAnyH_ready (rs := [11]) (by kernel_rfl) (by simp) ?_
        refine AllReadyH.cons (o := ⟨some 31, _, _, _, _, _⟩) rfl (fun K hK => ?_) AllReadyH.nil
        rw [if_pos (by rfl)]
        refine app_w_wp _ _ rfl how hS6.bx.lt (by have := write_len u.at_; simp; try omega) hbd rfl rfl ?_
        intro v7 X7 ho7 hb7 hg7 hold7
        have hS7 := hS6.low1 hb7
        have ho7 : OwnW (w.heap.size + 1) X7 v7 (writeR u.at_ ++ [rawW 128 14 (reachV u)]) := by rw [show (writeR u.at_ ++ [rawW 128 14 (reachV u)] : List Raw) = writeR u.at_ ++ [(f4, 14, reachV u)] from by rw [← hq5]; rfl]; exact ho7
        clear how hbd hb7 hg7 hold7 hS6 hS hq4 hq5
        refine hK.out _ _ (hS7) (fun hS => ?_)
        clear hK K
        try simp only [Act.put, zP, zQ, zR]
        refine wpAnyH_take (i := 12) (oi := ⟨some 4, _, _, _, _, _⟩) (v := ?_) rfl (by kernel_rfl) (by kernel_rfl) (by kernel_rfl) (fun _ _ _ h => h) (Or.inl ⟨by rfl, ?_⟩) hS ?_
        rotate_left
        · intro wq hq
          first | (go_simp; done) | (go_simp; rfl)
        try simp only [Act.put, zP, zQ, zR]
        refine wpAnyH_done (by kernel_rfl) ?_ _
        have HS := Lib.hid hS7
        have HOw := Lib.hid ho7
        clear hS hS7 ho7
        have hu45 := HS.out.bx.cu
        go_wp2_with fail
        clear hu45
        refine wp_region_held_drew (S := fun W => PbS w W cs u (.slice A1 n1 c1) (.slice A2 n2 c2)) (by kernel_rfl) (HS.out.below (below_drewN (Below.refl _ _) 1)) (fun hS => ?_)
        refine wpAnyH_take (i := 0) (oi := ⟨some 36, _, _, _, _, _⟩) (v := ?_) rfl (by kernel_rfl) (by kernel_rfl) (by kernel_rfl) (fun _ _ _ h => h) (Or.inl ⟨by rfl, ?_⟩) hS ?_
        rotate_left
        · intro wq hq
          first | (go_simp; done) | (go_simp; rfl)
        try simp only [Act.put, zP, zQ, zR]
        refine wpAnyH_take (i := 2) (oi := ⟨some 38, _, _, _, _, _⟩) (v := ?_) rfl (by kernel_rfl) (by kernel_rfl) (by kernel_rfl) (fun _ _ _ h => h) (Or.inl ⟨by rfl, ?_⟩) hS ?_
        rotate_left
        · intro wq hq
          first | (go_simp; done) | (go_simp; rfl)
        try simp only [Act.put, zP, zQ, zR]
        refine wpAnyH_take (i := 3) (oi := ⟨some 39, _, _, _, _, _⟩) (v := ?_) rfl (by kernel_rfl) (by kernel_rfl) (by kernel_rfl) (fun _ _ _ h => h) (Or.inl ⟨by rfl, ?_⟩) hS ?_
        rotate_left
        · intro wq hq
          have c45 := hq.bx.cu
          first | (go_simp; done) | (go_simp; rfl)
        try simp only [Act.put, zP, zQ, zR]
        have how := HOw.out.below (below_drewN (Below.refl _ _) 1)
        change OwnW (w.heap.size + 1) X7.drew _ _ at how
        generalize X7.drew = Y1 at *
        clear HS HOw
        refine wpAnyH_ready (rs := [1]) (by kernel_rfl) (by simp) ?_
        refine AllReadyH.cons (o := ⟨some 37, _, _, _, _, _⟩) rfl (fun K hK => ?_) AllReadyH.nil
        rw [if_pos (by rfl)]
        go_wp2_with fail
        refine (family7_is Y1).mono ?_
        rintro e Y2 ⟨v1, rfl, hO, hB⟩
        obtain ⟨B1, d1, rfl, _, r1, _⟩ := hO.at_
        have hSn := hS.below hB
        have how := how.below hB
        clear hB hS hO
        refine hK.out _ _ (hSn) (fun hS => ?_)
        clear hK K
        try simp only [Act.put, zP, zQ, zR]
        clear hSn
        refine wpAnyH_ready (rs := [4]) (by kernel_rfl) (by simp) ?_
        refine AllReadyH.cons (o := ⟨some 40, _, _, _, _, _⟩) rfl (fun K hK => ?_) AllReadyH.nil
        rw [if_pos (by rfl)]
        go_wp2_with fail
        refine (rb7_is Y2 A2 n2 c2 u.un (HUp.out Y2 hS.low).un HUn.out h2).mono ?_
        rintro e Y4 ⟨v3, rfl, hO, hB⟩
        obtain ⟨B2, d2, rfl, _, r2, _⟩ := hO.at_
        have hSn := hS.below hB
        have how := how.below hB
        have r1 := r1.up7 hB
        clear hB hS hO
        refine hK.out _ _ (hSn) (fun hS => ?_)
        clear hK K
        try simp only [Act.put, zP, zQ, zR]
        clear hSn
        refine wpAnyH_ready (rs := [5]) (by kernel_rfl) (by simp) ?_
        refine AllReadyH.cons (o := ⟨some 41, _, _, _, _, _⟩) rfl (fun K hK => ?_) AllReadyH.nil
        rw [if_pos (by rfl)]
        generalize hq1 : (famB).length = m1 at *
        generalize hq2 : (puts u.un).length = m2 at *
        go_wp2
        have hL := rdl_new_at (W := Y4) (vs := [(B1, m1, d1), (B2, m2, d2)]) (ls := [famB, puts u.un]) ⟨r1, r2, trivial⟩ 38 #[.slice B1 m1 d1, .slice B2 m2 d2] rfl _ rfl
        have hSn := hS.below (bl_one Y4 (.cells #[.slice B1 m1 d1, .slice B2 m2 d2] 38))
        have how := how.below (bl_one Y4 (.cells #[.slice B1 m1 d1, .slice B2 m2 d2] 38))
        refine hK.out _ _ (hSn) (fun hS => ?_)
        clear hK K
        try simp only [Act.put, zP, zQ, zR]
        clear hSn r1 r2 hq1 hq2
        have HMd := Lib.hid (made7_is _ 15 (some ⟨Y4.heap.size, 0, none⟩) 2 2 [famB, puts u.un] hL (by omega) HLg.out)
        rw [HFg.out] at HMd
        clear hL
        generalize Y4.alloc (.cells #[.slice B1 m1 d1, .slice B2 m2 d2] 38) = Y5 at *
        refine wpAnyH_ready (rs := [6]) (by kernel_rfl) (by simp) ?_
        refine AllReadyH.cons (o := ⟨some 42, _, _, _, _, _⟩) rfl (fun K hK => ?_) AllReadyH.nil
        rw [if_pos (by rfl)]
        go_wp2_with fail
        refine (HMd.out).mono ?_
        rintro e Y6 ⟨B6, d6, rfl, hbd, hB⟩
        have hbd := hbd.low (lo' := w.heap.size + 1) hS.bx.lt
        have hSn := hS.below hB
        have how := how.below hB
        clear hB hS HMd
        refine hK.out _ _ (hSn) (fun hS => ?_)
        clear hK K
        try simp only [Act.put, zP, zQ, zR]
        clear hSn
        generalize hq4 : (goneV u).length = m4 at *
        generalize hq5 : lfl 128 (goneV u) = f4 at *
        refine wpAnyH_ready (rs := [7]) (by kernel_rfl) (by simp) ?_
        refine AllReadyH.cons (o := ⟨some 43, _, _, _, _, _⟩) rfl (fun K hK => ?_) AllReadyH.nil
        rw [if_pos (by rfl)]
        refine one_raw_wp _ rfl f4 15 B6 m4 d6 rfl ?_
        have hS6 := hS
        refine hK.out _ _ (hS.below (bl_one Y6 _)) (fun hS => ?_)
        clear hK K
        try simp only [Act.put, zP, zQ, zR]
        refine wpAnyH_ready (rs := [8]) (by kernel_rfl) (by simp) ?_
        refine AllReadyH.cons (o := ⟨some 44, _, _, _, _, _⟩) rfl (fun K hK => ?_) AllReadyH.nil
        rw [if_pos (by rfl)]
        refine app_w_wp _ _ rfl how hS6.bx.lt (by have := write_len u.at_; simp; try omega) hbd rfl rfl ?_
        intro v8 Y7 ho7 hb7 hg7 hold7
        have hS7 := hS6.low1 hb7
        have ho7 : OwnW (w.heap.size + 1) Y7 v8 ((writeR u.at_ ++ [rawW 128 14 (reachV u)]) ++ [rawW 128 15 (goneV u)]) := by rw [show ((writeR u.at_ ++ [rawW 128 14 (reachV u)]) ++ [rawW 128 15 (goneV u)] : List Raw) = (writeR u.at_ ++ [rawW 128 14 (reachV u)]) ++ [(f4, 15, goneV u)] from by rw [← hq5]; rfl]; exact ho7
        clear how hbd hb7 hg7 hold7 hS6 hS hq4 hq5
        refine hK.out _ _ (hS7) (fun hS => ?_)
        clear hK K
        try simp only [Act.put, zP, zQ, zR]
        refine wpAnyH_take (i := 9) (oi := ⟨some 4, _, _, _, _, _⟩) (v := ?_) rfl (by kernel_rfl) (by kernel_rfl) (by kernel_rfl) (fun _ _ _ h => h) (Or.inl ⟨by rfl, ?_⟩) hS ?_
        rotate_left
        · intro wq hq
          first | (go_simp; done) | (go_simp; rfl)
        try simp only [Act.put, zP, zQ, zR]
        refine wpAnyH_done (by kernel_rfl) ?_ _
        have HS := Lib.hid hS7
        have HOw := Lib.hid ho7
        clear hS hS7 ho7
        go_wp2_with fail
        refine (sort_raw (w.heap.size + 1) _ _ ((writeR u.at_ ++ [rawW 128 14 (reachV u)]) ++ [rawW 128 15 (goneV u)]) HOw.out HS.out.bx.lt HNd.out (by have := HTl.out; omega)).mono ?_
        rintro e Y ⟨rfl, hB, A9, c9, ss, hv, hrd, hpm, hso⟩
        subst hv
        have HEnd : Hid (RawsP w u (.returned (.tuple #[.slice A9 ((writeR u.at_ ++ [rawW 128 14 (reachV u)]) ++ [rawW 128 15 (goneV u)] : List Raw).length c9, .int .i64 0])) Y) := Lib.hid (by
          rw [HPre.out] at hpm
          obtain rfl := sorted_raws hpm hso
          have hl : ((writeR u.at_ ++ [rawW 128 14 (reachV u)]) ++ [rawW 128 15 (goneV u)] : List Raw).length = (rawsU u).length := by rw [HPre.out]; exact (hpm.length_eq).symm
          rw [hl] at hrd ⊢
          exact ⟨HS.out.low.trans (hB.mono (Nat.le_succ _)), Or.inr ⟨HWe.out, A9, c9, rfl, hrd⟩⟩)
        clear hB hrd hpm hso
        generalize ((writeR u.at_ ++ [rawW 128 14 (reachV u)]) ++ [rawW 128 15 (goneV u)] : List Raw).length = tl at *
        go_wp2
        go_ret2
        exact HEnd.out
    · have HWr2 := Lib.hid (HWr.out.mono (R' := fun e w' => e = .returned (.tuple #[.slice none 0 0, .int .i64 (writeE u.at_)]) ∧ Below (w.alloc (.cells (upc cs u.nv u.nl (.slice A1 n1 c1) (.slice A2 n2 c2)).toArray 34)).heap.size (w.alloc (.cells (upc cs u.nv u.nl (.slice A1 n1 c1) (.slice A2 n2 c2)).toArray 34)) w') (by
        rintro e w' ⟨hB, hp⟩
        rw [if_neg hw] at hp
        exact ⟨hp, hB⟩))
      have HEnd : Hid (∀ Y, Below w.heap.size w Y → RawsP w u (.returned (.tuple #[.slice none 0 0, .int .i64 (writeE u.at_)])) Y) := Lib.hid (fun Y hB => ⟨hB, Or.inl ⟨HRn.out, hw, rfl⟩⟩)
      clear HWr
      generalize writeE u.at_ = we at *
      have e0 : (we != 0) = true := by simpa using hw
      clear hw
      go_enter Tryz.func49, Tryz.ntmps49
      go_wp2_with (first | (refine upa_fetch rfl _ rfl w.heap.size HS.out.bx rfl ?_) | fail)
      refine HWr2.out.mono ?_
      rintro e W2 ⟨rfl, hB⟩
      have HS2 := Lib.hid (HS.out.below hB)
      clear hB hr44 HWr2
      go_wp2
      go_ret2
      exact HEnd.out _ HS2.out.low
end Go.Proofs.YtdgoeibfggjbmaaGreatDoor
namespace Go.Proofs.YtdgoeibfggjbmaaGreatDoor
open Go.RowKit
set_option maxRecDepth 100000
set_option linter.unusedSimpArgs false
set_option linter.unusedVariables false

theorem raws_val {u : Up} (hu : UpOk u) (hr : rightU u = true) (hw : u.re ≠ [] → writeE u.at_ = 0) (h1 : u.re.length ≤ 900000) (h2 : u.un.length ≤ 900000) : ∀ r ∈ rawsU u, r.2.2.length ≤ 140737488355328 := by
  unfold rightU at hr
  simp only [Bool.and_eq_true] at hr
  have hpr := puts_le (rights_all hu.re hr.2.1)
  have hpu := puts_le (rights_all hu.un hr.1)
  have hf3 : famB.length = 3 := rfl
  have hnx : (nextB u.nv u.nl).length ≤ 100 := by unfold nextB nb; split <;> simp <;> omega
  intro r hm
  have hm := (raws_perm u).mem_iff.1 hm
  unfold preU at hm
  rcases List.mem_append.1 hm with hm | hm
  · by_cases hre : u.re = []
    · rw [if_pos hre] at hm; cases hm
    · rw [if_neg hre] at hm
      rcases List.mem_append.1 hm with hm | hm
      · obtain ⟨_, p1, p2, p3⟩ := writeE_parts (hw hre)
        have := enc_val (write_enc hu.at_ p1 p2 p3 r hm)
        omega
      · rw [List.mem_singleton] at hm
        subst hm
        show (reachV u).length ≤ _
        unfold reachV
        simp only [List.length_append]
        omega
  · unfold goneR at hm
    by_cases hun : u.un = []
    · rw [if_pos hun] at hm; cases hm
    · rw [if_neg hun, List.mem_singleton] at hm
      subst hm
      show (goneV u).length ≤ _
      unfold goneV
      simp only [List.length_append]
      omega
theorem raws_join (u : Up) (m : Nat) (hm : m ≤ (rawsU u).length) (h : ∀ j (hj : j < (rawsU u).length), j < m → encE (rawsU u)[j] = 0) : (joinB ((rawsU u).take m)).length ≤ 99900000 := by
  have h1 := joinB_len ((rawsU u).take m) (fun r hr => by
    obtain ⟨j, hj, rfl⟩ := List.getElem_of_mem hr
    rw [List.getElem_take]
    have : j < m := by simp at hj; omega
    exact h j (by simp at hj; omega) this)
  have h2 := raws_len u
  have h3 : ((rawsU u).take m).length ≤ 10 := by simp; omega
  omega
theorem joinE_all {rs : List Raw} (h : joinE rs = 0) : ∀ r ∈ rs, encE r = 0 := by
  intro r hr
  unfold joinE at h
  cases hf : rs.find? (fun r => decide (encE r ≠ 0)) with
  | none =>
    rw [List.find?_eq_none] at hf
    simpa using hf r hr
  | some x =>
    rw [hf] at h
    have := List.find?_some hf
    simp at this
    exact absurd h this
theorem raws_jlen {u : Up} (h : joinE (rawsU u) = 0) : (joinB (rawsU u)).length ≤ 99900000 := by
  have := raws_join u (rawsU u).length (Nat.le_refl _) (fun j hj _ => joinE_all h _ (List.getElem_mem hj))
  rwa [List.take_length] at this
def PutU (w : World) (u : Up) (e : Ending) (w' : World) : Prop := ∃ v, e = .returned (.tuple #[v, .int .i64 (upE u)]) ∧ OwnB w.heap.size w' v (bodyU u) ∧ Below w.heap.size w w'
theorem PutU.no {w w' : World} {u : Up} {k : Int} (hB : Below w.heap.size w w') (h : upE u = k) (hk : k ≠ 0) : PutU w u (.returned (.tuple #[.slice none 0 0, .int .i64 k])) w' :=
  ⟨_, by rw [h], by unfold bodyU; rw [h, if_neg hk]; exact OwnB.nil_ _ _, hB⟩
theorem upc_att {w : World} {cs : List Value} {a : Att} (h : RdAt w w.heap.size cs a) (hip : a.pm.ip.length = 16) : cs.length = 27 := by
  obtain ⟨_, _, _, _, _, _, rfl, _⟩ := h.ex
  exact attV_len _ _ _ _ hip

set_option maxHeartbeats 4000000 in
theorem put7_is (w : World) (E : EnvK w) (u : Up) (hu : UpOk u) (cs : List Value) (hcs : RdAt w w.heap.size cs u.at_) (A1 : Option Addr) (n1 c1 : Nat) (A2 : Option Addr) (n2 c2 : Nat) (hr : UpRd w u A1 n1 A2 n2) (h1 : n1 ≤ 900000) (h2 : n2 ≤ 900000) :
    Calls Tryz.prog 18 #[.agg (upc cs u.nv u.nl (.slice A1 n1 c1) (.slice A2 n2 c2)).toArray] w (PutU w u) := by
  have hc := upc_att hcs hu.at_.ip
  have hal := bl_one w (.cells (upc cs u.nv u.nl (.slice A1 n1 c1) (.slice A2 n2 c2)).toArray 34)
  have HS : Hid (PbS w (w.alloc (.cells (upc cs u.nv u.nl (.slice A1 n1 c1) (.slice A2 n2 c2)).toArray 34)) cs u (.slice A1 n1 c1) (.slice A2 n2 c2)) := Lib.hid ⟨UpBox.new w hc hu.nl, hal⟩
  have HI := Lib.hid (fun W (hB : Below w.heap.size w W) => isRight7_is W u hu cs hc A1 n1 c1 A2 n2 c2 (hr.up hB) h1 h2)
  have HRw := Lib.hid (fun W (hB : Below w.heap.size w W) (q1 : rightsB u.re = true) (q2 : rightsB u.un = true) => raws7_is W (E.below hB) u hu cs ((hcs.below hB).more hB.size) A1 n1 c1 A2 n2 c2 (hr.up hB) h1 h2 q1 q2)
  have HL := Lib.hid hr.re.len
  have HL2 := Lib.hid hr.un.len
  have HOk := Lib.hid hu
  clear hr hu hcs hc E hal
  cases hru : rightU u
  · have HEnd := Lib.hid (fun W (hB : Below w.heap.size w W) => PutU.no hB (show upE u = 2 from by unfold upE; rw [if_pos hru]) (by decide))
    rw [hru] at HI
    clear hru HRw
    go_enter Tryz.func18, Tryz.ntmps18
    go_wp2_with (first | (refine up_fetch rfl _ rfl w.heap.size HS.out.bx rfl ?_) | fail)
    refine (HI.out _ HS.out.low).mono ?_
    rintro e W2 ⟨rfl, hB⟩
    have HS2 := Lib.hid (HS.out.below hB)
    clear hB HI HS
    go_wp2
    go_ret2
    exact HEnd.out _ HS2.out.low
  · have HR := Lib.hid hru
    have hq : rightsB u.re = true ∧ rightsB u.un = true := by
      unfold rightU at hru
      simp only [Bool.and_eq_true] at hru
      exact ⟨hru.2.1, hru.1⟩
    have HQ := Lib.hid hq
    rw [hru] at HI
    clear hru hq
    go_enter Tryz.func18, Tryz.ntmps18
    go_wp2_with (first | (refine up_fetch rfl _ rfl w.heap.size HS.out.bx rfl ?_) | fail)
    refine (HI.out _ HS.out.low).mono ?_
    rintro e W2 ⟨rfl, hB⟩
    have HS2 := Lib.hid (HS.out.below hB)
    clear hB HI HS
    go_wp2_with (first | (refine up_fetch rfl _ rfl w.heap.size HS2.out.bx rfl ?_) | fail)
    refine (HRw.out _ HS2.out.low HQ.out.1 HQ.out.2).mono ?_
    rintro e W3 ⟨hB, hcase⟩
    have HS3 := Lib.hid (HS2.out.below hB)
    clear hB HRw HS2
    rcases hcase with ⟨hne, hwe, rfl⟩ | ⟨hwe, A, c, rfl, hrd⟩
    · have HEnd := Lib.hid (fun W (hB : Below w.heap.size w W) => PutU.no hB (show upE u = writeE u.at_ from by unfold upE; rw [if_neg (by rw [HR.out]; decide), if_pos ⟨hne, hwe⟩]) hwe)
      generalize writeE u.at_ = we at *
      have e0 : (we != 0) = true := by simpa using hwe
      clear hwe hne
      go_wp2
      go_ret2
      exact HEnd.out _ HS3.out.low
    · have HJ := Lib.hid (join_is W3 A (rawsU u).length c (rawsU u) hrd (by have := raws_len u; omega) (raws_val HOk.out HR.out hwe (by have := HL.out; omega) (by have := HL2.out; omega)) (fun m hm h => raws_join u m hm h))
      have hE0 : upE u = if joinE (rawsU u) ≠ 0 then joinE (rawsU u) else if 4077 < 4 + (joinB (rawsU u)).length then 5 else 0 := by
        unfold upE
        rw [if_neg (by rw [HR.out]; decide), if_neg (fun h => h.2 (hwe h.1))]
      have HE0 := Lib.hid hE0
      have HBo : Hid (upE u = 0 → bodyU u = upB u) := Lib.hid (fun h => by unfold bodyU; rw [if_pos h])
      have HUb : Hid ([be 2 0, be 2 ((joinB (rawsU u)).length : Int), joinB (rawsU u)].flatten = upB u) := Lib.hid (by
        have e2 : be 2 0 = [0, 0] := by decide
        rw [e2]; simp [upB])
      have hjl : joinE (rawsU u) = 0 → (joinB (rawsU u)).length ≤ 99900000 := raws_jlen
      clear hwe hrd hE0
      generalize hrs : rawsU u = rs at *
      generalize hrl : rs.length = rl at *
      clear hrl hrs
      by_cases hj : joinE rs = 0
      · go_wp2_with fail
        refine HJ.out.mono ?_
        rintro e W4 ⟨hB, hp⟩
        rw [if_pos hj] at hp
        obtain ⟨v, rfl, hO⟩ := hp
        obtain ⟨A4, c4, rfl, _, hr4, _⟩ := hO.at_
        have HS4 := Lib.hid (HS3.out.below hB)
        have HR4 := Lib.hid hr4
        have HOct := Lib.hid hO.oct
        rw [if_neg (by simp [hj])] at HE0
        have hjb := hjl hj
        clear hjl
        generalize joinB rs = jb at *
        clear hB hO hr4 HJ HS3 hj
        by_cases hlen : 4077 < 4 + jb.length
        · have HEnd := Lib.hid (fun W (hB : Below w.heap.size w W) => PutU.no hB (show upE u = 5 from by rw [HE0.out, if_pos hlen]) (by decide))
          have hgt : 4 + (jb.length : Int) > 4077 := by omega
          clear hlen
          go_wp2
          go_ret2
          exact HEnd.out _ HS4.out.low
        · have HZ : Hid (upE u = 0) := Lib.hid (by rw [HE0.out, if_neg hlen])
          have hgt : ¬ (4 + (jb.length : Int) > 4077) := by omega
          have hlen2 : jb.length ≤ 4073 := by omega
          clear hlen
          go_wp2_with fail
          refine (numU7_is W4 0 2 (by omega) (by omega) (by omega) (by decide) (by omega)).mono ?_
          rintro e W5 hnp
          obtain ⟨rfl, r1, hB⟩ := hnp.rd7
          have HS5 := Lib.hid (HS4.out.below hB)
          have HR5 := Lib.hid (HR4.out.up7 hB)
          have HA5 := Lib.hid r1
          clear hnp r1 hB HS4 HR4
          go_wp2_with fail
          refine (numU7_is W5 (jb.length : Int) 2 (by omega) (by omega) (by omega) (by omega) (by omega)).mono ?_
          rintro e W6 hnp
          obtain ⟨rfl, r2, hB⟩ := hnp.rd7
          have HS6 := Lib.hid (HS5.out.below hB)
          have hL := rdl_new_at (W := W6) (vs := [(some ⟨W4.heap.size, 0, none⟩, 2, 2), (some ⟨W5.heap.size, 0, none⟩, 2, 2), (A4, jb.length, c4)]) (ls := [be 2 0, be 2 (jb.length : Int), jb]) ⟨HA5.out.up7 hB, r2, HR5.out.up7 hB, trivial⟩ 38 #[.slice (some ⟨W4.heap.size, 0, none⟩) 2 2, .slice (some ⟨W5.heap.size, 0, none⟩) 2 2, .slice A4 jb.length c4] rfl _ rfl
          have HC := Lib.hid (concat_is _ _ 3 3 _ hL (by omega) (by rw [HUb.out]; unfold upB; have := congrArg List.length HUb.out; simp only [List.flatten_cons, List.flatten_nil, List.length_append, List.length_nil, be_len, upB] at this; simp only [List.length_append, List.length_cons, List.length_nil, be_len]; omega))
          have HS7 := Lib.hid (HS6.out.below (bl_one W6 (.cells #[.slice (some ⟨W4.heap.size, 0, none⟩) 2 2, .slice (some ⟨W5.heap.size, 0, none⟩) 2 2, .slice A4 jb.length c4] 38)))
          rw [HUb.out] at HC
          have hs7 : w.heap.size ≤ (W6.alloc (.cells #[.slice (some ⟨W4.heap.size, 0, none⟩) 2 2, .slice (some ⟨W5.heap.size, 0, none⟩) 2 2, .slice A4 jb.length c4] 38)).heap.size := HS7.out.low.size
          clear hnp r2 hB hL HS5 HR5 HA5 HS6
          go_wp2_with fail
          refine HC.out.mono ?_
          rintro e W8 ⟨x, rfl, hO, hB⟩
          have HEnd : Hid (PutU w u (.returned (.tuple #[x, .int .i64 0])) W8) := Lib.hid ⟨x, by rw [HZ.out], by rw [HBo.out HZ.out]; exact hO.low hs7, HS7.out.low.trans (hB.mono hs7)⟩
          clear hO hB hs7
          go_wp2
          go_ret2
          exact HEnd.out
      · go_wp2_with fail
        refine HJ.out.mono ?_
        rintro e W4 ⟨hB, hp⟩
        rw [if_neg hj] at hp
        subst hp
        have HEnd := Lib.hid (fun W (hB : Below w.heap.size w W) => PutU.no hB (show upE u = joinE rs from by rw [HE0.out, if_pos hj]) hj)
        have HS4 := Lib.hid (HS3.out.below hB)
        clear hB HE0 HJ HBo HUb hjl
        generalize joinE rs = je at *
        have e0 : (je != 0) = true := by simpa using hj
        clear hj
        go_wp2
        go_ret2
        exact HEnd.out _ HS4.out.low
end Go.Proofs.YtdgoeibfggjbmaaGreatDoor
