/-
  Layer 3 (frame): Feed.
-/
import Derived.Test.YtoiigalaijnoeaaFrF
namespace Go.Proofs.Ytoiigalaijnoeaa
open Go.RowKit
set_option linter.unusedSimpArgs false
set_option linter.unusedVariables false

theorem grown_undrew {w w' : World} {k : Nat} {r : Option Nat} (h : (w.drewN k).grownBy w' r) : w.grownBy w' r := ⟨h.os, h.tape, h.output, h.size, h.block⟩
set_option maxHeartbeats 4000000 in
set_option maxRecDepth 100000 in
theorem feed_is (w : World) (g : Nat) (q : Option Nat) (C0 b0 : List Int) (A0 : Option Addr) (c0 : Nat) (h : Waiting w g q C0) (hr : Rd w w.heap.size A0 b0.length b0) (hc : b0.length ≤ c0) (hA : ∀ b off, A0 = some ⟨b, off, none⟩ → b ≠ g ∧ some b ≠ q) (hm : b0.length ≤ 4000000000000) :
    Calls Try.prog 20 #[.pointer (some ⟨g, 0, none⟩), .slice A0 b0.length c0] w (Fed w g q (.wait C0) b0) := by
  have hgl : g < w.heap.size := by
    obtain ⟨_, _, _, _, hS, _, _⟩ := h.ex
    exact Blk.lt hS
  have hC0 := h.quiet.small
  have H := Lib.hid h
  have HR := Lib.hid hr
  have HA := Lib.hid hA
  clear h hr hA
  go_enter Try.func20, Try.ntmps20
  go_wp2
  go_loopw [1, 5] (fun bv told wr => FeedRel w g q C0 b0 bv told wr) (fun bv _ _ => (lenOfV bv))
  case atStart =>
    exact ⟨b0, [], A0, c0, q, none, .wait C0, rfl, hc, HR.out, HA.out, Nat.le_refl _, ⟨[], World.ownsRow_nil _ _ _ _, Ms.nil_⟩, H.out, ⟨H.out.quiet, H.out.oct⟩, .inl rfl, (fun i e => by cases e), Fr.refl _ _ _, rfl, by simp⟩
  case round =>
    obtain ⟨R, T, A, c, q', d, st, rfl, hRc, hR, hRA, hRb, hT, hI, hF, hAt, hD, hFr, hTy, hp⟩ := hrel
    by_cases hn0 : R.length = 0
    · have HFed : Hid (Fed w g q (.wait C0) b0 (.returned u5) wr) := Lib.hid (fed_of hT hI hAt hD hFr hTy hp (by rw [List.eq_nil_of_length_eq_zero hn0]; exact feed_nil hF))
      clear hT hI hAt hD hFr hTy hp hR hRA H HR HA hF
      go_wp2
      go_ret
      exact HFed.out
    have hpos : 0 < R.length := by omega
    have hposI : (R.length : Int) > 0 := by omega
    cases st with
    | bad f =>
      have HFed : Hid (Fed w g q (.wait C0) b0 (.returned u5) wr) := Lib.hid (fed_of hT hI hAt hD hFr hTy hp rfl)
      obtain ⟨A1, n1, hS, _, _, _⟩ := hI
      have c5 : wr.cell? ⟨g, 5, none⟩ = some (.bool true) := Blk.cell hS 5
      clear hT hAt hD hFr hTy hp hR hRA H HR HA hF hS
      go_wp2
      go_ret
      exact HFed.out
    | wait C =>
      obtain ⟨cv, code, sub, dv, hS, hO, hq⟩ := hI.ex
      subst hq
      have hQ := hI.quiet
      have hsm := hQ.small
      have hmp := missN_pos hQ
      have HCame : Hid (Came w g q u5 T R A c C (if C.length < 19 then 0 else lenI C) code sub dv cv wr) := Lib.hid ⟨hS, hO, hT, hFr, hAt, hR⟩
      have hcnt := told_count hp
      obtain ⟨Ac, kc, rfl, hkc, hRdC, hAc⟩ := own_at hO hI.oct
      have HMiss := Lib.hid (fun (wz : World) (hz : StrB wz g (.slice Ac C.length kc) (if C.length < 19 then 0 else lenI C) code sub dv false) => missing_is wz g Ac kc code sub dv C hz hQ)
      have c5 : wr.cell? ⟨g, 5, none⟩ = some (.bool false) := Blk.cell hS 5
      have HS := Lib.hid hS
      have HO := Lib.hid hO
      have HRA := Lib.hid hRA
      have HP := Lib.hid hp
      have HQ := Lib.hid hQ
      have HOC := Lib.hid hI.oct
      have HD := Lib.hid hD
      have hmm : C.length + missN C ≤ 4096 := by
        unfold missN
        split
        · omega
        · rename_i h19
          have := lenN_none (hQ.resolve_left h19).1
          omega
      obtain ⟨b, off, rfl, hb, hcell⟩ := hR.at_ hpos
      have HCell := Lib.hid hcell
      clear hT hAt hD hFr hTy hp hR hRA H HR HA hF hS hO hI hQ hcell hRdC hAc
      -- the length that is taken
      obtain ⟨m, hmdef⟩ : ∃ m, m = min (missN C) R.length := ⟨_, rfl⟩
      have hm1 : 0 < m := by omega
      have hm2 : m ≤ R.length := by omega
      have hm3 : m ≤ missN C := by omega
      have hmin : (if R.length < missN C then (R.length : Int) else (missN C : Int)) = (m : Int) := by split <;> omega
      have HMdef := Lib.hid hmdef
      clear hmdef
      generalize hX : missN C = X at *
      have HX := Lib.hid hX
      clear hX
      go_wp2_with fail
      refine (HMiss.out _ HS.out).mono ?_
      rintro e wq ⟨rfl, kq, rfl⟩
      go_wp2_with fail
      have e0 : wr.cell? ⟨g, 0, none⟩ = some (.slice Ac C.length kc) := Blk.cell HS.out 0
      have hmc : (m : Int) ≤ (c : Int) := by omega
      have HTl : Hid ((R.take m).length = m) := Lib.hid (by simp; omega)
      have HSrc : Hid (∀ i, i < (R.take m).length → wr.cell? ⟨b, off + i, none⟩ = some (.int .u8 ((R.take m).getD i 0))) := Lib.hid fun i hi => by
        have him : i < m := by rw [HTl.out] at hi; exact hi
        rw [HCell.out i (by omega)]
        simp [List.getD, him]
      obtain ⟨C', hC'⟩ : ∃ C', C ++ R.take m = C' := ⟨_, rfl⟩
      have hCl : C'.length = C.length + m := by rw [← hC', List.length_append, HTl.out]
      have HCl := Lib.hid hCl
      have hCl5 : C'.length ≤ 4096 := by omega
      have HOct' : Hid (Oct C') := Lib.hid (by rw [← hC']; exact oct_app HOC.out (oct_take HCame.out.rd.oct m))
      have HC' := Lib.hid hC'
      clear hC' hCl
      have HLe : Hid (C.length + (R.take m).length ≤ 5000) := Lib.hid (by rw [HTl.out]; omega)
      go_region_law ((refine step_come rfl (.tmp 28) (.tmp 31) rfl (.slice Ac C.length kc) C (R.take m) (by simp [Act.eval, Act.put]) HO.out b off m c HTl.out (by simp [Act.eval, Act.put]) HSrc.out HLe.out ?_
                      intro v' w5 ho5 hg5' hat5
                      have hg5 := grown_undrew hg5'
                      rw [HC'.out] at ho5
                      obtain ⟨A5, k5, rfl, hk5, hR5, hA5⟩ := own_at ho5 HOct'.out
                      have HR5 := Lib.hid hR5
                      have HA5 := Lib.hid hA5
                      have HO5 := Lib.hid ho5
                      have HG5 := Lib.hid hg5
                      have HAT5 := Lib.hid hat5
                      have hS5 : StrB w5 g (.slice Ac C.length kc) (if C.length < 19 then 0 else lenI C) code sub dv false := Blk.grown HS.out hg5 (fun e => own_ne HO.out HS.out (by decide) e.symm)
                      have d0 : w5.cell? ⟨g, 0, none⟩ = some (.slice Ac C.length kc) := Blk.cell hS5 0
                      have f0 : w5.frozen? ⟨g, 0, none⟩ = false := Blk.frozen hS5 0
                      clear ho5 hg5 hg5' hat5 hS5 hR5 hA5))
      have HK6 : Hid (Came w g q u5 T R (some ⟨b, off, none⟩) c C' (if C.length < 19 then 0 else lenI C) code sub dv (.slice A5 C'.length k5) (w5.setCell ⟨g, 0, none⟩ (.slice A5 C'.length k5))) := Lib.hid (by
        have h1 := came_step (news := R.take m) (c := c) hgl HCame.out HRA.out (by rw [HC'.out]; exact HO5.out) HG5.out HAT5.out
        rw [HC'.out] at h1
        exact h1)
      have hR5' : Rd (w5.setCell ⟨g, 0, none⟩ (.slice A5 C'.length k5)) (w5.setCell ⟨g, 0, none⟩ (.slice A5 C'.length k5)).heap.size A5 C'.length C' := by
        obtain ⟨Ay, ky, e, _, hR, _⟩ := own_at HK6.out.own HOct'.out
        injection e with e1 e2 e3
        subst e1
        exact hR
      have HRC := Lib.hid hR5'
      have HNg : Hid (∀ b off, A5 = some ⟨b, off, none⟩ → b ≠ g) := Lib.hid fun b off e hbg => own_ne HK6.out.own HK6.out.str (by decide) ((HA5.out b off e).trans (by rw [hbg]))
      clear HCame HS HO HSrc HCell HMiss HG5 HAT5 HO5 HR5 HA5 d0 f0 e0 c5 hmc hR5'
      generalize w5.setCell ⟨g, 0, none⟩ (.slice A5 C'.length k5) = w6 at *
      obtain ⟨A7, hA7, HA7, HR7⟩ : ∃ A7 : Option Addr, (if c = m then some (⟨b, off, none⟩ : Addr) else some ⟨b, off + m, none⟩) = A7 ∧ Hid (∀ b off, A7 = some ⟨b, off, none⟩ → b ≠ g ∧ some b ≠ q) ∧ Hid (∀ W, Rd W w.heap.size (some ⟨b, off, none⟩) R.length R → Rd W w.heap.size A7 (R.drop m).length (R.drop m)) := by
        refine ⟨_, rfl, Lib.hid fun b' off' e => ?_, Lib.hid fun W hW => ?_⟩
        · have : b' = b := by split at e <;> (injection e with e; injection e with e; exact e.symm)
          subst this
          exact HRA.out _ _ rfl
        · have h1 := hW.cut (k := m) (m := R.length - m) (by omega) hRc
          rw [List.take_of_length_le (by simp)] at h1
          have e : (if c = m then some (⟨b, off, none⟩ : Addr) else (some (⟨b, off, none⟩ : Addr)).map (fun x => x.add m)) = (if c = m then some (⟨b, off, none⟩ : Addr) else some ⟨b, off + m, none⟩) := by
            split
            · rfl
            · simp [Addr.add_lit]
          rw [e] at h1
          rwa [List.length_drop]
      have hRl : R.length - m = (R.drop m).length := by simp
      have hRlt : (R.drop m).length < R.length := by simp; omega
      have hRc7 : (R.drop m).length ≤ c - m := by simp; omega
      have HP7 : Hid (feed (.wait C0) b0 = (T ++ (feed (.wait C') (R.drop m)).1, (feed (.wait C') (R.drop m)).2)) := Lib.hid (by rw [← HC'.out, ← feed_move]; exact HP.out)
      have hmI : (m : Int) ≤ (R.length : Int) := by omega
      generalize hRg : R.drop m = R' at *
      clear hRg
      have k0 : w6.cell? ⟨g, 0, none⟩ = some (.slice A5 C'.length k5) := Blk.cell HK6.out.str 0
      by_cases h19 : C.length < 19
      · by_cases h19' : C'.length < 19
        · have k1 : w6.cell? ⟨g, 1, none⟩ = some (.int .i64 0) := by rw [Blk.cell HK6.out.str 1, if_pos h19]; rfl
          have t1 : ((C'.length : Int) == 19) = false := by simp; omega
          go_wp2
          go_quiet (fail)
          go_wp2
          have K := HK6.out.drewN nq
          exact ⟨rel_wait (by rw [if_pos h19, if_pos h19']) K.str K.own K.told K.fr K.at_ (HR7.out _ K.rd) hRc7 HA7.out (by omega) (.inl h19') HOct'.out HP7.out, hRlt⟩
        · have hC19 : C'.length = 19 := by
            have h1 := HCl.out
            have h2 := HX.out
            unfold missN at h2
            rw [if_pos h19] at h2
            omega
          have k1 : w6.cell? ⟨g, 1, none⟩ = some (.int .i64 0) := by rw [Blk.cell HK6.out.str 1, if_pos h19]; rfl
          have t1 : ((C'.length : Int) == 19) = true := by simp; omega
          have hstr : StrB w6 g (.slice A5 C'.length k5) 0 code sub dv false := by have := HK6.out.str; rwa [if_pos h19] at this
          have HSTR := Lib.hid hstr
          have HC19 := Lib.hid hC19
          have hge : 19 ≤ C'.length := by omega
          clear hstr hC19
          go_wp2_with fail
          refine (look_is w6 g A5 C'.length k5 C' code sub dv false HSTR.out HRC.out (by omega) hk5 (by omega) HNg.out).mono ?_
          rintro e w7 ⟨rfl, hgr7, hlk⟩
          clear k0 k1 t1
          cases hh : hdr C' with
          | some f =>
            rw [hh] at hlk
            obtain ⟨A1, n1, hs7, hfr7⟩ := hlk
            obtain ⟨_, _, hf7, hr7⟩ := came_only hgl HK6.out HRA.out hgr7 none (.inr rfl)
            obtain ⟨dd, hbr, hdd⟩ := broken_of hs7 hfr7
            have ht7 : ∀ k, Told w.heap.size (w7.drewN k) dd u5 T := fun k => HK6.out.told.keep (w' := w7.drewN k) HK6.out.own rfl fun i hi hi2 hi3 hi4 => ⟨hgr7.block i hi2 (fun e => by injection e with e; omega), fun e => by have := (hdd i e.symm).1; omega⟩
            have HRel : Hid (∀ k, FeedRel w g q C0 b0 (.slice A7 R'.length (c - m)) u5 (w7.drewN k)) := Lib.hid fun k => by
              refine rel_bad (W := w7.drewN k) (d := dd) (IsS.keep (q := none) (st := .bad f) hbr rfl (fun _ _ => rfl) (fun _ _ => rfl)) (fun i e => ⟨Nat.le_trans HK6.out.fr.size (hdd i e).1, (hdd i e).2⟩) (ht7 k) (hf7.drewN k) ((HR7.out _ hr7).keep fun _ _ => rfl) hRc7 HA7.out (by omega) (hdr_fine HOct'.out hh) ?_
              rw [HP7.out, feed_bad hge hh]
              simp
            have j1 : w7.cell? ⟨g, 1, none⟩ = some (.int .i64 0) := Blk.cell hs7 1
            clear hs7 hfr7 ht7 hf7 hr7 hgr7 hh hbr hdd
            go_wp2
            go_quiet (fail)
            go_wp2
            exact ⟨HRel.out _, hRlt⟩
          | none =>
            rw [hh] at hlk
            obtain ⟨dv7, hs7⟩ := hlk
            obtain ⟨ho7, ht7, hf7, hr7⟩ := came_only hgl HK6.out HRA.out hgr7 _ (.inl rfl)
            have hl := lenN_none hh
            have HK7 : Hid (Came w g q u5 T R (some ⟨b, off, none⟩) c C' (lenI C') 0 0 dv7 (.slice A5 C'.length k5) w7) := Lib.hid ⟨hs7, ho7, ht7, hf7, HK6.out.at_, hr7⟩
            have j0 : w7.cell? ⟨g, 0, none⟩ = some (.slice A5 C'.length k5) := Blk.cell hs7 0
            have j1 : w7.cell? ⟨g, 1, none⟩ = some (.int .i64 (lenI C')) := Blk.cell hs7 1
            have hlp : lenI C' > 0 := by omega
            have HH := Lib.hid hh
            have HL := Lib.hid hl
            clear hs7 ho7 ht7 hf7 hr7 hgr7 hh HK6 HSTR
            by_cases hfin : lenI C' = C'.length
            · have t2 : ((C'.length : Int) == lenI C') = true := by rw [hfin]; simp
              have HPF : Hid (feed (.wait C0) b0 = (T ++ [(kindI C', C'.drop 19)] ++ (feed (.wait []) R').1, (feed (.wait []) R').2)) := Lib.hid (by
                rw [HP7.out, feed_fin HH.out (by have := HL.out; omega)]
                simp)
              clear hl
              have HFin := Lib.hid hfin
              clear hfin
              go_wp2
              go_quiet (fail)
              go_wp2_with fail
              refine (finish_is _ g A5 C'.length k5 C' (lenI C') 0 0 dv7 (HK7.out.drewN nq).str ((by obtain ⟨Ay, ky, e, _, hR, _⟩ := own_at (HK7.out.drewN nq).own HOct'.out; injection e with e1 e2 e3; subst e1; exact hR)) (by omega) hk5 (by omega)).mono ?_
              rintro e w8 ⟨A1, rfl, hfr8, hgr8, hs8⟩
              obtain ⟨_, ht8, hf8, hr8⟩ := came_only hgl (HK7.out.drewN nq) HRA.out hgr8 none (.inr rfl)
              have HB8 := Lib.hid (fresh_body (lo := w.heap.size) hfr8 (HK7.out.drewN nq).fr.size)
              have HT8 := Lib.hid ht8
              have HF8 := Lib.hid hf8
              have HR8 := Lib.hid (HR7.out _ hr8)
              have HS8 := Lib.hid hs8
              clear ht8 hf8 hr8 hs8 hfr8 hgr8
              generalize kindI C' = kd at *
              generalize hbd : C'.drop 19 = bd at *
              generalize C'.length - 19 = nb at *
              clear hbd j0 j1 t2 hlp
              go_wp2_with (at_builtin; refine app_told rfl _ _ rfl HT8.out HF8.out.size (by omega) HB8.out rfl rfl ?_)
              intro v9 w9 ht9 hg9 hold9
              have HT9 := Lib.hid ht9
              have HG9 := Lib.hid hg9
              have HO9 := Lib.hid hold9
              clear ht9 hg9 hold9 HT8 HB8
              go_wp2
              exact ⟨rel_fin HS8.out HF8.out HR8.out HT9.out HG9.out HO9.out hRc7 HA7.out (by omega) HPF.out, hRlt⟩
            · have t2 : ((C'.length : Int) == lenI C') = false := by simp; omega
              have HQ' : Hid (Quiet C') := Lib.hid (.inr ⟨HH.out, by have := HC19.out; omega⟩)
              have h19'' := Lib.hid (h19')
              clear hl
              have HFin := Lib.hid hfin
              clear hfin
              go_wp2
              go_quiet (fail)
              go_wp2
              have K := HK7.out.drewN nq
              exact ⟨rel_wait (by rw [if_neg h19''.out]) K.str K.own K.told K.fr K.at_ (HR7.out _ K.rd) hRc7 HA7.out (by omega) HQ'.out HOct'.out HP7.out, hRlt⟩
      · have hCn : hdr C = none := (HQ.out.resolve_left h19).1
        have hl := lenN_none hCn
        have hn' : hdr C' = none := by rw [← HC'.out, hdr_app _ (by omega)]; exact hCn
        have hl' : lenI C' = lenI C := by rw [← HC'.out, lenI_app _ (by omega)]
        have hlN' : lenN C' = lenN C := by rw [← HC'.out, lenN_app _ (by omega)]
        have hmx : X = lenN C - C.length := by
          have h2 := HX.out
          unfold missN at h2
          rw [if_neg h19] at h2
          omega
        have hC19 : ¬ C'.length < 19 := by have := HCl.out; omega
        have hge : 19 ≤ C'.length := by omega
        have hstr : StrB w6 g (.slice A5 C'.length k5) (lenI C') code sub dv false := by have := HK6.out.str; rwa [if_neg h19, ← hl'] at this
        have HK7 : Hid (Came w g q u5 T R (some ⟨b, off, none⟩) c C' (lenI C') code sub dv (.slice A5 C'.length k5) w6) := Lib.hid ⟨hstr, HK6.out.own, HK6.out.told, HK6.out.fr, HK6.out.at_, HK6.out.rd⟩
        have k1 : w6.cell? ⟨g, 1, none⟩ = some (.int .i64 (lenI C')) := Blk.cell hstr 1
        have hlp : lenI C' > 0 := by omega
        have t0 : (lenI C' == 0) = false := by simp; omega
        have hlI : (lenN C' : Int) = lenI C' := by omega
        have hle : (C'.length : Int) ≤ lenI C' := by have := HCl.out; omega
        have HH := Lib.hid hn'
        have HLI := Lib.hid hlI
        have H19 := Lib.hid hC19
        clear HK6 hstr hCn hl hn' hl' hlN' hmx hlI hC19
        by_cases hfin : lenI C' = C'.length
        · have t2 : ((C'.length : Int) == lenI C') = true := by rw [hfin]; simp
          have HPF : Hid (feed (.wait C0) b0 = (T ++ [(kindI C', C'.drop 19)] ++ (feed (.wait []) R').1, (feed (.wait []) R').2)) := Lib.hid (by
            rw [HP7.out, feed_fin HH.out (by have := HLI.out; omega)]
            simp)
          have HFin := Lib.hid hfin
          clear hfin
          go_wp2
          go_quiet (fail)
          go_wp2_with fail
          refine (finish_is _ g A5 C'.length k5 C' (lenI C') code sub dv (HK7.out.drewN nq).str ((by obtain ⟨Ay, ky, e, _, hR, _⟩ := own_at (HK7.out.drewN nq).own HOct'.out; injection e with e1 e2 e3; subst e1; exact hR)) (by omega) hk5 (by omega)).mono ?_
          rintro e w8 ⟨A1, rfl, hfr8, hgr8, hs8⟩
          obtain ⟨_, ht8, hf8, hr8⟩ := came_only hgl (HK7.out.drewN nq) HRA.out hgr8 none (.inr rfl)
          have HB8 := Lib.hid (fresh_body (lo := w.heap.size) hfr8 (HK7.out.drewN nq).fr.size)
          have HT8 := Lib.hid ht8
          have HF8 := Lib.hid hf8
          have HR8 := Lib.hid (HR7.out _ hr8)
          have HS8 := Lib.hid hs8
          clear ht8 hf8 hr8 hs8 hfr8 hgr8
          generalize kindI C' = kd at *
          generalize hbd : C'.drop 19 = bd at *
          generalize C'.length - 19 = nb at *
          clear hbd k0 k1 t0 t2 hlp hle
          go_wp2_with (at_builtin; refine app_told rfl _ _ rfl HT8.out HF8.out.size (by omega) HB8.out rfl rfl ?_)
          intro v9 w9 ht9 hg9 hold9
          have HT9 := Lib.hid ht9
          have HG9 := Lib.hid hg9
          have HO9 := Lib.hid hold9
          clear ht9 hg9 hold9 HT8 HB8
          go_wp2
          exact ⟨rel_fin HS8.out HF8.out HR8.out HT9.out HG9.out HO9.out hRc7 HA7.out (by omega) HPF.out, hRlt⟩
        · have t2 : ((C'.length : Int) == lenI C') = false := by simp; omega
          have HQ' : Hid (Quiet C') := Lib.hid (.inr ⟨HH.out, by have := HLI.out; omega⟩)
          have HFin := Lib.hid hfin
          clear hfin
          go_wp2
          go_quiet (fail)
          go_wp2
          have K := HK7.out.drewN nq
          exact ⟨rel_wait (by rw [if_neg H19.out]) K.str K.own K.told K.fr K.at_ (HR7.out _ K.rd) hRc7 HA7.out (by omega) HQ'.out HOct'.out HP7.out, hRlt⟩
end Go.Proofs.Ytoiigalaijnoeaa
