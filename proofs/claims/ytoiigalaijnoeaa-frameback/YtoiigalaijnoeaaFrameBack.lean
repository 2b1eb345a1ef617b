/-
  FrameBack: the walk.
-/
import Derived.Test.YtoiigalaijnoeaaFrS
namespace Go.Proofs.Ytoiigalaijnoeaa
open Go.RowKit
set_option linter.unusedSimpArgs false
set_option linter.unusedVariables false

set_option maxHeartbeats 4000000 in
set_option maxRecDepth 100000 in
theorem frameBack_walk (w : World) (A : Option Addr) (n c : Nat) (ms : List Msg) (A2 : Option Addr) (n2 c2 : Nat) (xs : List Int) (hr : RdM w w.heap.size A n ms) (hm : n ≤ 140737488351232) (hr2 : RdI w w.heap.size A2 n2 xs) (hm2 : n2 ≤ 140737488351232) :
    Calls Try.prog 5 #[.slice A n c, .slice A2 n2 c2] w fun e w' => e = .returned (.bool true) ∧ Below w.heap.size w w' := by
  have HR := Lib.hid hr
  have HR2 := Lib.hid hr2
  have hlen := Lib.hid hr.len
  clear hr hr2
  go_enter Try.func5, Try.ntmps5
  go_wp2
  go_loopw [5, 6, 7] (fun al wa i wr => ∃ k : Nat, k ≤ n ∧ k ≤ 50 ∧ i = .int .i64 k ∧ wr.ownsRow w.heap.size 5 1 al (allB (ms.take k)).length (u8s (allB (ms.take k))) ∧ WantR w.heap.size wr wa (wantM (ms.take k)) ∧ Below w.heap.size w wr) (fun _ _ i _ => 50 - (intOf i).toNat)
  case atStart => exact ⟨0, by omega, by omega, rfl, World.ownsRow_nil _ _ _ _, ⟨[], World.ownsRow_nil _ _ _ _, Ms.nil_⟩, Below.refl _ _⟩
  case round =>
    obtain ⟨k, hk, hk50, rfl, hal, hwa, hbel⟩ := hrel
    have HAl := Lib.hid hal
    have HWa := Lib.hid hwa
    have HBel := Lib.hid hbel
    have hlA : (allB (ms.take k)).length ≤ 204800 := by
      have := allB_len (ms.take k)
      have h2 : (ms.take k).length ≤ 50 := by simp; omega
      omega
    have hlW : (wantM (ms.take k)).length ≤ 50 := by
      have := wantM_len (ms.take k)
      have h2 : (ms.take k).length ≤ 50 := by simp; omega
      omega
    clear hal hwa hbel
    by_cases hboth : k < n ∧ k < 50
    · obtain ⟨hlt, h50⟩ := hboth
      · obtain ⟨b, off, rfl, hb, hcell⟩ := HR.out.at_ (by omega)
        have hkl : k < ms.length := by have := hlen.out; omega
        obtain ⟨A1, n1, c1, x0, x1, x2, x3⟩ := hcell k hkl
        have y0 : wr.cell? ⟨b, off + k * 2, none⟩ = some (.int .i64 ms[k].1) := (HBel.out.cell (p := ⟨b, off + k * 2, none⟩) hb).trans x0
        have y1 : wr.cell? ⟨b, off + k * 2 + 1, none⟩ = some (.slice A1 n1 c1) := (HBel.out.cell (p := ⟨b, off + k * 2 + 1, none⟩) hb).trans x1
        have HX2 := Lib.hid x2
        have HTk : Hid (ms.take (k + 1) = ms.take k ++ [(ms[k].1, ms[k].2)]) := Lib.hid (by rw [List.take_succ_eq_append_getElem hkl])
        have hk50I : (k : Int) < 50 := by omega
        have HPut := Lib.hid (put_is wr ms[k].1 A1 n1 c1 ms[k].2 ((x2.below HBel.out).more HBel.out.size) (by omega))
        have HLn := Lib.hid x2.len
        clear x0 x1 x2 hcell
        generalize ms[k].1 = kd at *
        generalize ms[k].2 = bd at *
        go_wp2_with fail
        refine HPut.out.mono ?_
        rintro e w1 ⟨hb1, Ab, rfl, hf1⟩
        have hB1 := HBel.out.trans (hb1.mono HBel.out.size)
        have HB1 := Lib.hid hB1
        have HAl1 : Hid (w1.ownsRow w.heap.size 5 1 u5 (allB (ms.take k)).length (u8s (allB (ms.take k)))) := Lib.hid (own_keep HAl.out fun i c hi _ _ => hb1.block i (Array.getElem?_eq_some_iff.1 hi).1)
        have HWa1 : Hid (WantR w.heap.size w1 u6 (wantM (ms.take k))) := Lib.hid (HWa.out.keep (hb1.mono HBel.out.size) fun i c hi _ => hb1.block i (Array.getElem?_eq_some_iff.1 hi).1)
        have z0 : w1.cell? ⟨b, off + k * 2, none⟩ = some (.int .i64 kd) := (hb1.cell (p := ⟨b, off + k * 2, none⟩) (by have := HBel.out.size; show b < _; omega)).trans y0
        have z1 : w1.cell? ⟨b, off + k * 2 + 1, none⟩ = some (.slice A1 n1 c1) := (hb1.cell (p := ⟨b, off + k * 2 + 1, none⟩) (by have := HBel.out.size; show b < _; omega)).trans y1
        have HF1 := Lib.hid hf1
        have hpb := putBytes_len kd bd
        clear hb1 hB1 hf1 y0 y1 HPut HAl HWa HBel
        by_cases hok : putErr kd bd.length = 0
        · have hpb19 : 0 < (putBytes kd bd).length := by unfold putBytes; rw [if_pos hok, putL_len]; omega
          have HA' : Hid (allB (ms.take (k + 1)) = allB (ms.take k) ++ putBytes kd bd) := Lib.hid (by rw [HTk.out, allB_snoc])
          have HW' : Hid (wantM (ms.take (k + 1)) = wantM (ms.take k) ++ [(kd, bd)]) := Lib.hid (by rw [HTk.out, wantM_snoc, if_pos (by unfold okB; exact decide_eq_true hok)])
          have HRb : Hid (Rd w1 w1.heap.size Ab (putBytes kd bd).length (putBytes kd bd)) := Lib.hid HF1.out.rd
          rw [hok]
          clear hok
          generalize putBytes kd bd = pb at *
          go_wp2_with (at_builtin; refine app_bytes rfl _ _ rfl HAl1.out HB1.out.size HRb.out hpb19 (by omega) rfl rfl ?_)
          intro al' w2 ho2 hg2 hold2
          have hB2 : Below w.heap.size w w2 := HB1.out.grown hg2 HB1.out.size (fun i e => (hold2 i e).1)
          have HB2 := Lib.hid hB2
          have HAl2 := Lib.hid ho2
          have HWa2 : Hid (WantR w.heap.size w2 u6 (wantM (ms.take k))) := Lib.hid (HWa1.out.keep ((Below.refl _ w1).grown hg2 HB1.out.size (fun i e => (hold2 i e).1)) fun i c hi _ => hg2.block i (Array.getElem?_eq_some_iff.1 hi).1 (fun e => by
            obtain ⟨_, c', hc'⟩ := hold2 i e.symm
            exact row_ne hi hc' (by decide) rfl))
          have hsz2 : w1.heap.size ≤ w2.heap.size := hg2.size
          have a0 : w2.cell? ⟨b, off + k * 2, none⟩ = some (.int .i64 kd) := (World.cell?_of_block (a := ⟨b, off + k * 2, none⟩) (hg2.block b (by have := HB1.out.size; omega) (fun e => by have := (hold2 b e.symm).1; omega))).trans z0
          have a1 : w2.cell? ⟨b, off + k * 2 + 1, none⟩ = some (.slice A1 n1 c1) := (World.cell?_of_block (a := ⟨b, off + k * 2 + 1, none⟩) (hg2.block b (by have := HB1.out.size; omega) (fun e => by have := (hold2 b e.symm).1; omega))).trans z1
          clear ho2 hg2 hold2 hB2 z0 z1 HAl1 HWa1 HRb HF1
          go_wp2_with (at_builtin; refine app_want rfl _ _ rfl HWa2.out HB2.out.size (by omega) (HX2.out.below HB2.out) rfl rfl ?_)
          intro wa' w4 ht4 hg4 hold4
          have HB4 : Hid (Below w.heap.size w w4) := Lib.hid (HB2.out.grown hg4 HB2.out.size (fun i e => (hold4 i e).1))
          have HAl4 : Hid (w4.ownsRow w.heap.size 5 1 al' (allB (ms.take (k + 1))).length (u8s (allB (ms.take (k + 1))))) := Lib.hid (by
            rw [HA'.out, List.length_append, show u8s (allB (ms.take k) ++ pb) = u8s (allB (ms.take k)) ++ u8s pb from List.map_append]
            exact own_keep HAl2.out fun i c hi _ _ => hg4.block i (Array.getElem?_eq_some_iff.1 hi).1 (fun e => by
              obtain ⟨_, c', hc'⟩ := hold4 i e.symm
              exact row_ne hi hc' (by decide) rfl))
          have HWa4 : Hid (WantR w.heap.size w4 wa' (wantM (ms.take (k + 1)))) := Lib.hid (by rw [HW'.out]; exact ht4)
          clear ht4 hg4 hold4 a0 a1 HAl2 HWa2 HB2
          go_wp2
          exact ⟨⟨k + 1, by omega, by omega, by go_num, HAl4.out, HWa4.out, HB4.out⟩, by simp [intOf]; omega⟩
        · have HA' : Hid (allB (ms.take (k + 1)) = allB (ms.take k)) := Lib.hid (by rw [HTk.out, allB_snoc, show putBytes kd bd = [] from by unfold putBytes; rw [if_neg hok], List.append_nil])
          have HW' : Hid (wantM (ms.take (k + 1)) = wantM (ms.take k)) := Lib.hid (by rw [HTk.out, wantM_snoc, if_neg (by unfold okB; simpa using hok), List.append_nil])
          have hne : (putErr kd bd.length == 0) = false := by simpa using hok
          generalize putErr kd bd.length = er at *
          generalize (putBytes kd bd).length = pl at *
          clear hok
          go_wp2
          exact ⟨⟨k + 1, by omega, by omega, by go_num, by rw [HA'.out]; exact HAl1.out, by rw [HW'.out]; exact HWa1.out, HB1.out⟩, by simp [intOf]; omega⟩
    · have HPar := Lib.hid (parse_all (ms.take k))
      have HOa : Hid (Oct (allB (ms.take k))) := Lib.hid (by
        intro x hx
        unfold allB at hx
        obtain ⟨mm, hmm, hx⟩ := List.mem_flatMap.1 hx
        obtain ⟨i, hi, rfl⟩ := List.getElem_of_mem (List.mem_of_mem_take hmm)
        have hpos : 0 < n := by have := hlen.out; omega
        obtain ⟨_, _, _, _, hcell⟩ := HR.out.at_ hpos
        obtain ⟨_, _, _, _, _, x2, _⟩ := hcell i hi
        exact putBytes_oct _ _ x2.oct x hx)
      generalize allB (ms.take k) = l at *
      generalize wantM (ms.take k) = W at *
      obtain ⟨Aa, ca, rfl, hca, hra, haA⟩ := own_at ⟨HAl.out.1, HAl.out.2.imp id fun ⟨g, cap, cur, h1, _, h3⟩ => ⟨g, cap, cur, h1, Nat.zero_le _, h3⟩⟩ HOa.out
      have HRa := Lib.hid hra
      have HAg : Hid (∀ b off, Aa = some ⟨b, off, none⟩ → w.heap.size ≤ b ∧ b < wr.heap.size) := Lib.hid fun b off e => HAl.out.lt b (haA b off e)
      clear hra haA HR
      rcases (show n ≤ k ∨ (k < n ∧ 50 ≤ k) by omega) with h1 | ⟨h1, h2⟩
      all_goals
        go_wp2_with fail
        refine (newS_is wr).mono ?_
        rintro e w3 ⟨rfl, hs3, hb3, hz3⟩
        have HS3 := Lib.hid (waiting_new hs3)
        have HB3 := Lib.hid (HBel.out.trans (hb3.mono HBel.out.size))
        have HWa3 : Hid (WantR w.heap.size w3 u6 W) := Lib.hid (HWa.out.keep (hb3.mono HBel.out.size) fun i c hi _ => hb3.block i (Array.getElem?_eq_some_iff.1 hi).1)
        have HR3 : Hid (Rd w3 wr.heap.size Aa l.length l) := Lib.hid (HRa.out.below hb3)
        have HZ3 : Hid (w.heap.size ≤ wr.heap.size ∧ wr.heap.size < w3.heap.size) := Lib.hid ⟨HBel.out.size, by omega⟩
        clear hs3 hb3 hz3 HRa HBel HWa HAl
        generalize wr.heap.size = gs at *
        go_wp2_with fail
        go_loopw [11, 12, 13] (fun y fr i wr => ∃ k2 m : Nat, k2 ≤ n2 ∧ k2 ≤ 50 ∧ i = .int .i64 k2 ∧ m ≤ l.length ∧ fr = .int .i64 m ∧ PcRel w3 gs l m y wr) (fun _ _ i _ => 50 - (intOf i).toNat)
        case atStart => exact ⟨0, 0, by omega, by omega, rfl, by omega, rfl, pc_start HS3.out⟩
        case round =>
          obtain ⟨k2, m, hk2, hk250, rfl, hmn, rfl, hpc⟩ := hrel
          have HPC := Lib.hid hpc
          obtain ⟨Y, qr, dr, st, hI, hF, hQ, hT, hFr, hq, hd, hp⟩ := hpc
          have HI := Lib.hid hI
          have HF := Lib.hid hF
          have HQ := Lib.hid hQ
          have HT := Lib.hid hT
          have HFr := Lib.hid hFr
          have Hq := Lib.hid hq
          have Hd := Lib.hid hd
          have HP := Lib.hid hp
          have hbel : Below w.heap.size w wr := HB3.out.trans (hFr.below HB3.out.size (by have := HZ3.out; omega) (fun i e => by cases e))
          have HBel := Lib.hid hbel
          have hRb : Rd wr gs Aa l.length l := hFr.rd HR3.out (by have := HZ3.out; omega) (fun b off e => ⟨by have := HAg.out b off e; omega, by simp⟩)
          obtain ⟨A7, hA7⟩ : ∃ A7, (if ca = m then Aa else Option.map (fun x => x.add m) Aa) = A7 := ⟨_, rfl⟩
          have HRc : Hid (∀ x, x ≤ l.length - m → Rd wr wr.heap.size A7 x ((l.drop m).take x)) := Lib.hid fun x hx => by rw [← hA7]; exact (hRb.cut (k := m) (m := x) (by omega) hca).more (by have := hFr.size; have := HZ3.out; omega)
          have HNr : Hid (∀ x, 0 < x → x ≤ l.length - m → ∀ i off, A7 = some ⟨i, off, none⟩ → i ≠ gs ∧ some i ≠ qr) := Lib.hid fun x hx hxn i off e => by
            rw [← hA7] at e
            obtain ⟨b, o', e', hb, _⟩ := (hRb.cut (k := m) (m := x) (by omega) hca).at_ hx
            rw [e'] at e
            injection e with e
            injection e with e
            subst e
            have hz := HZ3.out
            refine ⟨by omega, fun h => ?_⟩
            have := hq.ge _ h.symm
            omega
          clear hI hF hQ hT hFr hq hd hp hbel hRb
          by_cases hboth2 : k2 < n2 ∧ k2 < 50
          · obtain ⟨hlt2, h502⟩ := hboth2
            obtain ⟨b2, off2, rfl, hb2, hcell⟩ := HR2.out.at_ (by omega)
            have hx : wr.cell? ⟨b2, off2 + k2, none⟩ = some (.int .i64 (xs.getD k2 0)) := (HBel.out.cell (p := ⟨b2, off2 + k2, none⟩) hb2).trans (hcell k2 hlt2)
            have hcb := cnt_bd (a := xs.getD k2 0) (m := (l.length : Int) - (m : Int) + 1) (by omega)
            have HCnt := Lib.hid (fun w => count_is w (xs.getD k2 0) ((l.length : Int) - (m : Int) + 1) (by omega) (by omega))
            obtain ⟨t, ht⟩ := Int.eq_ofNat_of_zero_le hcb.1
            rw [ht] at HCnt hcb
            have htn : t ≤ l.length - m := by omega
            clear ht hcb hcell
            generalize xs.getD k2 0 = xk at *
            go_wp2_with fail
            refine (HCnt.out wr).mono ?_
            rintro e w' ⟨rfl, rfl⟩
            have i1 : (m : Int) + (t : Int) ≤ (ca : Int) := by omega
            have i2 : ((m : Int) + (t : Int)).toNat = m + t := by omega
            have i3 : m + t - m = t := by omega
            have i4 : (m : Int) ≤ (m : Int) + (t : Int) := by omega
            go_wp2_with fail
            refine (feed_all wr gs qr dr st ((l.drop m).take t) A7 t (ca - m) (by simp; omega) HI.out HF.out (HRc.out t htn) (by omega) (fun h => HNr.out t h htn) (by omega)).mono ?_
            rintro e w5 ⟨v, q', d', rfl, f1, f2, f3, f4, f5, f6⟩
            obtain ⟨Y', U, q5, d5, st5, p1, p2, p3, p4, p5, p6, p7, p8, p9, p10⟩ := (pc_fed (by have := HZ3.out; omega) HOa.out HI.out HF.out HQ.out HT.out HFr.out Hq.out Hd.out HP.out f1 f2 f3 f4 f5 f6).ex
            have P1 := Lib.hid p1
            have P2 := Lib.hid p2
            have P3 := Lib.hid p3
            have P4 := Lib.hid p4
            have P5 := Lib.hid p5
            have P6 := Lib.hid p6
            have P7 := Lib.hid p7
            have P8 := Lib.hid p8
            have P9 := Lib.hid p9
            have P10 := Lib.hid p10
            have hsz5 : w3.heap.size ≤ wr.heap.size := HFr.out.size
            have hsz6 : w3.heap.size ≤ w5.heap.size := p9.size
            clear f1 f2 f3 f4 f5 f6 p1 p2 p3 p4 p5 p6 p7 p8 p9 p10 HI HF HQ HT HFr Hq Hd HP HPC HRc HNr
            go_wp2_with (at_builtin; refine app_two rfl _ _ rfl P2.out P3.out hsz5 hsz6 (by have := P10.out; omega) rfl rfl ?_)
            intro y' w6 ht6 hg6 hold6
            have HPc : Hid (PcRel w3 gs l (m + t) y' w6) := Lib.hid (pc_app (by have := HZ3.out; omega) P1.out P4.out P5.out P6.out P7.out P8.out P9.out ht6 hg6 hold6)
            clear ht6 hg6 hold6 P1 P2 P3 P4 P5 P6 P7 P8 P9 P10
            clear hA7
            go_wp2
            exact ⟨⟨k2 + 1, m + t, by omega, by omega, by go_num, by omega, by go_num, HPc.out⟩, by simp [intOf]; omega⟩
          · have hmI : (m : Int) ≤ (l.length : Int) := by omega
            rcases (show n2 ≤ k2 ∨ (k2 < n2 ∧ 50 ≤ k2) by omega) with g1 | ⟨g1, g2⟩
            all_goals
              go_wp2_with fail
              refine (feed_all wr gs qr dr st ((l.drop m).take (l.length - m)) A7 (l.length - m) (ca - m) (by simp) HI.out HF.out (HRc.out (l.length - m) (Nat.le_refl _)) (by omega) (fun h => HNr.out (l.length - m) h (Nat.le_refl _)) (by omega)).mono ?_
              rintro e w5 ⟨v, q', d', rfl, f1, f2, f3, f4, f5, f6⟩
              obtain ⟨Y', U, q5, d5, st5, p1, p2, p3, p4, p5, p6, p7, p8, p9, p10⟩ := (pc_fed (by have := HZ3.out; omega) HOa.out HI.out HF.out HQ.out HT.out HFr.out Hq.out Hd.out HP.out f1 f2 f3 f4 f5 f6).ex
              have P1 := Lib.hid p1
              have P2 := Lib.hid p2
              have P3 := Lib.hid p3
              have P4 := Lib.hid p4
              have P5 := Lib.hid p5
              have P6 := Lib.hid p6
              have P7 := Lib.hid p7
              have P8 := Lib.hid p8
              have P9 := Lib.hid p9
              have P10 := Lib.hid p10
              have hsz5 : w3.heap.size ≤ wr.heap.size := HFr.out.size
              have hsz6 : w3.heap.size ≤ w5.heap.size := p9.size
              clear f1 f2 f3 f4 f5 f6 p1 p2 p3 p4 p5 p6 p7 p8 p9 p10 HI HF HQ HT HFr Hq Hd HP HPC HRc HNr
              go_wp2_with (at_builtin; refine app_two rfl _ _ rfl P2.out P3.out hsz5 hsz6 (by have := P10.out; omega) rfl rfl ?_)
              intro y' w6 ht6 hg6 hold6
              obtain ⟨Y6, qr6, dr6, st6, hI6, hF6, _, hT6, hFr6, hq6, hd6, hp6⟩ : PcRel w3 gs l (m + (l.length - m)) y' w6 := pc_app (by have := HZ3.out; omega) P1.out P4.out P5.out P6.out P7.out P8.out P9.out ht6 hg6 hold6
              clear ht6 hg6 hold6 P1 P2 P3 P4 P5 P6 P7 P8 P9 P10
              clear hA7
              rw [show l.take (m + (l.length - m)) = l from List.take_of_length_le (by omega), show feed (.wait []) l = (W, .wait []) from HPar.out] at hp6
              injection hp6 with hp6a hp6b
              subst hp6a hp6b
              obtain ⟨Ay, cy, rfl, hMy⟩ := told_msr hT6
              have hB6 : Below w.heap.size w w6 := HB3.out.trans (hFr6.below HB3.out.size (by have := HZ3.out; omega) (fun i e => by cases e))
              have hWa6 : WantR w.heap.size w6 u6 W := HWa3.out.keep (hFr6.below HB3.out.size (by have := HZ3.out; omega) (fun i e => by cases e)) fun i c hi hlo => hFr6.block i (Array.getElem?_eq_some_iff.1 hi).1 (by
                rintro rfl
                obtain ⟨_, _, _, _, hS, _, _⟩ := HS3.out.ex
                exact row_ne hi hS (by decide) rfl) (by simp)
              obtain ⟨Ax, cx, rfl, hMx⟩ := hWa6.msr hB6.size
              have HB6 := Lib.hid hB6
              have HI6 : Hid (Waiting w6 gs qr6 []) := Lib.hid hI6
              have HMy := Lib.hid hMy
              have HMx := Lib.hid hMx
              clear hI6 hF6 hT6 hFr6 hq6 hd6 hMy hMx hB6 hWa6 HWa3
              go_wp2_with fail
              refine (fault_wait w6 gs qr6 [] HI6.out).mono ?_
              rintro e w7 ⟨A7f, n7, rfl, hf7, hb7⟩
              have hx7 := hb7.alloc hb7.size (.cells #[.int .i64 0, .int .i64 0, .slice A7f n7 n7] 43)
              have HB7 := Lib.hid (HB6.out.trans (hx7.mono HB6.out.size))
              have HI7 : Hid (Waiting (w7.alloc (.cells #[.int .i64 0, .int .i64 0, .slice A7f n7 n7] 43)) gs qr6 []) := Lib.hid (IsS.below (d := none) (st := .wait []) HI6.out hx7)
              have HMy7 := Lib.hid (HMy.out.below hx7)
              have HMx7 := Lib.hid (HMx.out.below hx7)
              clear hx7 hf7 hb7 HI6 HMy HMx HB6
              simp only [fltOf, badB]
              go_wp2_with fail
              generalize w7.alloc (.cells #[.int .i64 0, .int .i64 0, .slice A7f n7 n7] 43) = x7 at *
              refine (sameM_is x7 Ay Ax cy cx W HMy7.out HMx7.out (by omega)).mono ?_
              rintro e w9 ⟨rfl, k9, rfl⟩
              go_wp2_with fail
              refine (waits_any (x7.drewN k9) gs qr6 none (.wait []) (IsS.kept (d := none) (st := .wait []) HI7.out fun _ _ _ => rfl)).mono ?_
              rintro e w' ⟨rfl, rfl⟩
              simp only [waitsN, List.length_nil]
              go_wp2_with fail
              refine (alive_is (x7.drewN k9)).mono ?_
              rintro e w11 ⟨rfl, hb11⟩
              have HB11 := Lib.hid (HB7.out.trans ((below_undrew hb11).mono HB7.out.size))
              clear hb11 HB7
              go_wp2
              go_ret
              exact ⟨rfl, HB11.out⟩
end Go.Proofs.Ytoiigalaijnoeaa
