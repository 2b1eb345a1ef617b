/-
  FrameFeeds: the walk.
-/
import Derived.Test.YtoiigalaijnoeaaFrX
import Derived.Test.YtoiigalaijnoeaaFramePuts
namespace Go.Proofs.Ytoiigalaijnoeaa
open Go.RowKit
set_option linter.unusedSimpArgs false
set_option linter.unusedVariables false

/-- Both streams stand alike. -/
def Pair (w w2 : World) (gs gr : Nat) (wr : World) : Prop :=
  ∃ st q q2, STid wr gs q st ∧ RIsS wr gr q2 st ∧ Fine st ∧ (∀ i, q = some i → w2.heap.size ≤ i) ∧ (∀ i, q2 = some i → w2.heap.size ≤ i) ∧ (∀ i, q = some i → q2 ≠ some i) ∧ Below w.heap.size w wr ∧ w2.heap.size ≤ wr.heap.size

set_option maxHeartbeats 8000000 in
set_option maxRecDepth 100000 in
theorem frameFeeds_walk (w : World) (A : Option Addr) (n c : Nat) (ls : List (List Int)) (hr : RdB w w.heap.size A n ls) (hm : n ≤ 1048576 ∧ ∀ l ∈ ls, l.length ≤ 1048576) :
    Calls Try.prog 4 #[.slice A n c] w fun e w' => e = .returned (.bool true) ∧ Below w.heap.size w w' := by
  obtain ⟨hm, hms⟩ := hm
  have HR := Lib.hid hr
  have HMs := Lib.hid hms
  have hlen := Lib.hid hr.len
  clear hr hms
  go_enter Try.func4, Try.ntmps4
  go_wp2_with fail
  refine (newS_is w).mono ?_
  rintro e w1 ⟨rfl, hs1, hb1, hz1⟩
  have HS1 := Lib.hid hs1
  have HB1 := Lib.hid hb1
  have HZ1 := Lib.hid hz1
  clear hs1 hb1 hz1
  go_wp2_with fail
  refine (rnew_is w1).mono ?_
  rintro e w2 ⟨rfl, hs2, hb2, hz2⟩
  have HPair : Hid (Pair w w2 w.heap.size w1.heap.size w2) := Lib.hid ⟨.wait [], none, none, ⟨none, waiting_new (Blk.below HS1.out hb2 (by have := HZ1.out; omega)), rfl⟩, hs2, ⟨Quiet.nil_, oct_nil⟩, (fun i e => by cases e), (fun i e => by cases e), (fun i e => by cases e), HB1.out.trans (hb2.mono HB1.out.size), Nat.le_refl _⟩
  have HZ2 : Hid (w.heap.size < w1.heap.size ∧ w1.heap.size < w2.heap.size) := Lib.hid (by have := HZ1.out; omega)
  clear hs2 hb2 hz2 HS1 HB1 HZ1
  go_wp2_with fail
  go_loopw [21] (fun i wr => ∃ k : Nat, k ≤ n ∧ i = .int .i64 k ∧ Pair w w2 w.heap.size w1.heap.size wr) (fun i _ => n - (intOf i).toNat)
  case atStart => exact ⟨0, by omega, rfl, HPair.out⟩
  case round =>
    obtain ⟨k, hk, rfl, hpair⟩ := hrel
    have HPr := Lib.hid hpair
    obtain ⟨st, q, q2, hS, hR, hF, hq, hq2, hdj, hB, hz⟩ := hpair
    have HS := Lib.hid hS
    have HRr := Lib.hid hR
    have HF := Lib.hid hF
    have Hq := Lib.hid hq
    have Hq2 := Lib.hid hq2
    have Hdj := Lib.hid hdj
    have HB := Lib.hid hB
    clear hS hR hF hq hq2 hdj hB
    by_cases hlt : k < n
    · obtain ⟨b, off, rfl, hb, hcell⟩ := HR.out.at_ (by omega)
      have hkl : k < ls.length := by have := hlen.out; omega
      obtain ⟨A1, n1, c1, x0, x1, x2⟩ := hcell k hkl
      have y0 : wr.cell? ⟨b, off + k, none⟩ = some (.slice A1 n1 c1) := (HB.out.cell (p := ⟨b, off + k, none⟩) hb).trans x0
      have HX1 := Lib.hid x1
      have hl1 := Lib.hid x1.len
      have hn1 : n1 ≤ 1048576 := by have := HMs.out ls[k] (List.getElem_mem hkl); have := x1.len; omega
      clear x0 x1 hcell
      generalize ls[k] = lk at *
      go_wp2_with fail
      refine (lent_is wr A1 n1 c1 lk ((HX1.out.below HB.out).more HB.out.size) (by omega)).mono ?_
      rintro e wL ⟨rfl, hyL, hbL⟩
      have HYL := Lib.hid hyL
      have HBL := Lib.hid (HB.out.trans (hbL.mono HB.out.size))
      have HSL := Lib.hid (HS.out.below hbL)
      have HRL := Lib.hid (HRr.out.below hbL)
      have HLz : Hid (w.heap.size < w1.heap.size ∧ w1.heap.size < w2.heap.size ∧ w2.heap.size ≤ wr.heap.size ∧ wr.heap.size < wL.heap.size) := Lib.hid ⟨HZ2.out.1, HZ2.out.2, hz, hyL.lt⟩
      have HqL : Hid (∀ i, q = some i → i < wr.heap.size) := Lib.hid HS.out.lt.2
      have Hq2L : Hid (∀ i, q2 = some i → i < wr.heap.size) := Lib.hid HRr.out.lt.2
      have HRo : Hid (Rd wL wL.heap.size (some ⟨wr.heap.size, 0, none⟩) n1 lk) := Lib.hid (by
        have h := hyL.rd (k := n1) (B := wL.heap.size) (oct_app HX1.out.oct (by unfold Oct; decide)) (by simp [hl1.out]) hyL.lt
        rwa [List.take_append_of_le_length (by rw [hl1.out]; exact Nat.le_refl _), List.take_of_length_le (by rw [hl1.out]; exact Nat.le_refl _)] at h)
      clear hyL hbL HS HRr HB y0 hz HPr
      generalize wr.heap.size = go at *
      go_wp2_with fail
      refine (feed_tidy wL w.heap.size q st lk (some ⟨go, 0, none⟩) n1 (n1 + 2) hl1.out HSL.out HF.out HRo.out (by omega) (fun i off e => by
        injection e with e
        injection e with e
        subst e
        have hz := HLz.out
        exact ⟨by omega, fun h => by have := HqL.out _ h.symm; omega⟩) (by omega)).mono ?_
      rintro e wF ⟨vx, q', rfl, htx, hsF, haF, hfF⟩
      have hzF := hfF.size
      have HTx := Lib.hid htx
      obtain ⟨Ax, cx, rfl, hspx⟩ := spx_start htx
      have HSpx := Lib.hid hspx
      have HSF := Lib.hid hsF
      have HaF := Lib.hid haF
      have HRF : Hid (RIsS wF w1.heap.size q2 st) := Lib.hid (HRL.out.kept hzF fun i hi h => hfF.block i hi (by
        have hz := HLz.out
        rcases h with rfl | h
        · omega
        · have := Hq2.out i h; omega) (fun e => by
        rcases h with rfl | h
        · have hz := HLz.out
          have := Hq.out _ e.symm
          omega
        · exact Hdj.out i e.symm h))
      have HYF : Hid (Byt wF go 5 (lk ++ [165, 90])) := Lib.hid ((hfF.block go HYL.out.lt (by have := HLz.out; omega) (fun e => by have := HqL.out _ e.symm; omega)).trans HYL.out)
      have HBF : Hid (Below w.heap.size w wF) := Lib.hid (HBL.out.trans (hfF.below HBL.out.size (Nat.le_refl _) (fun i e => by have := Hq.out i e; have := HLz.out; omega)))
      have HFz : Hid (wL.heap.size ≤ wF.heap.size) := Lib.hid hzF
      clear htx hspx hsF haF hfF hzF HSL HRL HYL HBL HRo
      go_wp2_with fail
      refine (rfeed_any wF w1.heap.size q2 st lk A1 n1 c1 hl1.out HRF.out ((HX1.out.below HBF.out).more HBF.out.size) (by omega)).mono ?_
      rintro e wG ⟨vy, q2', rfl, hty, hrG, haG, hgG⟩
      obtain ⟨Ay, cy, rfl, hMy⟩ := hty.msr
      have hzG := hgG.size
      have hqF := HSF.out.lt.2
      have hq'lo : ∀ i, q' = some i → w2.heap.size ≤ i := fun i e => by
        have hz := HLz.out
        rcases HaF.out with rfl | rfl | ⟨j, rfl, hj⟩
        · exact Hq.out i e
        · cases e
        · injection e with e; omega
      have HSG : Hid (STid wG w.heap.size q' (feed st lk).2) := Lib.hid (HSF.out.kept hzG fun i hi h => hgG.block i hi (fun e => by
        injection e with e
        have hz := HLz.out
        rcases h with h | h
        · omega
        · have := hq'lo i h; omega))
      have HSpG : Hid (SpX wL.heap.size wF.heap.size q' Ax (feed st lk).1 wG) := Lib.hid (HSpx.out.keep fun i c t hi ht => hgG.block i (Array.getElem?_eq_some_iff.1 hi).1 (fun e => by
        injection e with e
        have hz := HLz.out
        rcases ht with rfl | ⟨_, hlo, _⟩
        · obtain ⟨cs', o1, _⟩ := HTx.out
          have hrt := HRF.out.lt.1
          exact absurd hi (by
            subst e
            intro hi'
            cases hst : st with
            | wait c0 =>
              rw [hst] at HRF
              obtain ⟨_, _, _, _, hS0, _, _⟩ := HRF.out.ex
              exact row_ne hi' hS0 (by decide) rfl
            | bad f0 =>
              rw [hst] at HRF
              obtain ⟨_, _, hS0, _⟩ := HRF.out
              exact row_ne hi' hS0 (by decide) rfl)
        · omega))
      have HMx : Hid (MsR wG Ax (feed st lk).1) := Lib.hid (by
        have ht : Told wL.heap.size wG q' (.slice Ax (feed st lk).1.length cx) (feed st lk).1 := HTx.out.kept fun i c t hi hlo ht => ⟨hgG.block i (Array.getElem?_eq_some_iff.1 hi).1 (fun e => by
          injection e with e
          have hz := HLz.out
          omega), fun _ => by
          rcases ht with rfl | ⟨rfl, h⟩
          · contradiction
          · exact h⟩
        obtain ⟨A', c', e, hM⟩ := told_msr ht
        injection e with e1
        subst e1
        exact hM)
      have HMy := Lib.hid hMy
      have HRG := Lib.hid hrG
      have HaG := Lib.hid haG
      have HYG : Hid (Byt wG go 5 (lk ++ [165, 90])) := Lib.hid ((hgG.block go HYF.out.lt (fun e => by injection e with e; have := HLz.out; omega)).trans HYF.out)
      have HBG : Hid (Below w.heap.size w wG) := Lib.hid (HBF.out.grown hgG HBF.out.size (fun i e => by injection e with e; have := HLz.out; omega))
      have HGz : Hid (wF.heap.size ≤ wG.heap.size) := Lib.hid hzG
      have HqF : Hid (∀ i, q' = some i → w2.heap.size ≤ i ∧ i < wF.heap.size) := Lib.hid fun i e => ⟨hq'lo i e, hqF i e⟩
      have hFst := (feed_fine HF.out HX1.out.oct).1
      have HFst := Lib.hid hFst
      have hml : (feed st lk).1.length ≤ 4000000000000 := by have := feed_len st lk HF.out; have := hl1.out; omega
      have HSm := Lib.hid (feed_small st lk)
      clear hty hrG haG hgG hMy hzG hqF hq'lo hFst HTx HSpx HSF HRF HYF HBF
      generalize (feed st lk).1 = ms at *
      generalize (feed st lk).2 = st' at *
      go_wp2_with fail
      refine (fault_tidy wG w.heap.size q' st' HSG.out HFst.out).mono ?_
      rintro e wH ⟨A7f, n7, rfl, hf7, hb7⟩
      generalize hc7 : (fltOf st').code = code at *
      generalize hs7 : (fltOf st').sub = sub at *
      generalize hd7 : (fltOf st').data = data at *
      generalize hbb : badB st' = bb at *
      have C7 := Lib.hid hc7
      have S7 := Lib.hid hs7
      have D7 := Lib.hid hd7
      have B7 := Lib.hid hbb
      clear hc7 hs7 hd7 hbb
      have hx7 := hb7.alloc hb7.size (.cells #[.int .i64 code, .int .i64 sub, .slice A7f n7 n7] 43)
      have HB7 := Lib.hid (HBG.out.trans (hx7.mono HBG.out.size))
      have HS7 := Lib.hid (HSG.out.below hx7)
      have HR7 := Lib.hid (HRG.out.below hx7)
      have HMx7 := Lib.hid (HMx.out.below hx7)
      have HMy7 := Lib.hid (HMy.out.below hx7)
      have HSp7 : Hid (SpX wL.heap.size wF.heap.size q' Ax ms (wH.alloc (.cells #[.int .i64 code, .int .i64 sub, .slice A7f n7 n7] 43))) := Lib.hid (HSpG.out.keep fun i c t hi _ => hx7.block i (Array.getElem?_eq_some_iff.1 hi).1)
      have HY7 : Hid (Byt (wH.alloc (.cells #[.int .i64 code, .int .i64 sub, .slice A7f n7 n7] 43)) go 5 (lk ++ [165, 90])) := Lib.hid (HYG.out.below hx7 HYG.out.lt)
      have HK7 := Lib.hid (Blk.new wH 43 #[.int .i64 code, .int .i64 sub, .slice A7f n7 n7])
      have HF7 : Hid (Fresh wG.heap.size (wH.alloc (.cells #[.int .i64 code, .int .i64 sub, .slice A7f n7 n7] 43)) A7f n7 data) := Lib.hid (hf7.keep fun _ _ hi => Below.heap_alloc _ _ _ hi)
      have HzH : Hid (wG.heap.size ≤ wH.heap.size) := Lib.hid hb7.size
      have H7z : Hid (wG.heap.size ≤ (wH.alloc (.cells #[.int .i64 code, .int .i64 sub, .slice A7f n7 n7] 43)).heap.size) := Lib.hid hx7.size
      have HRq : Hid (∀ i, q2' = some i → i < wG.heap.size) := Lib.hid HRG.out.lt.2
      clear hx7 hf7 hb7 HSG HRG HMx HMy HSpG HYG HBG
      go_wp2_with fail
      generalize wH.alloc (.cells #[.int .i64 code, .int .i64 sub, .slice A7f n7 n7] 43) = x7 at *
      refine (rfault_any x7 w1.heap.size q2' st' HR7.out HFst.out).mono ?_
      rintro e wI ⟨A8, n8, c8, rfl, hf8, hb8⟩
      rw [C7.out, S7.out, B7.out]
      rw [D7.out] at hf8
      have hx8 := hb8.alloc hb8.size (.cells #[.int .i64 code, .int .i64 sub, .slice A8 n8 c8] 43)
      have HB8 := Lib.hid (HB7.out.trans (hx8.mono HB7.out.size))
      have HS8 := Lib.hid (HS7.out.below hx8)
      have HR8 := Lib.hid (HR7.out.below hx8)
      have HMx8 := Lib.hid (HMx7.out.below hx8)
      have HMy8 := Lib.hid (HMy7.out.below hx8)
      have HSp8 : Hid (SpX wL.heap.size wF.heap.size q' Ax ms (wI.alloc (.cells #[.int .i64 code, .int .i64 sub, .slice A8 n8 c8] 43))) := Lib.hid (HSp7.out.keep fun i c t hi _ => hx8.block i (Array.getElem?_eq_some_iff.1 hi).1)
      have HY8 : Hid (Byt (wI.alloc (.cells #[.int .i64 code, .int .i64 sub, .slice A8 n8 c8] 43)) go 5 (lk ++ [165, 90])) := Lib.hid (HY7.out.below hx8 HY7.out.lt)
      have HK8 := Lib.hid (HK7.out.below hx8 HK7.out.lt)
      have HK9 := Lib.hid (Blk.new wI 43 #[.int .i64 code, .int .i64 sub, .slice A8 n8 c8])
      have HF8 : Hid (Fresh wG.heap.size (wI.alloc (.cells #[.int .i64 code, .int .i64 sub, .slice A8 n8 c8] 43)) A7f n7 data) := Lib.hid (HF7.out.keep fun i _ hi => hx8.block i hi)
      have HD8 : Hid (Rd (wI.alloc (.cells #[.int .i64 code, .int .i64 sub, .slice A8 n8 c8] 43)) (wI.alloc (.cells #[.int .i64 code, .int .i64 sub, .slice A8 n8 c8] 43)).heap.size A8 n8 data) := Lib.hid ((hf8.keep fun p hp => World.cell?_alloc_lt _ _ _ hp).more (by simp))
      have H8z : Hid (wG.heap.size ≤ (wI.alloc (.cells #[.int .i64 code, .int .i64 sub, .slice A8 n8 c8] 43)).heap.size) := Lib.hid (Nat.le_trans H7z.out hx8.size)
      clear hx8 hf8 hb8 HS7 HR7 HMx7 HMy7 HSp7 HY7 HK7 HF7 HB7
      go_wp2_with fail
      generalize wI.alloc (.cells #[.int .i64 code, .int .i64 sub, .slice A8 n8 c8] 43) = x8 at *
      refine (sameM_is x8 Ax Ay cx cy ms HMx8.out HMy8.out hml).mono ?_
      rintro e w9 ⟨rfl, k9, rfl⟩
      go_wp2_with fail
      refine (kept_is (x8.drewN k9) go w.heap.size A1 n1 c1 lk HY8.out ((HX1.out.below HB8.out).keep fun _ _ => rfl) (by omega)).mono ?_
      rintro e w' ⟨rfl, rfl⟩
      have u0 : x8.cell? ⟨wH.heap.size, 0, none⟩ = some (.int .i64 code) := HK8.out.cell 0
      have u1 : x8.cell? ⟨wH.heap.size, 1, none⟩ = some (.int .i64 sub) := HK8.out.cell 1
      have u2' : x8.cell? ⟨wH.heap.size, 2, none⟩ = some (.slice A7f n7 n7) := HK8.out.cell 2
      have v0 : x8.cell? ⟨wI.heap.size, 0, none⟩ = some (.int .i64 code) := HK9.out.cell 0
      have v1 : x8.cell? ⟨wI.heap.size, 1, none⟩ = some (.int .i64 sub) := HK9.out.cell 1
      have v2 : x8.cell? ⟨wI.heap.size, 2, none⟩ = some (.slice A8 n8 c8) := HK9.out.cell 2
      have tb : (bb != bb) = false := by simp
      go_wp2_with fail
      refine (alike_is (x8.drewN k9) code sub A7f A8 n7 n8 n7 c8 data (HF8.out.rd.keep fun _ _ => rfl) (HD8.out.keep fun _ _ => rfl)).mono ?_
      rintro e x10 ⟨rfl, hb10⟩
      have hb10' := below_undrew hb10
      have HB10 := Lib.hid (HB8.out.trans (hb10'.mono HB8.out.size))
      have HS10 := Lib.hid (HS8.out.below hb10')
      have HR10 := Lib.hid (HR8.out.below hb10')
      have HSp10 : Hid (SpX wL.heap.size wF.heap.size q' Ax ms x10) := Lib.hid (HSp8.out.keep fun i c t hi _ => hb10'.block i (Array.getElem?_eq_some_iff.1 hi).1)
      have HY10 : Hid (Byt x10 go 5 (lk ++ [165, 90])) := Lib.hid (HY8.out.below hb10' HY8.out.lt)
      have HF10 : Hid (Fresh wG.heap.size x10 A7f n7 data) := Lib.hid (HF8.out.keep fun i _ hi => hb10'.block i hi)
      have HK10 : Hid (Blk x10 wH.heap.size 43 #[.int .i64 code, .int .i64 sub, .slice A7f n7 n7]) := Lib.hid (HK8.out.below hb10' HK8.out.lt)
      have H10z : Hid (wG.heap.size ≤ x10.heap.size) := Lib.hid (Nat.le_trans H8z.out hb10'.size)
      clear hb10 hb10' u0 u1 u2' v0 v1 v2 HS8 HR8 HB8 HMx8 HMy8 HD8 HK8 HK9 HSp8 HY8 HF8
      obtain ⟨d10, hI10, _⟩ := HS10.out
      have HI10 := Lib.hid hI10
      clear hI10
      go_wp2_with fail
      refine (waits_any x10 w.heap.size q' d10 st' HI10.out).mono ?_
      rintro e w' ⟨rfl, rfl⟩
      go_wp2_with fail
      refine (rwaits_any x10 w1.heap.size q2' st' HR10.out).mono ?_
      rintro e w' ⟨rfl, rfl⟩
      have tw : ((waitsN st' : Int) != (waitsN st' : Int)) = false := by simp
      clear HI10
      go_wp2_with fail
      have HNq : Hid (∀ i, q' = some i → i < go ∨ wL.heap.size ≤ i) := Lib.hid fun i e => by
        rcases HaF.out with rfl | rfl | ⟨j, rfl, hj⟩
        · exact .inl (HqL.out i e)
        · cases e
        · injection e with e; exact .inr (by omega)
      have HNq2 : Hid (∀ i, q2' = some i → i < go ∨ wF.heap.size ≤ i) := Lib.hid fun i e => by
        rcases HaG.out with rfl | rfl | ⟨j, rfl, hj⟩
        · exact .inl (Hq2L.out i e)
        · cases e
        · injection e with e; exact .inr (by omega)
      refine (spoil_row_eq x10 go n1 (n1 + 2) (n1 + 2) ⟨_, HY10.out, oct_app HX1.out.oct (by unfold Oct; decide), by simp [hl1.out]⟩ (by omega) (by omega)).mono ?_
      rintro e x11 ⟨rfl, _, hg11, hz11⟩
      have hblk : ∀ i, i < x10.heap.size → i ≠ go → x11.heap[i]? = x10.heap[i]? := fun i hi hne => hg11.block i hi (fun e => hne (by injection e))
      have HS11 : Hid (STid x11 w.heap.size q' st') := Lib.hid (HS10.out.kept (by omega) fun i hi h => hblk i hi (by
        have hz := HLz.out
        rcases h with rfl | h
        · omega
        · have := HNq.out i h; omega))
      have HR11 : Hid (RIsS x11 w1.heap.size q2' st') := Lib.hid (HR10.out.kept (by omega) fun i hi h => hblk i hi (by
        have hz := HLz.out
        have hz2 := HFz.out
        rcases h with rfl | h
        · omega
        · have := HNq2.out i h; omega))
      have HSp11 : Hid (SpX wL.heap.size wF.heap.size q' Ax ms x11) := Lib.hid (HSp10.out.keep fun i c t hi ht => hblk i (Array.getElem?_eq_some_iff.1 hi).1 (by
        rintro rfl
        have hz := HLz.out
        rcases ht with rfl | ⟨_, h, _⟩
        · exact row_ne hi HY10.out (by decide) rfl
        · omega))
      have HF11 : Hid (Fresh wG.heap.size x11 A7f n7 data) := Lib.hid (HF10.out.keep fun i hlo hi => hblk i hi (by have := HLz.out; have := HFz.out; have := HGz.out; omega))
      have HK11 : Hid (Blk x11 wH.heap.size 43 #[.int .i64 code, .int .i64 sub, .slice A7f n7 n7]) := Lib.hid ((hblk _ HK10.out.lt (by have := HLz.out; have := HFz.out; have := HGz.out; have := HzH.out; omega)).trans HK10.out)
      have HB11 : Hid (Below w.heap.size w x11) := Lib.hid (HB10.out.grown hg11 HB10.out.size (fun i e => by injection e with e; have := HLz.out; omega))
      have H11z : Hid (wG.heap.size ≤ x11.heap.size) := Lib.hid (by have := H10z.out; omega)
      clear hblk hg11 hz11 HS10 HR10 HSp10 HF10 HK10 HB10 HY10 tb tw
      go_wp2_with fail
      go_loopw [75] (fun i wr => ∃ j : Nat, j ≤ ms.length ∧ i = .int .i64 j ∧ Sp wL.heap.size wF.heap.size q' x11 wr ∧ SpX wL.heap.size wF.heap.size q' Ax ms wr) (fun i _ => ms.length - (intOf i).toNat)
      case atStart => exact ⟨0, by omega, rfl, Sp.refl _ _ _ _, HSp11.out⟩
      case round =>
        obtain ⟨j, hj, rfl, hsp, hspx⟩ := hrel
        have HSP := Lib.hid hsp
        have HSX := Lib.hid hspx
        clear hsp hspx
        by_cases hjl : j < ms.length
        · obtain ⟨bx, Ab, nb, cb, rfl, hcb, hrb⟩ := HSX.out.at_ hjl
          have HRB := Lib.hid hrb
          have hnb : nb ≤ 4096 := by have h1 := HSm.out ms[j] (List.getElem_mem hjl); have h2 := hrb.1; omega
          have hjI : (j : Int) < (ms.length : Int) := by omega
          clear hrb
          go_wp2_with fail
          refine (spoil_body HSP.out HSX.out (by have := HGz.out; have := H11z.out; omega) HRB.out (by omega)).mono ?_
          rintro e x12 ⟨rfl, hsp2, hspx2⟩
          have HSP2 := Lib.hid hsp2
          have HSX2 := Lib.hid hspx2
          clear hsp2 hspx2 hcb
          go_wp2
          exact ⟨⟨j + 1, by omega, by go_num, HSP2.out, HSX2.out⟩, by simp [intOf]; omega⟩
        · have hzz := HSP.out.size
          have HS12 : Hid (STid wr w.heap.size q' st') := Lib.hid (HS11.out.kept (by omega) fun i hi h => HSP.out.block i (by
            have hz := HLz.out
            rcases h with rfl | h
            · exact .inl (by omega)
            · exact .inr (.inr (.inl h.symm))))
          have HR12 : Hid (RIsS wr w1.heap.size q2' st') := Lib.hid (HR11.out.kept (by omega) fun i hi h => HSP.out.block i (by
            have hz := HLz.out
            rcases h with rfl | h
            · exact .inl (by omega)
            · rcases HNq2.out i h with h | h
              · exact .inl (by omega)
              · exact .inr (.inl h)))
          have HF12 : Hid (Fresh wG.heap.size wr A7f n7 data) := Lib.hid (HF11.out.keep fun i hlo hi => HSP.out.block i (.inr (.inl (by have := HGz.out; omega))))
          have hk12 : Blk wr wH.heap.size 43 #[.int .i64 code, .int .i64 sub, .slice A7f n7 n7] := (HSP.out.block _ (.inr (.inl (by have := HGz.out; have := HzH.out; omega)))).trans HK11.out
          have z2 : wr.cell? ⟨wH.heap.size, 2, none⟩ = some (.slice A7f n7 n7) := hk12.cell 2
          have HB12 : Hid (Below w.heap.size w wr) := Lib.hid (HB11.out.trans ⟨HSP.out.os, HSP.out.tape, HSP.out.output, by omega, fun i hi => HSP.out.block i (.inl (by have := HLz.out; omega))⟩)
          have H12z : Hid (wG.heap.size ≤ wr.heap.size) := Lib.hid (by have := H11z.out; omega)
          have hn7 : n7 ≤ 2 := by
            have h1 := HF12.out.2.1
            have h2 : data.length ≤ 2 := by
              rw [← D7.out]
              cases hst : st' with
              | wait c0 => simp [fltOf]
              | bad f0 =>
                have h3 := HFst.out
                rw [hst] at h3
                exact h3.2.1
            omega
          clear hk12 hzz HSP HSX HS11 HR11 HF11 HK11 HB11 HSp11
          go_wp2_with fail
          refine (spoil_fresh wG.heap.size wr A7f n7 n7 data HF12.out H12z.out (by omega)).mono ?_
          rintro e x13 ⟨rfl, hb13⟩
          have HPair' : Hid (Pair w w2 w.heap.size w1.heap.size x13) := Lib.hid ⟨st', q', q2', HS12.out.kept hb13.size (fun i hi h => hb13.block i (by
              have hz := HLz.out
              have h2 := HFz.out
              have h3 := HGz.out
              rcases h with rfl | h
              · omega
              · have := (HqF.out i h).2; omega)), HR12.out.kept hb13.size (fun i hi h => hb13.block i (by
              have hz := HLz.out
              have h2 := HFz.out
              have h3 := HGz.out
              rcases h with rfl | h
              · omega
              · exact HRq.out i h)), HFst.out, fun i e => (HqF.out i e).1, fun i e => by
              have hz := HLz.out
              have h2 := HFz.out
              rcases HaG.out with rfl | rfl | ⟨j', rfl, hj'⟩
              · exact Hq2.out i e
              · cases e
              · injection e with e; omega, fun i e e2 => by
              have hz := HLz.out
              have h2 := HFz.out
              have h4 := (HqF.out i e).2
              rcases HaG.out with rfl | rfl | ⟨j', rfl, hj'⟩
              · rcases HaF.out with rfl | rfl | ⟨j'', rfl, hj''⟩
                · exact Hdj.out i e e2
                · cases e
                · injection e with e
                  have := Hq2L.out i e2
                  omega
              · cases e2
              · injection e2 with e2; omega, HB12.out.trans (hb13.mono (by have := HLz.out; have := HFz.out; have := HGz.out; omega)), by have := HLz.out; have := HFz.out; have := HGz.out; have := hb13.size; have := H12z.out; omega⟩
          clear hb13 z2
          go_wp2
          exact ⟨⟨k + 1, by omega, by go_num, HPair'.out⟩, by simp [intOf]; omega⟩
    · go_wp2_with fail
      refine (alive_is wr).mono ?_
      rintro e w11 ⟨rfl, hb11⟩
      have HB11 := Lib.hid (HB.out.trans (hb11.mono HB.out.size))
      clear hb11 HB
      go_wp2
      go_ret
      exact ⟨rfl, HB11.out⟩
end Go.Proofs.Ytoiigalaijnoeaa
