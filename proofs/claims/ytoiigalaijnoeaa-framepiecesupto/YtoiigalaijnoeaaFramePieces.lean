/-
  FramePieces: the walk.
-/
import Derived.Test.YtoiigalaijnoeaaFrQ
import Derived.Test.YtoiigalaijnoeaaFrW
namespace Go.Proofs.Ytoiigalaijnoeaa
open Go.RowKit
set_option linter.unusedSimpArgs false
set_option linter.unusedVariables false

set_option maxHeartbeats 4000000 in
set_option maxRecDepth 100000 in
theorem framePieces_walk (w : World) (A : Option Addr) (n c : Nat) (l : List Int) (A2 : Option Addr) (n2 c2 : Nat) (xs : List Int) (hr : Rd w w.heap.size A n l ∧ n ≤ c) (hm : n ≤ 1048576) (hr2 : RdI w w.heap.size A2 n2 xs) (hm2 : n2 ≤ 140737488351232) :
    Calls Try.prog 6 #[.slice A n c, .slice A2 n2 c2] w fun e w' => e = .returned (.bool true) ∧ Below w.heap.size w w' := by
  obtain ⟨hr, hnc⟩ := hr
  have HR := Lib.hid hr
  have HR2 := Lib.hid hr2
  have hlen := Lib.hid hr.len
  clear hr hr2
  go_enter Try.func6, Try.ntmps6
  go_wp2_with fail
  refine (newS_is w).mono ?_
  rintro e w1 ⟨rfl, hs1, hb1, hz1⟩
  have HS1 := Lib.hid hs1
  have HB1 := Lib.hid hb1
  have HZ1 := Lib.hid hz1
  clear hs1 hb1 hz1
  go_wp2_with fail
  refine (newS_is w1).mono ?_
  rintro e w2 ⟨rfl, hs2, hb2, hz2⟩
  have HS2 := Lib.hid (waiting_new hs2)
  have HS1' : Hid (Waiting w2 w.heap.size none []) := Lib.hid (waiting_new (Blk.below HS1.out hb2 (by have := HZ1.out; omega)))
  have HB2 := Lib.hid (HB1.out.trans (hb2.mono HB1.out.size))
  have HZ2 : Hid (w.heap.size < w1.heap.size ∧ w1.heap.size < w2.heap.size) := Lib.hid (by have := HZ1.out; omega)
  clear hs2 hb2 hz2 HS1 HB1 HZ1
  go_wp2_with fail
  have HAlow : Hid (∀ i off, A = some ⟨i, off, none⟩ → 0 < n → i < w.heap.size) := Lib.hid fun i off e hn => by
    obtain ⟨b, off', e', hb, _⟩ := HR.out.at_ hn
    rw [e] at e'
    injection e' with e'
    injection e' with e'
    omega
  refine (feed_all w2 w.heap.size none none (.wait []) l A n c hlen.out HS1'.out ⟨Quiet.nil_, oct_nil⟩ ((HR.out.below HB2.out).more HB2.out.size) hnc (fun hn i off e => ⟨by have := HAlow.out i off e hn; omega, by simp⟩) (by omega)).mono ?_
  rintro e w3 ⟨vx, qs, ds, rfl, htx, hIs, hqt, hqs, hds, hfr⟩
  obtain ⟨Ax, cx, rfl, hmx⟩ := told_msr htx
  have hFs := (feed_fine (st := .wait []) ⟨Quiet.nil_, oct_nil⟩ HR.out.oct).1
  have hcnt : (feed (.wait []) l).1.length ≤ 4000000000000 := by
    have := parse_count l
    have h2 := hlen.out
    show (parse ([] ++ l)).1.length ≤ _
    rw [List.nil_append]
    omega
  have HTx := Lib.hid htx
  have HIs := Lib.hid hIs
  have HFs := Lib.hid hFs
  have HB3 : Hid (Below w.heap.size w w3) := Lib.hid (HB2.out.trans (hfr.below HB2.out.size (Nat.le_refl _) (fun i e => by cases e)))
  have HS3 : Hid (Waiting w3 w1.heap.size none []) := Lib.hid (IsS.kept (d := none) (st := .wait []) HS2.out fun i hi h => by
    rcases h with rfl | h | h
    · exact hfr.block _ hi (by have := HZ2.out; omega) (by simp)
    · cases h
    · cases h)
  have HZ3 : Hid (w.heap.size < w1.heap.size ∧ w1.heap.size < w2.heap.size ∧ w2.heap.size ≤ w3.heap.size) := Lib.hid ⟨HZ2.out.1, HZ2.out.2, hfr.size⟩
  have HQs : Hid (∀ i, qs = some i → w2.heap.size ≤ i) := Lib.hid hqs.ge
  have HDs : Hid (∀ i, ds = some i → w2.heap.size ≤ i) := Lib.hid hds.ge
  clear htx hIs hqt hqs hds hfr HS2 HS1' HB2 HZ2 hFs hmx
  go_wp2_with fail
  go_loopw [8, 9, 30] (fun y fr i wr => ∃ k m : Nat, k ≤ n2 ∧ i = .int .i64 k ∧ m ≤ n ∧ fr = .int .i64 m ∧ PcRel w3 w1.heap.size l m y wr) (fun _ _ i _ => n2 - (intOf i).toNat)
  case atStart => exact ⟨0, 0, by omega, rfl, by omega, rfl, pc_start HS3.out⟩
  case round =>
    obtain ⟨k, m, hk, rfl, hmn, rfl, hpc⟩ := hrel
    have HPC := Lib.hid hpc
    obtain ⟨Y, qr, dr, st, hI, hF, hQ, hT, hFr, hq, hd, hp⟩ := hpc
    have hbel : Below w.heap.size w wr := HB3.out.trans (hFr.below HB3.out.size (by have := HZ3.out; omega) (fun i e => by cases e))
    have HBel := Lib.hid hbel
    have HI := Lib.hid hI
    have HF := Lib.hid hF
    have HQ := Lib.hid hQ
    have HT := Lib.hid hT
    have HFr := Lib.hid hFr
    have Hq := Lib.hid hq
    have Hd := Lib.hid hd
    have HP := Lib.hid hp
    obtain ⟨A7, hA7⟩ : ∃ A7, (if c = m then A else Option.map (fun x => x.add m) A) = A7 := ⟨_, rfl⟩
    have HRc : Hid (∀ x, x ≤ n - m → Rd wr wr.heap.size A7 x ((l.drop m).take x)) := Lib.hid fun x hx => by rw [← hA7]; exact ((HR.out.below hbel).cut (k := m) (m := x) (by omega) hnc).more hbel.size
    have HNr : Hid (∀ x, 0 < x → x ≤ n - m → ∀ i off, A7 = some ⟨i, off, none⟩ → i ≠ w1.heap.size ∧ some i ≠ qr) := Lib.hid fun x hx hxn i off e => by
      rw [← hA7] at e
      obtain ⟨b, o', e', hb, _⟩ := ((HR.out.below hbel).cut (k := m) (m := x) (by omega) hnc).at_ hx
      rw [e'] at e
      injection e with e
      injection e with e
      subst e
      have hz := HZ3.out
      have hl := hb
      refine ⟨by omega, fun h => ?_⟩
      have := hq.ge _ h.symm
      omega
    clear hI hF hQ hT hFr hq hd hp hbel
    by_cases hlt : k < n2
    · obtain ⟨b2, off2, rfl, hb2, hcell⟩ := HR2.out.at_ (by omega)
      have hx : wr.cell? ⟨b2, off2 + k, none⟩ = some (.int .i64 (xs.getD k 0)) := (HBel.out.cell (p := ⟨b2, off2 + k, none⟩) hb2).trans (hcell k hlt)
      have hcb := cnt_bd (a := xs.getD k 0) (m := (n : Int) - (m : Int) + 1) (by omega)
      have HCnt := Lib.hid (fun w => count_is w (xs.getD k 0) ((n : Int) - (m : Int) + 1) (by omega) (by omega))
      obtain ⟨t, ht⟩ := Int.eq_ofNat_of_zero_le hcb.1
      rw [ht] at HCnt hcb
      have htn : t ≤ n - m := by omega
      clear ht hcb hcell
      generalize xs.getD k 0 = xk at *
      go_wp2_with fail
      refine (HCnt.out wr).mono ?_
      rintro e w' ⟨rfl, rfl⟩
      have i1 : (m : Int) + (t : Int) ≤ (c : Int) := by omega
      have i2 : ((m : Int) + (t : Int)).toNat = m + t := by omega
      have i3 : m + t - m = t := by omega
      have i4 : (m : Int) ≤ (m : Int) + (t : Int) := by omega
      go_wp2_with fail
      refine (feed_all wr w1.heap.size qr dr st ((l.drop m).take t) A7 t (c - m) (by have := hlen.out; simp; omega) HI.out HF.out (HRc.out t htn) (by omega) (fun h => HNr.out t h htn) (by omega)).mono ?_
      rintro e w5 ⟨v, q', d', rfl, h1, h2, h3, h4, h5, h6⟩
      obtain ⟨Y', U, q5, d5, st5, p1, p2, p3, p4, p5, p6, p7, p8, p9, p10⟩ := (pc_fed (by have := HZ3.out; omega) HR.out.oct HI.out HF.out HQ.out HT.out HFr.out Hq.out Hd.out HP.out h1 h2 h3 h4 h5 h6).ex
      have P1 := Lib.hid p1
      have P2 := Lib.hid p2
      have P3 := Lib.hid p3
      have P4 := Lib.hid p4
      have P5 := Lib.hid p5
      have P6 := Lib.hid p6
      have P7 := Lib.hid p7
      have P8 := Lib.hid p8
      have P9 := Lib.hid p9
      have P10 := Lib.hid p10
      have hsz5 : w3.heap.size ≤ wr.heap.size := HFr.out.size
      have hsz6 : w3.heap.size ≤ w5.heap.size := p9.size
      clear h1 h2 h3 h4 h5 h6 p1 p2 p3 p4 p5 p6 p7 p8 p9 p10 HI HF HQ HT HFr Hq Hd HP HPC HRc HNr
      go_wp2_with (at_builtin; refine app_two rfl _ _ rfl P2.out P3.out hsz5 hsz6 (by have := P10.out; have := hlen.out; omega) rfl rfl ?_)
      intro y' w6 ht6 hg6 hold6
      have HPc : Hid (PcRel w3 w1.heap.size l (m + t) y' w6) := Lib.hid (pc_app (by have := HZ3.out; omega) P1.out P4.out P5.out P6.out P7.out P8.out P9.out ht6 hg6 hold6)
      clear ht6 hg6 hold6 P1 P2 P3 P4 P5 P6 P7 P8 P9 P10
      clear hA7
      go_wp2
      exact ⟨⟨k + 1, m + t, by omega, by go_num, by omega, by go_num, HPc.out⟩, by simp [intOf]; omega⟩
    · have hmI : (m : Int) ≤ (n : Int) := by omega
      go_wp2_with fail
      refine (feed_all wr w1.heap.size qr dr st ((l.drop m).take (n - m)) A7 (n - m) (c - m) (by have := hlen.out; simp; omega) HI.out HF.out (HRc.out (n - m) (Nat.le_refl _)) (by omega) (fun h => HNr.out (n - m) h (Nat.le_refl _)) (by omega)).mono ?_
      rintro e w5 ⟨v, q', d', rfl, h1, h2, h3, h4, h5, h6⟩
      obtain ⟨Y', U, q5, d5, st5, p1, p2, p3, p4, p5, p6, p7, p8, p9, p10⟩ := (pc_fed (by have := HZ3.out; omega) HR.out.oct HI.out HF.out HQ.out HT.out HFr.out Hq.out Hd.out HP.out h1 h2 h3 h4 h5 h6).ex
      have P1 := Lib.hid p1
      have P2 := Lib.hid p2
      have P3 := Lib.hid p3
      have P4 := Lib.hid p4
      have P5 := Lib.hid p5
      have P6 := Lib.hid p6
      have P7 := Lib.hid p7
      have P8 := Lib.hid p8
      have P9 := Lib.hid p9
      have P10 := Lib.hid p10
      have hsz5 : w3.heap.size ≤ wr.heap.size := HFr.out.size
      have hsz6 : w3.heap.size ≤ w5.heap.size := p9.size
      clear h1 h2 h3 h4 h5 h6 p1 p2 p3 p4 p5 p6 p7 p8 p9 p10 HI HF HQ HT HFr Hq Hd HP HPC HRc HNr
      go_wp2_with (at_builtin; refine app_two rfl _ _ rfl P2.out P3.out hsz5 hsz6 (by have := P10.out; have := hlen.out; omega) rfl rfl ?_)
      intro y' w6 ht6 hg6 hold6
      have HPc : Hid (PcRel w3 w1.heap.size l (m + (n - m)) y' w6) := Lib.hid (pc_app (by have := HZ3.out; omega) P1.out P4.out P5.out P6.out P7.out P8.out P9.out ht6 hg6 hold6)
      clear ht6 hg6 hold6 P1 P2 P3 P4 P5 P6 P7 P8 P9 P10
      clear hA7
      obtain ⟨Y6, qr6, dr6, st6, hI6, hF6, _, hT6, hFr6, hq6, hd6, hp6⟩ := HPc.out
      have hwhole : l.take (m + (n - m)) = l := List.take_of_length_le (by have := hlen.out; omega)
      rw [hwhole] at hp6
      have hIs6 : IsS w6 w.heap.size qs ds (feed (.wait []) l).2 := HIs.out.kept fun i hi h => hFr6.block i hi (by
        have hz := HZ3.out
        rcases h with rfl | h | h
        · omega
        · have := HQs.out i h; omega
        · have := HDs.out i h; omega) (by simp)
      have hTx6 : Told w2.heap.size w6 none (.slice Ax (feed (.wait []) l).1.length cx) (feed (.wait []) l).1 := HTx.out.less.kept fun i c t hi hlo ht => ⟨hFr6.block i (Array.getElem?_eq_some_iff.1 hi).1 (by have hz := HZ3.out; omega) (by simp), fun _ => by simp⟩
      rw [hp6] at hIs6 hTx6 hcnt HFs
      obtain ⟨Ay, cy, rfl, hMy⟩ := told_msr hT6
      obtain ⟨Ax', cx', ex, hMx⟩ := told_msr hTx6
      injection ex with ex1 ex2 ex3
      subst ex1
      have HB6 : Hid (Below w.heap.size w w6) := Lib.hid (HB3.out.trans (hFr6.below HB3.out.size (by have := HZ3.out; omega) (fun i e => by cases e)))
      have HIs6 := Lib.hid hIs6
      have HIr6 := Lib.hid hI6
      have HMy := Lib.hid hMy
      have HMx := Lib.hid hMx
      have hlx : (feed (.wait []) l).1.length = Y6.length := by rw [hp6]
      clear hIs6 hI6 hF6 hT6 hFr6 hq6 hd6 hMy hMx hTx6 HPc HTx HIs hwhole hp6
      rw [hlx]
      clear hlx
      go_wp2_with fail
      refine (fault_any w6 w.heap.size qs ds st6 HIs6.out HFs.out).mono ?_
      rintro e w7 ⟨A7f, n7, rfl, hf7, hb7⟩
      have hx7 : ∀ o, Below w6.heap.size w6 (w7.alloc o) := fun o => hb7.alloc hb7.size o
      have HB7 := Lib.hid (HB6.out.trans ((hx7 (.cells #[.int .i64 (fltOf st6).code, .int .i64 (fltOf st6).sub, .slice A7f n7 n7] 43)).mono HB6.out.size))
      have HIs7 := Lib.hid (HIs6.out.below (hx7 (.cells #[.int .i64 (fltOf st6).code, .int .i64 (fltOf st6).sub, .slice A7f n7 n7] 43)))
      have HIr7 := Lib.hid (HIr6.out.below (hx7 (.cells #[.int .i64 (fltOf st6).code, .int .i64 (fltOf st6).sub, .slice A7f n7 n7] 43)))
      have HMy7 := Lib.hid (HMy.out.below (hx7 (.cells #[.int .i64 (fltOf st6).code, .int .i64 (fltOf st6).sub, .slice A7f n7 n7] 43)))
      have HMx7 := Lib.hid (HMx.out.below (hx7 (.cells #[.int .i64 (fltOf st6).code, .int .i64 (fltOf st6).sub, .slice A7f n7 n7] 43)))
      have HK7 := Lib.hid (Blk.new w7 43 #[.int .i64 (fltOf st6).code, .int .i64 (fltOf st6).sub, .slice A7f n7 n7])
      have HD7 : Hid (Rd (w7.alloc (.cells #[.int .i64 (fltOf st6).code, .int .i64 (fltOf st6).sub, .slice A7f n7 n7] 43)) (w7.alloc (.cells #[.int .i64 (fltOf st6).code, .int .i64 (fltOf st6).sub, .slice A7f n7 n7] 43)).heap.size A7f n7 (fltOf st6).data) := Lib.hid ((hf7.rd.keep fun p hp => World.cell?_alloc_lt _ _ _ hp).more (by simp))
      clear hx7 hf7 hb7 HIs6 HIr6 HMy HMx HB6
      generalize hc7 : (fltOf st6).code = code at *
      generalize hs7 : (fltOf st6).sub = sub at *
      generalize hd7 : (fltOf st6).data = data at *
      generalize hbb : badB st6 = bb at *
      have C7 := Lib.hid hc7
      have S7 := Lib.hid hs7
      have D7 := Lib.hid hd7
      have B7 := Lib.hid hbb
      clear hc7 hs7 hd7 hbb
      go_wp2_with fail
      generalize w7.alloc (.cells #[.int .i64 code, .int .i64 sub, .slice A7f n7 n7] 43) = x7 at *
      refine (fault_any x7 w1.heap.size qr6 dr6 st6 HIr7.out HFs.out).mono ?_
      rintro e w8 ⟨A8, n8, rfl, hf8, hb8⟩
      rw [C7.out, S7.out, B7.out]
      rw [D7.out] at hf8
      have hx8 := hb8.alloc hb8.size (.cells #[.int .i64 code, .int .i64 sub, .slice A8 n8 n8] 43)
      have HB8 := Lib.hid (HB7.out.trans (hx8.mono HB7.out.size))
      have HIs8 := Lib.hid (HIs7.out.below hx8)
      have HIr8 := Lib.hid (HIr7.out.below hx8)
      have HMy8 := Lib.hid (HMy7.out.below hx8)
      have HMx8 := Lib.hid (HMx7.out.below hx8)
      have hk7 := HK7.out.below hx8 HK7.out.lt
      have hk8 := Blk.new w8 43 #[.int .i64 code, .int .i64 sub, .slice A8 n8 n8]
      have HDa : Hid (Rd (w8.alloc (.cells #[.int .i64 code, .int .i64 sub, .slice A8 n8 n8] 43)) (w8.alloc (.cells #[.int .i64 code, .int .i64 sub, .slice A8 n8 n8] 43)).heap.size A7f n7 data) := Lib.hid ((HD7.out.below hx8).more hx8.size)
      have HDb : Hid (Rd (w8.alloc (.cells #[.int .i64 code, .int .i64 sub, .slice A8 n8 n8] 43)) (w8.alloc (.cells #[.int .i64 code, .int .i64 sub, .slice A8 n8 n8] 43)).heap.size A8 n8 data) := Lib.hid ((hf8.rd.keep fun p hp => World.cell?_alloc_lt _ _ _ hp).more (by simp))
      have HK8 := Lib.hid hk7
      have HK9 := Lib.hid hk8
      clear hx8 hf8 hb8 hk7 hk8 HIs7 HIr7 HMy7 HMx7 HB7 HK7 HD7
      go_wp2_with fail
      generalize w8.alloc (.cells #[.int .i64 code, .int .i64 sub, .slice A8 n8 n8] 43) = x8 at *
      refine (sameM_is x8 Ax Ay cx' cy Y6 HMx8.out HMy8.out hcnt).mono ?_
      rintro e w9 ⟨rfl, k9, rfl⟩
      have tb : (bb == bb) = true := by simp
      have u0 : x8.cell? ⟨w7.heap.size, 0, none⟩ = some (.int .i64 code) := HK8.out.cell 0
      have u1 : x8.cell? ⟨w7.heap.size, 1, none⟩ = some (.int .i64 sub) := HK8.out.cell 1
      have u2 : x8.cell? ⟨w7.heap.size, 2, none⟩ = some (.slice A7f n7 n7) := HK8.out.cell 2
      have v0 : x8.cell? ⟨w8.heap.size, 0, none⟩ = some (.int .i64 code) := HK9.out.cell 0
      have v1 : x8.cell? ⟨w8.heap.size, 1, none⟩ = some (.int .i64 sub) := HK9.out.cell 1
      have v2 : x8.cell? ⟨w8.heap.size, 2, none⟩ = some (.slice A8 n8 n8) := HK9.out.cell 2
      go_wp2_with fail
      refine (alike_is (x8.drewN k9) code sub A7f A8 n7 n8 n7 n8 data (HDa.out.keep fun _ _ => rfl) (HDb.out.keep fun _ _ => rfl)).mono ?_
      rintro e w10 ⟨rfl, hb10⟩
      have hb10' := below_undrew hb10
      have HB10 := Lib.hid (HB8.out.trans (hb10'.mono HB8.out.size))
      have HIs10 := Lib.hid (HIs8.out.below hb10')
      have HIr10 := Lib.hid (HIr8.out.below hb10')
      clear hb10 hb10' u0 u1 u2 v0 v1 v2 tb HIs8 HIr8 HB8 HMx8 HMy8 HDa HDb HK8 HK9
      go_wp2_with fail
      refine (waits_any w10 w.heap.size qs ds st6 HIs10.out).mono ?_
      rintro e w' ⟨rfl, rfl⟩
      go_wp2_with fail
      refine (waits_any w10 w1.heap.size qr6 dr6 st6 HIr10.out).mono ?_
      rintro e w' ⟨rfl, rfl⟩
      have tw : ((waitsN st6 : Int) == (waitsN st6 : Int)) = true := by simp
      go_wp2_with fail
      refine (alive_is w10).mono ?_
      rintro e w11 ⟨rfl, hb11⟩
      have HB11 := Lib.hid (HB10.out.trans (hb11.mono HB10.out.size))
      clear hb11 HB10
      go_wp2
      go_ret
      exact ⟨rfl, HB11.out⟩
end Go.Proofs.Ytoiigalaijnoeaa
