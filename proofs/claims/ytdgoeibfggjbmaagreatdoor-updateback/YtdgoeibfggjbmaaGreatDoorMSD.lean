/-
  Put together: UsD UsF.
-/
import Derived.Test.YtdgoeibfggjbmaaGreatDoorMRG
import Derived.Test.YtdgoeibfggjbmaaGreatDoorMNV
import Derived.Test.YtdgoeibfggjbmaaGreatDoorMSA
namespace Go.Proofs.YtdgoeibfggjbmaaGreatDoor
open Go.RowKit
set_option maxRecDepth 100000
set_option linter.unusedSimpArgs false
set_option linter.unusedVariables false

set_option maxHeartbeats 400000 in
theorem sameN7_is (w : World) (A1 A2 : Option Addr) (n1 n2 c1 c2 : Nat) (rs ss : List Rt) (h1 : RdRt w w.heap.size A1 n1 rs) (h2 : RdRt w w.heap.size A2 n2 ss) (hn : n1 ≤ 4611686018427387904) :
    Calls Tryz.prog 60 #[.slice A1 n1 c1, .slice A2 n2 c2] w fun e w' => e = .returned (.bool (decide (rs = ss))) ∧ Below w.heap.size w w' := by
  have H1 := Lib.hid h1
  have H2 := Lib.hid h2
  have l1 := h1.len
  have l2 := h2.len
  clear h1 h2
  by_cases hl : n1 = n2
  · subst hl
    have HL1 := Lib.hid l1
    have HL2 := Lib.hid l2
    clear l1 l2
    go_enter Tryz.func60, Tryz.ntmps60
    go_wp2
    go_loopw [5, 13] (fun _ i wr => ∃ m : Nat, m ≤ n1 ∧ i = .int .i64 m ∧ rs.take m = ss.take m ∧ Below w.heap.size w wr) (fun _ i _ => n1 - (intOf i).toNat)
    case atStart => exact ⟨0, Nat.zero_le _, rfl, rfl, Below.refl _ _⟩
    case round =>
      obtain ⟨m, hm, rfl, heq, hB⟩ := hrel
      have HE := Lib.hid heq
      have HB := Lib.hid hB
      clear heq hB
      by_cases hlt : m < n1
      · have hm1 : m < rs.length := by have := HL1.out; omega
        have hm2 : m < ss.length := by have := HL2.out; omega
        obtain ⟨b1, o1, rfl, hb1, hr1, ok1⟩ := (H1.out.below HB.out).get hm1
        obtain ⟨b2, o2, rfl, hb2, hr2, ok2⟩ := (H2.out.below HB.out).get hm2
        have HT1 := Lib.hid (List.take_succ_eq_append_getElem hm1)
        have HT2 := Lib.hid (List.take_succ_eq_append_getElem hm2)
        have HD : Hid (rs[m] ≠ ss[m] → rs ≠ ss) := Lib.hid (fun h e => h (by subst e; rfl))
        have HR1 := Lib.hid hr1
        have HR2 := Lib.hid hr2
        have HO1 := Lib.hid ok1
        have HO2 := Lib.hid ok2
        clear hr1 hr2 ok1 ok2
        generalize rs[m] = x at *
        generalize ss[m] = y at *
        have hq := rt_in x y HO1.out HO2.out (decide (x = y)) (by simp)
        have h0 : (0 : Int) ≤ (m : Int) := by omega
        have h1 : (m : Int) < (n1 : Int) := by omega
        go_wp2
        refine wp_region_held_drew (S := fun W => W.rangeAt b1 (o1 + m * 63) (rtc x) ∧ W.rangeAt b2 (o2 + m * 63) (rtc y)) (by kernel_rfl) (⟨HR1.out, HR2.out⟩) (fun hS => ?_)
        refine wpAnyH_take (i := 0) (oi := ⟨some 16, _, _, _, _, _⟩) (v := ?_) rfl (by kernel_rfl) (by kernel_rfl) (by kernel_rfl) (fun _ _ _ h => h) (Or.inl ⟨by rfl, ?_⟩) hS ?_
        rotate_left
        · intro wq hq
          first | (go_simp; done) | (go_simp; rfl)
        try simp only [Act.put, zP, zQ, zR]
        refine wpAnyH_take (i := 1) (oi := ⟨some 17, _, _, _, _, _⟩) (v := ?_) rfl (by kernel_rfl) (by kernel_rfl) (by kernel_rfl) (fun _ _ _ h => h) (Or.inl ⟨by rfl, ?_⟩) hS ?_
        rotate_left
        · intro wq hq
          first | (go_simp; done) | (go_simp; rfl)
        try simp only [Act.put, zP, zQ, zR]
        refine wpAnyH_take (i := 2) (oi := ⟨some 18, _, _, _, _, _⟩) (v := ?_) rfl (by kernel_rfl) (by kernel_rfl) (by kernel_rfl) (fun _ _ _ h => h) (Or.inl ⟨by rfl, ?_⟩) hS ?_
        rotate_left
        · intro wq hq
          first | (go_simp; done) | (go_simp; rfl)
        try simp only [Act.put, zP, zQ, zR]
        refine wpAnyH_take (i := 3) (oi := ⟨some 19, _, _, _, _, _⟩) rfl (by kernel_rfl) (by kernel_rfl) (by kernel_rfl) (fun _ _ _ h => h) (yieldsIf_load_mid (by rfl) 53 _ rfl _ _ rfl (rtc x) _ (fun wq hq => hq.1) Tryz.underlying53 rfl (by rw [rt_size, rtc_len HO1.out])) hS ?_
        try simp only [Act.put, zP, zQ, zR]
        refine wpAnyH_take (i := 4) (oi := ⟨some 20, _, _, _, _, _⟩) (v := ?_) rfl (by kernel_rfl) (by kernel_rfl) (by kernel_rfl) (fun _ _ _ h => h) (Or.inl ⟨by rfl, ?_⟩) hS ?_
        rotate_left
        · intro wq hq
          first | (go_simp; done) | (go_simp; rfl)
        try simp only [Act.put, zP, zQ, zR]
        refine wpAnyH_take (i := 5) (oi := ⟨some 21, _, _, _, _, _⟩) (v := ?_) rfl (by kernel_rfl) (by kernel_rfl) (by kernel_rfl) (fun _ _ _ h => h) (Or.inl ⟨by rfl, ?_⟩) hS ?_
        rotate_left
        · intro wq hq
          first | (go_simp; done) | (go_simp; rfl)
        try simp only [Act.put, zP, zQ, zR]
        refine wpAnyH_take (i := 6) (oi := ⟨some 22, _, _, _, _, _⟩) (v := ?_) rfl (by kernel_rfl) (by kernel_rfl) (by kernel_rfl) (fun _ _ _ h => h) (Or.inl ⟨by rfl, ?_⟩) hS ?_
        rotate_left
        · intro wq hq
          first | (go_simp; done) | (go_simp; rfl)
        try simp only [Act.put, zP, zQ, zR]
        refine wpAnyH_take (i := 7) (oi := ⟨some 23, _, _, _, _, _⟩) rfl (by kernel_rfl) (by kernel_rfl) (by kernel_rfl) (fun _ _ _ h => h) (yieldsIf_load_mid (by rfl) 53 _ rfl _ _ rfl (rtc y) _ (fun wq hq => hq.2) Tryz.underlying53 rfl (by rw [rt_size, rtc_len HO2.out])) hS ?_
        try simp only [Act.put, zP, zQ, zR]
        refine wpAnyH_take (i := 8) (oi := ⟨some 24, _, _, _, _, _⟩) (v := ?_) rfl (by kernel_rfl) (by kernel_rfl) (by kernel_rfl) (fun _ _ _ h => h) (Or.inl ⟨by rfl, ?_⟩) hS ?_
        rotate_left
        · intro wq hq
          first | (go_simp; done) | (go_simp; rfl)
        try simp only [Act.put, zP, zQ, zR]
        refine wpAnyH_done (by kernel_rfl) ?_ _
        clear hS hq
        have HBd := Lib.hid (below_drewN HB.out 1)
        by_cases hxy : x = y
        · subst hxy
          rw [show decide (x = x) = true from by simp]
          go_wp2
          exact ⟨⟨m + 1, by omega, by go_num, by rw [HT1.out, HT2.out, HE.out], HBd.out⟩, by simp [intOf]; omega⟩
        · rw [show decide (x = y) = false from by simp [hxy]]
          have HF := Lib.hid (HD.out hxy)
          clear hxy
          go_wp2
          go_ret
          exact ⟨by rw [decide_eq_false HF.out]; rfl, HBd.out⟩
      · obtain rfl : m = n1 := by omega
        have HF : Hid (rs = ss) := Lib.hid (by
          have := HE.out
          rwa [List.take_of_length_le (by have := HL1.out; omega), List.take_of_length_le (by have := HL2.out; omega)] at this)
        go_wp2
        go_ret
        exact ⟨by rw [decide_eq_true HF.out]; rfl, HB.out⟩
  · have HF : Hid (decide (rs = ss) = false) := Lib.hid (decide_eq_false (fun e => hl (by rw [← l1, ← l2, e])))
    clear l1 l2
    have hne : ¬ (n1 : Int) = (n2 : Int) := by omega
    go_enter Tryz.func60, Tryz.ntmps60
    go_wp2
    go_ret
    exact ⟨by rw [HF.out]; rfl, Below.refl _ _⟩

structure SmS (w W : World) (cs ds : List Value) (nv : Bool) (nl : List Int) (vr vu vr2 vu2 : Value) : Prop where
  b1 : UpBox W w.heap.size cs nv nl vr vu
  b2 : UpBox W (w.heap.size + 1) ds nv nl vr2 vu2
  low : Below w.heap.size w W
theorem SmS.below {w W W' : World} {cs ds : List Value} {nv : Bool} {nl : List Int} {vr vu vr2 vu2 : Value} (h : SmS w W cs ds nv nl vr vu vr2 vu2) (hB : Below W.heap.size W W') : SmS w W' cs ds nv nl vr vu vr2 vu2 := ⟨h.b1.up hB, h.b2.up hB, h.low.trans (hB.mono h.low.size)⟩
theorem sms_new (w : World) (cs ds : List Value) (nv : Bool) (nl : List Int) (vr vu vr2 vu2 : Value) (h1 : cs.length = 27) (h2 : ds.length = 27) (h3 : nl.length = 16) : SmS w ((w.alloc (.cells (upc cs nv nl vr vu).toArray 34)).alloc (.cells (upc ds nv nl vr2 vu2).toArray 34)) cs ds nv nl vr vu vr2 vu2 := by
  have hb := bl_one (w.alloc (.cells (upc cs nv nl vr vu).toArray 34)) (.cells (upc ds nv nl vr2 vu2).toArray 34)
  have x1 := (UpBox.new (vr := vr) (vu := vu) (nv := nv) w h1 h3).up hb
  have x2 := UpBox.new (vr := vr2) (vu := vu2) (nv := nv) (w.alloc (.cells (upc cs nv nl vr vu).toArray 34)) h2 h3
  refine ⟨x1, ?_, (bl_one w _).trans (hb.mono (by simp))⟩
  simpa using x2
set_option maxHeartbeats 1000000 in
theorem Same7_is (w : World) (u : Up) (ok : AtOk u.at_) (hn : u.nl.length = 16) (ho : Oct u.nl) (cs ds : List Value) (h1 : RdAt w w.heap.size cs u.at_) (h2 : RdAt w w.heap.size ds u.at_) (hc : cs.length = 27) (hd : ds.length = 27) (A1 A2 B1 B2 : Option Addr) (n1 n2 c1 c2 d1 d2 : Nat)
    (hr : UpRd w u A1 n1 A2 n2) (hs : UpRd w u B1 n1 B2 n2) (hb1 : n1 ≤ 4611686018427387904) (hb2 : n2 ≤ 4611686018427387904) :
    Calls Tryz.prog 23 #[.agg (upc cs u.nv u.nl (.slice A1 n1 c1) (.slice A2 n2 c2)).toArray, .agg (upc ds u.nv u.nl (.slice B1 n1 d1) (.slice B2 n2 d2)).toArray] w fun e w' => e = .returned (.bool true) ∧ Below w.heap.size w w' := by
  have H0 := Lib.hid (sms_new w cs ds u.nv u.nl (.slice A1 n1 c1) (.slice A2 n2 c2) (.slice B1 n1 d1) (.slice B2 n2 d2) hc hd hn)
  have HA := Lib.hid (fun W (hB : Below w.heap.size w W) => sameA_is W cs ds u.at_ ((h1.below hB).more hB.size) ((h2.below hB).more hB.size) ok)
  have HR := Lib.hid (fun W (hB : Below w.heap.size w W) => sameN7_is W A1 B1 n1 n1 c1 d1 u.re u.re ((hr.up hB).re) ((hs.up hB).re) hb1)
  have HU := Lib.hid (fun W (hB : Below w.heap.size w W) => sameN7_is W A2 B2 n2 n2 c2 d2 u.un u.un ((hr.up hB).un) ((hs.up hB).un) hb2)
  have HQ := Lib.hid (ip_eql u.nv u.nv u.nl u.nl hn hn ho ho true (by simp))
  have e1 : decide (u.re = u.re) = true := by simp
  have e2 : decide (u.un = u.un) = true := by simp
  rw [e1] at HR
  rw [e2] at HU
  clear e1 e2
  generalize u.nv = nv at *
  generalize u.nl = nl at *
  clear ok hn ho h1 h2 hr hs hc hd hb1 hb2
  go_enter Tryz.func23, Tryz.ntmps23
  have hq := HQ.out
  go_wp2_with (first
    | (refine upa_fetch rfl _ rfl w.heap.size H0.out.b1 rfl ?_)
    | (refine upa_fetch rfl _ rfl (w.heap.size + 1) H0.out.b2 rfl ?_)
    | fail)
  refine (HA.out _ H0.out.low).mono ?_
  rintro e w1 ⟨rfl, hB⟩
  have H1 := Lib.hid (H0.out.below hB)
  clear hB H0 HA
  have k1 := H1.out.b1.cr
  have k2 := H1.out.b2.cr
  go_wp2_with (first
    | (refine upn_fetch rfl _ rfl w.heap.size H1.out.b1 rfl ?_)
    | (refine upn_fetch rfl _ rfl (w.heap.size + 1) H1.out.b2 rfl ?_)
    | fail)
  refine (HR.out _ H1.out.low).mono ?_
  rintro e w2 ⟨rfl, hB⟩
  have H2 := Lib.hid (H1.out.below hB)
  clear hB H1 HR k1 k2
  have k1 := H2.out.b1.cu
  have k2 := H2.out.b2.cu
  go_wp2_with fail
  refine (HU.out _ H2.out.low).mono ?_
  rintro e w3 ⟨rfl, hB⟩
  have H3 := Lib.hid (H2.out.below hB)
  clear hB H2 HU k1 k2
  go_wp2
  go_ret
  exact ⟨rfl, H3.out.low⟩
end Go.Proofs.YtdgoeibfggjbmaaGreatDoor
namespace Go.Proofs.YtdgoeibfggjbmaaGreatDoor
open Go.RowKit
set_option maxRecDepth 100000
set_option linter.unusedSimpArgs false
set_option linter.unusedVariables false

theorem great7_is (w : World) (u : Up) (hn : u.nl.length = 16) (xs : List Value) (hx : xs.length = 27) (A1 A2 : Option Addr) (n1 c1 n2 c2 : Nat) :
    Calls Tryz.prog 15 #[.agg (upc xs u.nv u.nl (.slice A1 n1 c1) (.slice A2 n2 c2)).toArray] w fun e w' => e = .returned (.bool (decide (400 < n1) || decide (400 < n2))) ∧ Below w.heap.size w w' := by
  have H0 := Lib.hid (UpBox.new (vr := .slice A1 n1 c1) (vu := .slice A2 n2 c2) (nv := u.nv) w hx hn)
  have HB := Lib.hid (bl_one w (.cells (upc xs u.nv u.nl (.slice A1 n1 c1) (.slice A2 n2 c2)).toArray 34))
  clear hx hn
  generalize u.nv = nv at *
  generalize u.nl = nl at *
  have k1 := H0.out.cr
  have k2 := H0.out.cu
  rcases (show 400 < n1 ∨ (¬ 400 < n1 ∧ 400 < n2) ∨ (¬ 400 < n1 ∧ ¬ 400 < n2) by omega) with h | ⟨h, h2⟩ | ⟨h, h2⟩
  · rw [decide_eq_true h]
    have hx : ((n1 : Int) > 400) := by omega
    go_enter Tryz.func15, Tryz.ntmps15
    go_wp2
    go_ret
    exact ⟨rfl, HB.out⟩
  · rw [decide_eq_false h, decide_eq_true h2]
    have hx : ¬ ((n1 : Int) > 400) := by omega
    have hx2 : ((n2 : Int) > 400) := by omega
    go_enter Tryz.func15, Tryz.ntmps15
    go_wp2
    go_ret
    exact ⟨rfl, HB.out⟩
  · rw [decide_eq_false h, decide_eq_false h2]
    have hx : ¬ ((n1 : Int) > 400) := by omega
    have hx2 : ¬ ((n2 : Int) > 400) := by omega
    go_enter Tryz.func15, Tryz.ntmps15
    go_wp2
    go_ret
    exact ⟨rfl, HB.out⟩
theorem att0_ok : AtOk Att.zero := ⟨⟨by decide, by decide, by decide, by decide, rfl, oct_zeros 16⟩, by decide, by decide, by decide⟩
theorem upB_len {u : Up} (he : upE u = 0) : 4 ≤ (upB u).length ∧ (upB u).length ≤ 4077 := by
  obtain ⟨_, _, _, _, h5⟩ := upE_parts he
  unfold upB
  simp only [List.length_append, be_len, List.length_cons, List.length_nil]
  omega
end Go.Proofs.YtdgoeibfggjbmaaGreatDoor
