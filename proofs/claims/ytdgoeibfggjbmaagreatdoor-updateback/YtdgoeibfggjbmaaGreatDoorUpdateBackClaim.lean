/-
  UpdateBack: for every input the law returns true, and each argument reads behind the call as it read before; the library's variables as the program's text lays them.
-/
import Derived.Test.YtdgoeibfggjbmaaGreatDoorMY
import Derived.Test.YtdgoeibfggjbmaaGreatDoorMSG
import Derived.Test.YtdgoeibfggjbmaaGreatDoorTie
import Derived.Test.YtdgoeibfggjbmaaGreatDoorCards
import Derived.Test.YtdgoeibfggjbmaaGreatDoorMX
import Derived.WalkKit
import Derived.OpenShut
import Derived.ShutString
import Derived.ChangeOld
import Derived.Below
import Derived.LaidOnce
import Derived.SevenTiedAt
namespace Go.Proofs.YtdgoeibfggjbmaaGreatDoor
open Go.RowKit
set_option maxRecDepth 100000
set_option linter.unusedSimpArgs false
set_option linter.unusedVariables false

structure UbS (w W : World) (xs : List Value) (nv : Bool) (nl : List Int) (vr vu : Value) : Prop where
  box : UpBox W w.heap.size xs nv nl vr vu
  low : Below w.heap.size w W
theorem UbS.below {w W W' : World} {xs : List Value} {nv : Bool} {nl : List Int} {vr vu : Value} (h : UbS w W xs nv nl vr vu) (hB : Below W.heap.size W W') : UbS w W' xs nv nl vr vu := ⟨h.box.up hB, h.low.trans (hB.mono h.low.size)⟩
theorem at_one7 {w : World} {B : Nat} {xs : List Value} {a : Att} (h : RdAt w B xs a) : ∀ v ∈ xs, v.oneCell' = true := by
  obtain ⟨Ap, cp, Ac, cc, Am, cm, rfl, _⟩ := h.ex
  exact one_attV _ rfl rfl rfl
theorem again_row {W W0 : World} {cs : Array Value} {t : TypeId} (h : Below W0.heap.size W0 W ∧ Blk W W0.heap.size t cs) (ds : Array Value) : Below W0.heap.size W0 (W.setRow W0.heap.size ds) ∧ Blk (W.setRow W0.heap.size ds) W0.heap.size t ds := ⟨h.1.trans (below_setRow _ _ _ (Nat.le_refl _)), h.2.setRow _⟩
set_option maxHeartbeats 2000000 in
set_option maxRecDepth 100000 in
theorem updateBack_walk (w : World) (E : EnvK w) (u : Up) (xs : List Value) (A1 : Option Addr) (n1 c1 : Nat) (A2 : Option Addr) (n2 c2 : Nat) (hu : UpOk u ∧ RdAt w w.heap.size xs u.at_ ∧ UpRd w u A1 n1 A2 n2) :
    Calls Tryz.prog 5 #[.agg (upc xs u.nv u.nl (.slice A1 n1 c1) (.slice A2 n2 c2)).toArray] w fun e w' => e = .returned (.bool true) ∧ Below w.heap.size w w' := by
  obtain ⟨hu, ha, hr⟩ := hu
  have hxl := upc_att ha hu.at_.ip
  have HXl := Lib.hid hxl
  have HNl := Lib.hid hu.nl
  have HOct := Lib.hid hu.onl
  have HE := Lib.hid (fun W (hB : Below w.heap.size w W) => E.below hB)
  have H0 : Hid (UbS w (w.alloc (.cells (upc xs u.nv u.nl (.slice A1 n1 c1) (.slice A2 n2 c2)).toArray 34)) xs u.nv u.nl (.slice A1 n1 c1) (.slice A2 n2 c2)) := Lib.hid ⟨UpBox.new w hxl hu.nl, bl_one w _⟩
  have HG := Lib.hid (fun W => great7_is W u hu.nl xs hxl A1 A2 n1 c1 n2 c2)
  have HP := Lib.hid (fun W (hB : Below w.heap.size w W) (h1 : n1 ≤ 400) (h2 : n2 ≤ 400) => put7_is W (E.below hB) u hu xs ((ha.below hB).more hB.size) A1 n1 c1 A2 n2 c2 (hr.up hB) (by omega) (by omega))
  have HC := Lib.hid (fun (he : upE u = 0) => And.intro (upB_len he) (back_rd hu he))
  have HOk := Lib.hid (fun (he : upE u = 0) => put_ok hu he)
  have HBo : Hid (bodyU u = if upE u = 0 then upB u else []) := Lib.hid rfl
  have HAt := Lib.hid ha
  have HRe := Lib.hid hr
  have hlen : n1 = 0 ↔ u.re = [] := by have := hr.re.len; rw [← this, List.length_eq_zero_iff]
  have HLen := Lib.hid hlen
  have HW : Hid (wantU u = if u.re = [] then ⟨Att.zero, false, z16, [], u.un⟩ else u) := Lib.hid rfl
  unfold PutU at HP
  generalize wantU u = wu at *
  generalize bodyU u = bu at *
  generalize upB u = bb at *
  generalize upE u = ue at *
  obtain ⟨at_, nv, nl, re, un⟩ := u
  simp only at HXl HNl HOct H0 HG HP HOk HAt HLen HW
  clear hu ha hr hxl E hlen
  go_enter Tryz.func5, Tryz.ntmps5
  go_wp2_with (first
    | (refine up_fetch rfl _ rfl w.heap.size H0.out.box rfl ?_)
    | fail)
  refine (HG.out _).mono ?_
  rintro e w1 ⟨rfl, hB⟩
  have H1 := Lib.hid (H0.out.below hB)
  clear hB H0 HG
  cases hgt : (decide (400 < n1) || decide (400 < n2)) with
  | true =>
    clear hgt HP HC HBo HOk
    go_wp2_with fail
    refine (alive7_is _ (HE.out _ H1.out.low)).mono ?_
    rintro e w2 ⟨rfl, hB⟩
    have HB := Lib.hid (H1.out.below hB)
    clear hB
    go_wp2
    go_ret
    exact ⟨rfl, HB.out.low⟩
  | false =>
    have hn1 : n1 ≤ 400 := by simp at hgt; omega
    have hn2 : n2 ≤ 400 := by simp at hgt; omega
    have HP1 := Lib.hid (HP.out _ H1.out.low hn1 hn2)
    clear hgt HP
    go_wp2_with (first
      | (refine up_fetch rfl _ rfl w.heap.size H1.out.box rfl ?_)
      | fail)
    refine HP1.out.mono ?_
    rintro e w2 ⟨v, rfl, hO, hB⟩
    have H2 := Lib.hid (H1.out.below hB)
    clear hB H1 HP1
    by_cases he : ue = 0
    · subst he
      have hbo : bu = bb := by have := HBo.out; rwa [if_pos rfl] at this
      subst hbo
      obtain ⟨⟨hl4, hl5⟩, hbk⟩ := HC.out rfl
      have HOk2 := Lib.hid (HOk.out rfl)
      clear HOk
      obtain ⟨A, c, rfl, hcc, hR, _⟩ := hO.at_
      generalize hm : bu.length = m at *
      have hm1 : (m : Int) ≤ 4077 := by omega
      have HRd := Lib.hid (read_lit _ (HE.out _ H2.out.low) A m c _ hR (by omega) _ _ _ _ _ hbk)
      clear hO hR hbk HBo HC
      go_wp2_with fail
      refine HRd.out.mono ?_
      rintro e w4 ⟨cs, A4, n4, c4, rfl, hu, hd, hB⟩
      obtain ⟨hn4, hd2⟩ : n4 = 0 ∧ Rd w4 w4.heap.size A4 0 [] := by
        obtain ⟨A5, c5, h5, _, hr5, _⟩ := hd.at_
        injection h5 with q1 q2 q3
        rw [q1]
        exact ⟨q2, hr5⟩
      subst hn4
      have HL := Lib.hid hu.len
      have HO := Lib.hid hu.one
      have HU := Lib.hid hu
      have HD := Lib.hid hd2
      have H4 := Lib.hid (H2.out.below hB)
      have L1 := laid_1 w4
      have L2 := laid_2 w4 cs
      have L3 := Lib.hid (laid_3 w4 cs 0 0 A4 0 c4)
      clear hu hB HRd H2 hd hd2
      by_cases hre : re = []
      · subst hre
        obtain rfl : n1 = 0 := HLen.out.2 rfl
        obtain rfl : wu = ⟨Att.zero, false, z16, [], un⟩ := by have := HW.out; rwa [if_pos rfl] at this
        go_wp2_with (first
          | (refine up_store rfl _ _ rfl w4.heap.size cs HL.out HO.out rfl rfl 34 _ L1.out rfl ?_)
          | (refine fault_store_to rfl _ _ rfl (w4.heap.size + 1) 0 0 A4 0 c4 rfl rfl 56 _ L2.out rfl (LaidP w4 cs 0 0 A4 0 c4) L3.out ?_; intro w5 hW5; have HW5 := Lib.hid hW5; have H5 := Lib.hid (H4.out.below hW5.1); have HZ5 := Lib.hid (fun Z => (H5.out.box.up (bl_one w5 (.cells Z 34)))); clear hW5)
          | (refine up_fetch rfl _ rfl w.heap.size (HZ5.out _) rfl ?_)
          | (refine up_fetch rfl _ rfl w.heap.size H5.out.box rfl ?_)
          | (refine up_store_to rfl _ _ rfl w5.heap.size (upc xs nv nl (.slice A1 0 c1) (.slice A2 n2 c2)) (upc_len HXl.out HNl.out) (upc_one (at_one7 HAt.out) rfl rfl) rfl rfl 34 _ (Blk.new w5 34 _) rfl (fun W => Below w5.heap.size w5 W ∧ Blk W w5.heap.size 34 (upc xs nv nl (.slice A1 0 c1) (.slice A2 n2 c2)).toArray) (one_row w5 34 _ _) ?_; intro w6 hW6; have HW6 := Lib.hid hW6; have H6 := Lib.hid (H5.out.below hW6.1); have kr := H6.out.box.cr; have ku := H6.out.box.cu; clear hW6)
            | (refine ft0_any rfl rfl ?_)
          | (refine up_build rfl _ rfl A2 n2 c2 rfl ?_)
          | (refine up_store_to rfl _ _ rfl w5.heap.size (upc zat false z16 (.slice none 0 0) (.slice A2 n2 c2)) rfl (upc_one (isAt_zero 0 w).one rfl rfl) rfl rfl 34 _ HW6.out.2 (by simp [upc_len HXl.out HNl.out]) (fun W => Below w5.heap.size w5 W ∧ Blk W w5.heap.size 34 (upc zat false z16 (.slice none 0 0) (.slice A2 n2 c2)).toArray) (again_row HW6.out _) ?_; intro w6' hW7; have HW7 := Lib.hid hW7; have z0 := (HW5.out.2.2.below hW7.1 HW5.out.2.2.lt).cell 0; have z1 := (HW5.out.2.2.below hW7.1 HW5.out.2.2.lt).cell 1; have z2 := (HW5.out.2.2.below hW7.1 HW5.out.2.2.lt).cell 2; clear hW7)
          | fail)
        have hb := HW7.out.1
        have HF6 := Lib.hid (HW5.out.2.2.below hb HW5.out.2.2.lt)
        have HV6 := Lib.hid (HW5.out.2.1.below hb HW5.out.2.1.lt)
        have HWt := Lib.hid HW7.out.2
        have HU6 := Lib.hid ((HU.out.below HW5.out.1).below hb)
        have HD6 := Lib.hid ((((HD.out.below HW5.out.1).more HW5.out.1.size).below hb).more hb.size)
        have HA6 : Hid (RdAt w6' w6'.heap.size zat Att.zero) := Lib.hid (isAt_zero 0 w6').rdAt
        have HR6 : Hid (UpRd w6' ⟨Att.zero, false, z16, [], un⟩ none 0 A2 n2) := Lib.hid ⟨⟨rfl, AllRt.nil_, fun h => by omega⟩, (HRe.out.up (H5.out.below hb).low).un⟩
        have H6 := Lib.hid (H5.out.below hb)
        generalize w5.heap.size = b9 at *
        clear hb kr ku z0 z1 z2 HW6 HW7 HW5 H5 HU HD H4 L1 L2 L3 HZ5
        refine (alike7_zero _ A4 c4 HD6.out).mono ?_
        rintro e w7 ⟨rfl, hB⟩
        have H7 := Lib.hid (H6.out.below hB)
        have HV7 := Lib.hid (HV6.out.below hB HV6.out.lt)
        have HW7 := Lib.hid (HWt.out.below hB HWt.out.lt)
        have HU7 := Lib.hid (HU6.out.below hB)
        have HA7 := Lib.hid ((HA6.out.below hB).more hB.size)
        have HR7 := Lib.hid (HR6.out.up hB)
        clear hB H6 HV6 HWt HU6 HA6 HR6
        go_wp2_with (first
          | (refine part_fetch rfl 34 _ rfl w4.heap.size 0 cs _ rfl HV7.out.range Tryz.underlying34 rfl (by rw [usz, HL.out]) ?_)
          | (refine part_fetch rfl 34 _ rfl b9 0 (upc zat false z16 (.slice none 0 0) (.slice A2 n2 c2)) _ rfl HW7.out.range Tryz.underlying34 rfl (by rw [usz, upc_len rfl rfl]) ?_)
          | fail)
        refine (same7_mix _ _ ⟨Att.zero, false, z16, [], un⟩ att0_ok (oct_zeros 16) cs HU7.out zat HA7.out rfl none A2 0 0 n2 c2 HR7.out (by omega) (by omega)).mono ?_
        rintro e w8 ⟨rfl, hB⟩
        have H8 := Lib.hid (H7.out.below hB)
        clear hB H7
        go_wp2_with fail
        refine (alive7_is _ (HE.out _ H8.out.low)).mono ?_
        rintro e w9 ⟨rfl, hB⟩
        have H9 := Lib.hid (H8.out.below hB)
        clear hB
        go_wp2
        go_ret
        exact ⟨rfl, H9.out.low⟩
      · have hn0 : ¬ (n1 : Int) = 0 := fun h => hre (HLen.out.1 (by omega))
        obtain rfl : wu = ⟨at_, nv, nl, re, un⟩ := by have := HW.out; rwa [if_neg hre] at this
        go_wp2_with (first
          | (refine up_store rfl _ _ rfl w4.heap.size cs HL.out HO.out rfl rfl 34 _ L1.out rfl ?_)
          | (refine fault_store_to rfl _ _ rfl (w4.heap.size + 1) 0 0 A4 0 c4 rfl rfl 56 _ L2.out rfl (LaidP w4 cs 0 0 A4 0 c4) L3.out ?_; intro w5 hW5; have HW5 := Lib.hid hW5; have H5 := Lib.hid (H4.out.below hW5.1); have HZ5 := Lib.hid (fun Z => (H5.out.box.up (bl_one w5 (.cells Z 34)))); clear hW5)
          | (refine up_fetch rfl _ rfl w.heap.size (HZ5.out _) rfl ?_)
          | (refine up_fetch rfl _ rfl w.heap.size H5.out.box rfl ?_)
          | (refine up_store_to rfl _ _ rfl w5.heap.size (upc xs nv nl (.slice A1 n1 c1) (.slice A2 n2 c2)) (upc_len HXl.out HNl.out) (upc_one (at_one7 HAt.out) rfl rfl) rfl rfl 34 _ (Blk.new w5 34 _) rfl (fun W => Below w5.heap.size w5 W ∧ Blk W w5.heap.size 34 (upc xs nv nl (.slice A1 n1 c1) (.slice A2 n2 c2)).toArray) (one_row w5 34 _ _) ?_; intro w6 hW6; have HW6 := Lib.hid hW6; have H6 := Lib.hid (H5.out.below hW6.1); have kr := H6.out.box.cr; have ku := H6.out.box.cu; have z0 := (HW5.out.2.2.below hW6.1 HW5.out.2.2.lt).cell 0; have z1 := (HW5.out.2.2.below hW6.1 HW5.out.2.2.lt).cell 1; have z2 := (HW5.out.2.2.below hW6.1 HW5.out.2.2.lt).cell 2; clear hW6)
            | (refine ft0_any rfl rfl ?_)
          | fail)
        have hb := HW6.out.1
        have HF6 := Lib.hid (HW5.out.2.2.below hb HW5.out.2.2.lt)
        have HV6 := Lib.hid (HW5.out.2.1.below hb HW5.out.2.1.lt)
        have HWt := Lib.hid HW6.out.2
        have HU6 := Lib.hid ((HU.out.below HW5.out.1).below hb)
        have HD6 := Lib.hid ((((HD.out.below HW5.out.1).more HW5.out.1.size).below hb).more hb.size)
        have HA6 := Lib.hid ((HAt.out.below H6.out.low).more H6.out.low.size)
        have HR6 := Lib.hid (HRe.out.up H6.out.low)
        generalize w5.heap.size = b9 at *
        clear hb kr ku z0 z1 z2 HW6 HW5 H5 HU HD H4 L1 L2 L3 HZ5
        refine (alike7_zero _ A4 c4 HD6.out).mono ?_
        rintro e w7 ⟨rfl, hB⟩
        have H7 := Lib.hid (H6.out.below hB)
        have HV7 := Lib.hid (HV6.out.below hB HV6.out.lt)
        have HW7 := Lib.hid (HWt.out.below hB HWt.out.lt)
        have HU7 := Lib.hid (HU6.out.below hB)
        have HA7 := Lib.hid ((HA6.out.below hB).more hB.size)
        have HR7 := Lib.hid (HR6.out.up hB)
        clear hB H6 HV6 HWt HU6 HA6 HR6
        go_wp2_with (first
          | (refine part_fetch rfl 34 _ rfl w4.heap.size 0 cs _ rfl HV7.out.range Tryz.underlying34 rfl (by rw [usz, HL.out]) ?_)
          | (refine part_fetch rfl 34 _ rfl b9 0 (upc xs nv nl (.slice A1 n1 c1) (.slice A2 n2 c2)) _ rfl HW7.out.range Tryz.underlying34 rfl (by rw [usz, upc_len HXl.out HNl.out]) ?_)
          | fail)
        refine (same7_mix _ _ ⟨at_, nv, nl, re, un⟩ (HOk2.out hre) HOct.out cs HU7.out xs HA7.out HXl.out A1 A2 n1 c1 n2 c2 HR7.out (by omega) (by omega)).mono ?_
        rintro e w8 ⟨rfl, hB⟩
        have H8 := Lib.hid (H7.out.below hB)
        clear hB H7
        go_wp2_with fail
        refine (alive7_is _ (HE.out _ H8.out.low)).mono ?_
        rintro e w9 ⟨rfl, hB⟩
        have H9 := Lib.hid (H8.out.below hB)
        clear hB
        go_wp2
        go_ret
        exact ⟨rfl, H9.out.low⟩
    · have hbo : bu = [] := by have := HBo.out; rwa [if_neg he] at this
      subst hbo
      obtain ⟨A, c, rfl, hcc, hR, _⟩ := hO.at_
      have hne : (ue != 0) = true := by simpa using he
      clear hO hR HBo HC he HOk
      go_wp2_with fail
      refine (alive7_is _ (HE.out _ H2.out.low)).mono ?_
      rintro e w3 ⟨rfl, hB⟩
      have H3 := Lib.hid (H2.out.below hB)
      clear hB
      go_wp2
      go_ret
      exact ⟨rfl, H3.out.low⟩
end Go.Proofs.YtdgoeibfggjbmaaGreatDoor
namespace Go.Proofs.YtdgoeibfggjbmaaGreatDoor.updateBack
open Go.ChangeShapes Go.WideShapes Go.ChangeAt Go.RowKit
open Go.ChangeMaps (open_string shut_string)
set_option linter.unusedVariables false

theorem own : ownKnob Tryz.prog.godebug = none := by kernel_rfl
theorem laidOut : laidOutB Tryz.prog = true := by kernel_rfl

set_option maxRecDepth 100000 in
theorem lifted (os : Os) (started : os.Started) (H : Type) (enc : TypeId × Value → H) :
    ReturnsInHanded {} Tryz.checked os 5 .any (fun w args => (Rows.updateBackSpec.pre enc Tryz.prog Tryz.f5 [] false w args ∧ laidMetH Tryz.prog laidK w) ∧ sizedMet enc Tryz.prog Tryz.f5 (OpenSpec.ofChange Rows.updateBackSpec) false w args)
      (Rows.updateBackSpec.post enc Tryz.prog Tryz.f5 false true false false) := by
  refine wrap_rows (C := Tryz.checked) (X := fun w _ => laidMetH Tryz.prog laidK w) (fun _ _ _ hh h => h.of_heap hh) own started (by kernel_rfl) Tryz.func5
    (ChangeSpec.witness_shaped (enc := enc) (C := Tryz.checked) (os := os) (X := fun w _ => laidMetH Tryz.prog laidK w) false (World.laidAll Tryz.prog os laidK) #[.agg #[.int .i64 0, .slice none 0 0, .bool false, .int .u32 0, .int .u32 0, .int .u32 0, .slice none 0 0, .slice none 0 0, .int .i64 0, .int .u32 0, .bool false, .int .u8 0, .int .u8 0, .int .u8 0, .int .u8 0, .int .u8 0, .int .u8 0, .int .u8 0, .int .u8 0, .int .u8 0, .int .u8 0, .int .u8 0, .int .u8 0, .int .u8 0, .int .u8 0, .int .u8 0, .int .u8 0, .bool false, .int .u8 0, .int .u8 0, .int .u8 0, .int .u8 0, .int .u8 0, .int .u8 0, .int .u8 0, .int .u8 0, .int .u8 0, .int .u8 0, .int .u8 0, .int .u8 0, .int .u8 0, .int .u8 0, .int .u8 0, .int .u8 0, .slice none 0 0, .slice none 0 0]] 8 (World.laidAll_os _ _ _)
      (World.shaped_of_ZipB (by kernel_rfl) (by kernel_rfl)) (by kernel_rfl) (by kernel_rfl) (by kernel_rfl)
      (by rw [MakeChecks.laidMetH_plain _ _ _ (by kernel_rfl)]; exact laidMet_laidAll _ (by kernel_rfl) (by kernel_rfl))) ?_
  intro W base args ds gs before hval0 hW hsz0 hL0 hshape
  have hval : ∀ (j : Nat) t v, Tryz.f5.params[j]? = some t → args[j]? = some v → Value.okWide Tryz.prog W .any base t v := hval0
  have hL : laidMetH Tryz.prog laidK W := hL0
  rw [MakeChecks.laidMetH_plain _ _ _ (by kernel_rfl)] at hL
  have E : EnvK W := envK_of hL
  have hW' := hW
  obtain ⟨p, q, hA0, hV, rfl, hfz, hnd⟩ := hW
  have hA : DataW.TrodAll enc Tryz.prog W 0 (fun _ => true) true Tryz.f5.params.toList args.toList ds p := hA0
  rw [Tryz.params5] at hA hval
  obtain ⟨v0, vs0, d0, ds0, p0, q0, hargs, rfl, rfl, h0, r0⟩ := trodAll_cons hA
  obtain ⟨rfl, rfl, rfl⟩ := trodAll_nil r0
  obtain rfl : args = #[v0] := by cases args; simp_all
  obtain ⟨rfl, rfl⟩ := trodVars_none hV
  have lt0 : ∀ x ∈ p0, x.block < W.heap.size := by obtain ⟨m, hm⟩ := h0; exact DataW.trod_lt m _ _ _ hm
  obtain ⟨u0, xs0, A0, n0, c0, B0, m0, k0, rfl, ok0, rda0, rdr0⟩ := open_up (hval 0 34 v0 rfl rfl) h0
  clear hA0 hval0
  refine (updateBack_walk W E u0 xs0 A0 n0 c0 B0 m0 k0 ⟨ok0, rda0, rdr0⟩).mono fun e W' ⟨he, bel⟩ => ?_
  subst he
  exact ⟨_, rfl, _, _, _, [], _, [], hW', trodAll_mk1 (shut_bool Tryz.underlying4 _), (trodAll_cons_mk (Below.trod laidOut (by kernel_rfl) (of_decide_eq_true (by kernel_rfl)) h0 bel lt0) trodAll_mk0), rfl, bel.frame _, fun h => by cases h⟩

theorem over : Rows.updateBackRow.holds Tryz.pinned (OpenSpec.ofChange Rows.updateBackSpec) :=
  OpenClaim.holds_of_wide 5 Tryz.f5 rfl rfl rfl rfl rfl rfl rfl ⟨rfl, rfl, rfl, rfl, rfl⟩ rfl rfl rfl rfl rfl (by kernel_rfl) Tryz.func5 (by kernel_rfl)
    (of_decide_eq_true (by kernel_rfl)) (by unfold Func.isWrapper; first | (rw [if_pos (by decide +kernel)]; kernel_rfl) | (rw [if_neg (by decide +kernel)]; exact ⟨rfl, rfl⟩))
    (fun os started H enc _ => lifted os started H enc)

theorem proved : Rows.UpdateBackCardSaid :=
  Claim7.holds_tied_plain_at .later [] [.data] true Rows.updateBackCard.stood.harness false
    over (fun _ h => by cases h) (by kernel_rfl) (fun _ h => by cases h) updateBack_row_tie rfl ⟨rfl, rfl⟩ (by kernel_rfl) rfl
    (fun f fn hf hfn => by
      obtain rfl : f = 5 := Option.some.inj ((show Tryz.prog.funcNamed "weft/weftlaw07.UpdateBack" = some 5 by kernel_rfl).symm.trans hf) |>.symm
      obtain rfl : fn = Tryz.f5 := (Option.some.inj (Tryz.func5.symm.trans hfn)).symm
      exact ⟨by kernel_rfl, fun j t ht => by
        rw [Tryz.params5] at ht
        have hm : t ∈ [34] := by simpa using Array.mem_of_getElem? ht
        have hall : ([34].all fun u => !Tryz.prog.wantsStandIn u) = true := by kernel_rfl
        exact (show Tryz.prog.wantsStandIn t = false by simpa using List.all_eq_true.1 hall t hm)⟩)
    (by kernel_rfl)
#print axioms proved
end Go.Proofs.YtdgoeibfggjbmaaGreatDoor.updateBack
