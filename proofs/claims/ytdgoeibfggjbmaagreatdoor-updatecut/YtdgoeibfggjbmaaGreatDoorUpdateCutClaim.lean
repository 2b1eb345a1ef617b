/-
  UpdateCut: for every input the law returns true, and each argument reads behind the call as it read before; the library's variables as the program's text lays them.
-/
import Derived.Test.YtdgoeibfggjbmaaGreatDoorMY
import Derived.Test.YtdgoeibfggjbmaaGreatDoorMSD
import Derived.Test.YtdgoeibfggjbmaaGreatDoorTie
import Derived.Test.YtdgoeibfggjbmaaGreatDoorCards
import Derived.Test.YtdgoeibfggjbmaaGreatDoorMX
import Derived.WalkKit
import Derived.OpenShut
import Derived.ShutString
import Derived.ChangeOld
import Derived.Below
import Derived.LaidOnce
import Derived.SevenTiedAt
namespace Go.Proofs.YtdgoeibfggjbmaaGreatDoor
open Go.RowKit
set_option maxRecDepth 100000
set_option linter.unusedSimpArgs false
set_option linter.unusedVariables false

structure UcS (w W : World) (xs : List Value) (nv : Bool) (nl : List Int) (vr vu : Value) : Prop where
  box : UpBox W w.heap.size xs nv nl vr vu
  low : Below w.heap.size w W
theorem UcS.below {w W W' : World} {xs : List Value} {nv : Bool} {nl : List Int} {vr vu : Value} (h : UcS w W xs nv nl vr vu) (hB : Below W.heap.size W W') : UcS w W' xs nv nl vr vu := ⟨h.box.up hB, h.low.trans (hB.mono h.low.size)⟩
set_option maxHeartbeats 2000000 in
theorem updateCut_walk (w : World) (E : EnvK w) (u : Up) (xs : List Value) (A1 : Option Addr) (n1 c1 : Nat) (A2 : Option Addr) (n2 c2 : Nat) (cut : Int) (hu : UpOk u ∧ RdAt w w.heap.size xs u.at_ ∧ UpRd w u A1 n1 A2 n2) (hc : I64 cut) :
    Calls Tryz.prog 6 #[.agg (upc xs u.nv u.nl (.slice A1 n1 c1) (.slice A2 n2 c2)).toArray, .int .i64 cut] w fun e w' => e = .returned (.bool true) ∧ Below w.heap.size w w' := by
  obtain ⟨hu, ha, hr⟩ := hu
  have hxl := upc_att ha hu.at_.ip
  have HE := Lib.hid (fun W (hB : Below w.heap.size w W) => E.below hB)
  have H0 : Hid (UcS w (w.alloc (.cells (upc xs u.nv u.nl (.slice A1 n1 c1) (.slice A2 n2 c2)).toArray 34)) xs u.nv u.nl (.slice A1 n1 c1) (.slice A2 n2 c2)) := Lib.hid ⟨UpBox.new w hxl hu.nl, bl_one w _⟩
  have HG := Lib.hid (fun W => great7_is W u hu.nl xs hxl A1 A2 n1 c1 n2 c2)
  have HP := Lib.hid (fun W (hB : Below w.heap.size w W) (h1 : n1 ≤ 400) (h2 : n2 ≤ 400) => put7_is W (E.below hB) u hu xs ((ha.below hB).more hB.size) A1 n1 c1 A2 n2 c2 (hr.up hB) (by omega) (by omega))
  have HC := Lib.hid (fun (he : upE u = 0) => And.intro (upB_len he) (fun k hk => cut_rd he k hk))
  have HBo : Hid (bodyU u = if upE u = 0 then upB u else []) := Lib.hid rfl
  have HCut := Lib.hid hc
  unfold PutU at HP
  generalize bodyU u = bu at *
  generalize upB u = bb at *
  generalize upE u = ue at *
  generalize u.nv = nv at *
  generalize u.nl = nl at *
  clear hu ha hr hxl hc E
  go_enter Tryz.func6, Tryz.ntmps6
  go_wp2_with (first
    | (refine up_fetch rfl _ rfl w.heap.size H0.out.box rfl ?_)
    | fail)
  refine (HG.out _).mono ?_
  rintro e w1 ⟨rfl, hB⟩
  have H1 := Lib.hid (H0.out.below hB)
  clear hB H0 HG
  cases hgt : (decide (400 < n1) || decide (400 < n2)) with
  | true =>
    clear hgt HP HC HBo
    go_wp2_with fail
    refine (alive7_is _ (HE.out _ H1.out.low)).mono ?_
    rintro e w2 ⟨rfl, hB⟩
    have HB := Lib.hid (H1.out.below hB)
    clear hB
    go_wp2
    go_ret
    exact ⟨rfl, HB.out.low⟩
  | false =>
    have hn1 : n1 ≤ 400 := by simp at hgt; omega
    have hn2 : n2 ≤ 400 := by simp at hgt; omega
    have HP1 := Lib.hid (HP.out _ H1.out.low hn1 hn2)
    clear hgt HP
    go_wp2_with (first
      | (refine up_fetch rfl _ rfl w.heap.size H1.out.box rfl ?_)
      | fail)
    refine HP1.out.mono ?_
    rintro e w2 ⟨v, rfl, hO, hB⟩
    have H2 := Lib.hid (H1.out.below hB)
    clear hB H1 HP1
    by_cases he : ue = 0
    · subst he
      have hbo : bu = bb := by have := HBo.out; rwa [if_pos rfl] at this
      subst hbo
      obtain ⟨⟨hl4, hl5⟩, hcut⟩ := HC.out rfl
      have HCt := Lib.hid hcut
      obtain ⟨A, c, rfl, hcc, hR, _⟩ := hO.at_
      have HR := Lib.hid hR
      have HFst := Lib.hid (fun k (hk : k ≤ bu.length) => hR.first hk)
      generalize hm : bu.length = m at *
      have hm1 : ¬ (m : Int) < 1 := by omega
      have HCnt := Lib.hid (fun W => count_is W cut (m : Int) (by omega) (by omega) HCut.out)
      clear hO hR hcut HBo HC
      go_wp2_with fail
      refine (HCnt.out _).mono ?_
      rintro e w3 ⟨k, hk, rfl, rfl⟩
      have hk2 : k < m := by omega
      have hs0 : (0 : Int) ≤ (k : Int) := by omega
      have hs1 : (k : Int) ≤ (c : Int) := by omega
      have HRd := Lib.hid (read_lit _ (HE.out _ H2.out.low) A k c _ (HFst.out k (by omega)) (by omega) _ _ _ _ _ (HCt.out k hk2))
      clear HCnt HCt HFst
      go_wp2_with fail
      refine HRd.out.mono ?_
      rintro e w4 ⟨cs, A4, n4, c4, rfl, hu, _, hB⟩
      have HL := Lib.hid hu.len
      have HO := Lib.hid hu.one
      have HU := Lib.hid hu
      have H4 := Lib.hid (H2.out.below hB)
      have L1 := laid_1 w4
      have L2 := laid_2 w4 cs
      have L3 := Lib.hid (laid_3 w4 cs 3 1 A4 n4 c4)
      clear hu hB HRd HR H2
      go_wp2_with (first
        | (refine up_store rfl _ _ rfl w4.heap.size cs HL.out HO.out rfl rfl 34 _ L1.out rfl ?_)
        | (refine fault_store_to rfl _ _ rfl (w4.heap.size + 1) 3 1 A4 n4 c4 rfl rfl 56 _ L2.out rfl (LaidP w4 cs 3 1 A4 n4 c4) L3.out ?_; intro w5 hW5; have HW5 := Lib.hid hW5; have k0 := hW5.2.2.cell 0; have k1 := hW5.2.2.cell 1; clear hW5)
        | (refine part_fetch rfl 34 _ rfl w4.heap.size 0 cs _ rfl HW5.out.2.1.range Tryz.underlying34 rfl (by rw [usz, HL.out]) ?_)
        | (refine up0_any rfl rfl ?_)
        | fail)
      have H5 := Lib.hid (H4.out.below HW5.out.1)
      refine (same7_up _ _ 0 up0 att0_ok (oct_zeros 16) cs zup (HU.out.below HW5.out.1) (isUp_zero 0 _) (by decide) (by decide)).mono ?_
      rintro e w6 ⟨rfl, hB⟩
      have H6 := Lib.hid (H5.out.below hB)
      clear hB
      go_wp2_with fail
      refine (alive7_is _ (HE.out _ H6.out.low)).mono ?_
      rintro e w7 ⟨rfl, hB⟩
      have H7 := Lib.hid (H6.out.below hB)
      clear hB
      go_wp2
      go_ret
      exact ⟨rfl, H7.out.low⟩
    · have hbo : bu = [] := by have := HBo.out; rwa [if_neg he] at this
      subst hbo
      obtain ⟨A, c, rfl, hcc, hR, _⟩ := hO.at_
      have hne : (ue != 0) = true := by simpa using he
      clear hO hR HBo HC he
      go_wp2_with fail
      refine (alive7_is _ (HE.out _ H2.out.low)).mono ?_
      rintro e w3 ⟨rfl, hB⟩
      have H3 := Lib.hid (H2.out.below hB)
      clear hB
      go_wp2
      go_ret
      exact ⟨rfl, H3.out.low⟩
end Go.Proofs.YtdgoeibfggjbmaaGreatDoor
namespace Go.Proofs.YtdgoeibfggjbmaaGreatDoor.updateCut
open Go.ChangeShapes Go.WideShapes Go.ChangeAt Go.RowKit
open Go.ChangeMaps (open_string shut_string)
set_option linter.unusedVariables false

theorem own : ownKnob Tryz.prog.godebug = none := by kernel_rfl
theorem laidOut : laidOutB Tryz.prog = true := by kernel_rfl

set_option maxRecDepth 100000 in
theorem lifted (os : Os) (started : os.Started) (H : Type) (enc : TypeId × Value → H) :
    ReturnsInHanded {} Tryz.checked os 6 .any (fun w args => (Rows.updateCutSpec.pre enc Tryz.prog Tryz.f6 [] false w args ∧ laidMetH Tryz.prog laidK w) ∧ sizedMet enc Tryz.prog Tryz.f6 (OpenSpec.ofChange Rows.updateCutSpec) false w args)
      (Rows.updateCutSpec.post enc Tryz.prog Tryz.f6 false true false false) := by
  refine wrap_rows (C := Tryz.checked) (X := fun w _ => laidMetH Tryz.prog laidK w) (fun _ _ _ hh h => h.of_heap hh) own started (by kernel_rfl) Tryz.func6
    (ChangeSpec.witness_shaped (enc := enc) (C := Tryz.checked) (os := os) (X := fun w _ => laidMetH Tryz.prog laidK w) false (World.laidAll Tryz.prog os laidK) #[.agg #[.int .i64 0, .slice none 0 0, .bool false, .int .u32 0, .int .u32 0, .int .u32 0, .slice none 0 0, .slice none 0 0, .int .i64 0, .int .u32 0, .bool false, .int .u8 0, .int .u8 0, .int .u8 0, .int .u8 0, .int .u8 0, .int .u8 0, .int .u8 0, .int .u8 0, .int .u8 0, .int .u8 0, .int .u8 0, .int .u8 0, .int .u8 0, .int .u8 0, .int .u8 0, .int .u8 0, .bool false, .int .u8 0, .int .u8 0, .int .u8 0, .int .u8 0, .int .u8 0, .int .u8 0, .int .u8 0, .int .u8 0, .int .u8 0, .int .u8 0, .int .u8 0, .int .u8 0, .int .u8 0, .int .u8 0, .int .u8 0, .int .u8 0, .slice none 0 0, .slice none 0 0], .int .i64 0] 8 (World.laidAll_os _ _ _)
      (World.shaped_of_ZipB (by kernel_rfl) (by kernel_rfl)) (by kernel_rfl) (by kernel_rfl) (by kernel_rfl)
      (by rw [MakeChecks.laidMetH_plain _ _ _ (by kernel_rfl)]; exact laidMet_laidAll _ (by kernel_rfl) (by kernel_rfl))) ?_
  intro W base args ds gs before hval0 hW hsz0 hL0 hshape
  have hval : ∀ (j : Nat) t v, Tryz.f6.params[j]? = some t → args[j]? = some v → Value.okWide Tryz.prog W .any base t v := hval0
  have hL : laidMetH Tryz.prog laidK W := hL0
  rw [MakeChecks.laidMetH_plain _ _ _ (by kernel_rfl)] at hL
  have E : EnvK W := envK_of hL
  have hW' := hW
  obtain ⟨p, q, hA0, hV, rfl, hfz, hnd⟩ := hW
  have hA : DataW.TrodAll enc Tryz.prog W 0 (fun _ => true) true Tryz.f6.params.toList args.toList ds p := hA0
  rw [Tryz.params6] at hA hval
  obtain ⟨v0, vs0, d0, ds0, p0, q0, hargs, rfl, rfl, h0, r0⟩ := trodAll_cons hA
  obtain ⟨v1, vs1, d1, ds1, p1, q1, rfl, rfl, rfl, h1, r1⟩ := trodAll_cons r0
  obtain ⟨rfl, rfl, rfl⟩ := trodAll_nil r1
  obtain rfl : args = #[v0, v1] := by cases args; simp_all
  obtain ⟨rfl, rfl⟩ := trodVars_none hV
  have lt0 : ∀ x ∈ p0, x.block < W.heap.size := by obtain ⟨m, hm⟩ := h0; exact DataW.trod_lt m _ _ _ hm
  obtain ⟨u0, xs0, A0, n0, c0, B0, m0, k0, rfl, ok0, rda0, rdr0⟩ := open_up (hval 0 34 v0 rfl rfl) h0
  obtain ⟨a1, rfl, rfl, rfl, w1⟩ := open_int Tryz.underlying3 (hval 1 3 v1 rfl rfl) h1
  have b1 : -9223372036854775808 ≤ a1 ∧ a1 ≤ 9223372036854775807 := by simpa [Lit.wf, IntKind.min, IntKind.max, IntKind.signed, IntKind.bits] using w1
  have c1 : I64 a1 := ⟨b1.1, Int.lt_of_le_of_lt b1.2 (by decide)⟩
  clear hA0 hval0
  refine (updateCut_walk W E u0 xs0 A0 n0 c0 B0 m0 k0 a1 ⟨ok0, rda0, rdr0⟩ c1).mono fun e W' ⟨he, bel⟩ => ?_
  subst he
  exact ⟨_, rfl, _, _, _, [], _, [], hW', trodAll_mk1 (shut_bool Tryz.underlying4 _), (trodAll_cons_mk (Below.trod laidOut (by kernel_rfl) (of_decide_eq_true (by kernel_rfl)) h0 bel lt0) (trodAll_cons_mk (shut_int Tryz.underlying3 w1) trodAll_mk0)), rfl, bel.frame _, fun h => by cases h⟩

theorem over : Rows.updateCutRow.holds Tryz.pinned (OpenSpec.ofChange Rows.updateCutSpec) :=
  OpenClaim.holds_of_wide 6 Tryz.f6 rfl rfl rfl rfl rfl rfl rfl ⟨rfl, rfl, rfl, rfl, rfl⟩ rfl rfl rfl rfl rfl (by kernel_rfl) Tryz.func6 (by kernel_rfl)
    (of_decide_eq_true (by kernel_rfl)) (by unfold Func.isWrapper; first | (rw [if_pos (by decide +kernel)]; kernel_rfl) | (rw [if_neg (by decide +kernel)]; exact ⟨rfl, rfl⟩))
    (fun os started H enc _ => lifted os started H enc)

theorem proved : Rows.UpdateCutCardSaid :=
  Claim7.holds_tied_plain_at .later [] [.data] true Rows.updateCutCard.stood.harness false
    over (fun _ h => by cases h) (by kernel_rfl) (fun _ h => by cases h) updateCut_row_tie rfl ⟨rfl, rfl⟩ (by kernel_rfl) rfl
    (fun f fn hf hfn => by
      obtain rfl : f = 6 := Option.some.inj ((show Tryz.prog.funcNamed "weft/weftlaw07.UpdateCut" = some 6 by kernel_rfl).symm.trans hf) |>.symm
      obtain rfl : fn = Tryz.f6 := (Option.some.inj (Tryz.func6.symm.trans hfn)).symm
      exact ⟨by kernel_rfl, fun j t ht => by
        rw [Tryz.params6] at ht
        have hm : t ∈ [34, 3] := by simpa using Array.mem_of_getElem? ht
        have hall : ([34, 3].all fun u => !Tryz.prog.wantsStandIn u) = true := by kernel_rfl
        exact (show Tryz.prog.wantsStandIn t = false by simpa using List.all_eq_true.1 hall t hm)⟩)
    (by kernel_rfl)
#print axioms proved
end Go.Proofs.YtdgoeibfggjbmaaGreatDoor.updateCut
