/-
  NlriCuts: for every input the law returns true, and each argument reads behind the call as it read before. No condition.
-/
import Derived.Test.YtffaoeakcaongaaMV
import Derived.Test.YtffaoeakcaongaaMR
import Derived.Test.YtffaoeakcaongaaRows
import Derived.Test.YtffaoeakcaongaaMX
import Derived.WalkKit
import Derived.ProofKit
import Derived.OpenShut
import Derived.ShutString
import Derived.ChangeOld
import Derived.SizedLaws
import Derived.Below
import Derived.Deep.CondSized
namespace Go.Proofs.Ytffaoeakcaongaa
open Go.RowKit
set_option maxRecDepth 100000
set_option linter.unusedSimpArgs false
set_option linter.unusedVariables false

/-- The ends of the routes that were put. -/
def endsOf (rs : List Rt) : List Int := (List.range (rs.length + 1)).map fun j => ((puts (rs.take j)).length : Int)
theorem endsOf_len (rs : List Rt) : (endsOf rs).length = rs.length + 1 := by simp [endsOf]
theorem endsOf_get (rs : List Rt) (j : Nat) (h : j < (endsOf rs).length) : (endsOf rs)[j] = ((puts (rs.take j)).length : Int) := by simp [endsOf]
theorem endsOf_snoc (rs : List Rt) (r : Rt) : endsOf (rs ++ [r]) = endsOf rs ++ [((puts (rs ++ [r])).length : Int)] := by
  unfold endsOf
  rw [List.length_append, List.length_singleton, List.range_succ, List.map_append, List.map_singleton, List.take_of_length_le (by simp)]
  congr 1
  apply List.map_congr_left
  intro j hj
  have := List.mem_range.1 hj
  rw [List.take_append_of_le_length (by omega)]
theorem OwnRt.rdc {lo : Nat} {w : World} {v : Value} {rs : List Rt} (h : OwnRt lo w v rs) : ∃ A c, v = .slice A rs.length c ∧ rs.length ≤ c ∧ RdRt w w.heap.size A rs.length rs := by
  obtain ⟨A, c, rfl, hr⟩ := h.rd
  refine ⟨A, c, rfl, ?_, hr⟩
  rcases h.own.2 with ⟨e, hn⟩ | ⟨g, cap, cur, e, _, _, hnc, _⟩
  · rw [hn]; exact Nat.zero_le _
  · injection e with _ _ e; omega
theorem okRs_len (rs : List Rt) (m : Nat) : (okRs (rs.take m)).length ≤ m := by
  unfold okRs
  have h1 := List.length_filter_le rightR (rs.take m)
  have h2 : (rs.take m).length ≤ m := by simp; omega
  omega
/-- The memory of NlriCuts between two routes. -/
structure CutW (w W : World) (v5 v6 v7 : Value) (acc : List Rt) : Prop where
  all : OwnB w.heap.size W v5 (puts acc)
  want : OwnRt w.heap.size W v6 acc
  en : OwnI w.heap.size W v7 (endsOf acc)
  low : Below w.heap.size w W
section
variable {w W W' : World} {v5 v6 v7 v5' v6' v7' : Value} {acc : List Rt} {l : List Int}
theorem CutW.below (h : CutW w W v5 v6 v7 acc) (hB : Below W.heap.size W W') : CutW w W' v5 v6 v7 acc :=
  ⟨⟨own_below h.all.own hB, h.all.oct⟩, ⟨own_below h.want.own hB, h.want.ok⟩, ⟨own_below h.en.own hB⟩, h.low.trans (hB.mono h.low.size)⟩
/-- Behind an append to the routes, then one to the ends. -/
theorem CutW.grow (h : CutW w W v5 v6 v7 acc) {r : Rt} (hx : OwnB w.heap.size W v5' (puts acc ++ putR r)) (ho : OwnRt w.heap.size W' v6' (acc ++ [r])) (hg : W.grownBy W' v6.ownBlock) (hB : Below w.heap.size W W') :
    OwnB w.heap.size W' v5' (puts (acc ++ [r])) ∧ OwnRt w.heap.size W' v6' (acc ++ [r]) ∧ OwnI w.heap.size W' v7 (endsOf acc) ∧ Below w.heap.size w W' := by
  refine ⟨?_, ho, ⟨own_other (by decide) h.en.own h.want.own hg⟩, h.low.trans hB⟩
  rw [puts_app, puts_one]
  exact ⟨own_other (by decide) hx.own h.want.own hg, hx.oct⟩
theorem CutW.ends {r : Rt} (h : OwnB w.heap.size W v5' (puts (acc ++ [r])) ∧ OwnRt w.heap.size W v6' (acc ++ [r]) ∧ OwnI w.heap.size W v7 (endsOf acc) ∧ Below w.heap.size w W)
    (ho : OwnI w.heap.size W' v7' (endsOf acc ++ [((puts (acc ++ [r])).length : Int)])) (hg : W.grownBy W' v7.ownBlock) (hB : Below w.heap.size W W') : CutW w W' v5' v6' v7' (acc ++ [r]) := by
  obtain ⟨h1, h2, h3, h4⟩ := h
  refine ⟨⟨own_other (by decide) h1.own h3.own hg, h1.oct⟩, ⟨own_other (by decide) h2.own h3.own hg, h2.ok⟩, ?_, h4.trans hB⟩
  rw [endsOf_snoc]
  exact ho
end
set_option maxHeartbeats 1000000 in
theorem nlriCuts_walk (w : World) (A : Option Addr) (n cp : Nat) (rs : List Rt) (cut : Int) (hr : RdRt w w.heap.size A n rs) (hcp : n ≤ cp) (hn : n ≤ 1400000000000) (hc : (Lit.int .i64 cut).wf = true) :
    Calls Try.prog 9 #[.slice A n cp, .int .i64 cut] w fun e w' => e = .returned (.bool true) ∧ Below w.heap.size w w' := by
  have HR := Lib.hid hr
  have HLen := Lib.hid hr.len
  have HCut := Lib.hid (wf_i64 hc)
  have H0 : Hid (CutW w (w.alloc (.cells #[.int .i64 0] 3)) (.slice none 0 0) (.slice none 0 0) (.slice (some ⟨w.heap.size, 0, none⟩) 1 1) []) := Lib.hid ⟨OwnB.nil_ _ _, OwnRt.nil_ _ _, OwnI.new w 0, bl_one w _⟩
  clear hr hc
  go_enter Try.func9, Try.ntmps9
  go_wp2
  go_loopw [5, 6, 7, 8, 9, 10] (fun v5 v6 v7 i _ _ wr => ∃ m : Nat, m ≤ n ∧ m ≤ 100 ∧ i = .int .i64 m ∧ CutW w wr v5 v6 v7 (okRs (rs.take m))) (fun _ _ _ i _ _ _ => 100 - (intOf i).toNat)
  case atStart => exact ⟨0, Nat.zero_le _, Nat.zero_le _, rfl, H0.out⟩
  case round =>
    obtain ⟨m, hm, hm1, rfl, hW⟩ := hrel
    have HW := Lib.hid hW
    clear hW H0
    have hacc := okRs_len rs m
    have hok : AllR (okRs (rs.take m)) := okRs_all (fun r h => HR.out.ok r (List.mem_of_mem_take h))
    have hpl := puts_le hok
    have HOk := Lib.hid hok
    clear hok
    rcases (show (m < n ∧ m < 100) ∨ ((m < n ∧ ¬ m < 100) ∨ ¬ m < n) by omega) with ⟨h1, h2⟩ | hx
    · have hml : m < rs.length := by have := HLen.out; omega
      obtain ⟨b, off, rfl, hb, hrng, ok⟩ := (HR.out.below HW.out.low).get hml
      have HStep := Lib.hid (okRs_step hml)
      have HRng := Lib.hid hrng
      have HOx := Lib.hid ok
      generalize rs[m] = x at *
      generalize okRs (rs.take m) = acc at *
      obtain ⟨A5, c5, rfl, hc5, hR5, _⟩ := HW.out.all.at_
      have HPut := Lib.hid (putNl_is wr A5 _ c5 (puts acc) x ok hR5 (by omega))
      have hbw : b < wr.heap.size := Nat.lt_of_lt_of_le hb HW.out.low.size
      have hi0 : (0 : Int) ≤ (m : Int) := by omega
      have hi1 : (m : Int) < (n : Int) := by omega
      clear hrng ok hR5
      go_wp2_with (first | (refine part_fetch rfl 36 _ rfl b (off + m * 63) (rtc x) _ rfl HRng.out Try.underlying36 rfl (by rw [rt_size, rtc_len HOx.out]) ?_) | fail)
      refine HPut.out.mono ?_
      rintro e w2 ⟨v, rfl, hO, hB⟩
      have HW2 := Lib.hid (HW.out.below hB)
      have HRng2 := Lib.hid (range_below HRng.out hB hbw)
      have hs2 : w.heap.size ≤ wr.heap.size := HW.out.low.size
      have hs3 : w.heap.size ≤ w2.heap.size := HW2.out.low.size
      clear hB HW HRng HPut
      cases hxr : rightR x
      · rw [show errR x = 2 from by unfold errR; rw [hxr]; rfl]
        rw [hxr] at HStep
        have HSt : Hid (okRs (rs.take (m + 1)) = acc) := Lib.hid HStep.out
        clear HStep hO hxr
        go_wp2
        exact ⟨⟨m + 1, by omega, by omega, by go_num, by rw [HSt.out]; exact HW2.out⟩, by simp [intOf]; omega⟩
      · rw [show errR x = 0 from by unfold errR; rw [hxr]; rfl]
        rw [hxr, if_pos rfl] at hO
        rw [hxr] at HStep
        have HSt : Hid (okRs (rs.take (m + 1)) = acc ++ [x]) := Lib.hid HStep.out
        have hO1 := hO.low (lo' := w.heap.size) hs2
        obtain ⟨A9, c9, rfl, hc9, _, _⟩ := hO.at_
        have HO1 := Lib.hid hO1
        clear HStep hO hxr hO1
        generalize hL : (puts acc ++ putR x).length = L at *
        have HL : Hid ((puts (acc ++ [x])).length = L) := Lib.hid (by rw [puts_app, puts_one]; exact hL)
        clear hL
        go_wp2_with (first
          | (refine part_fetch rfl 36 _ rfl b (off + m * 63) (rtc x) _ rfl HRng2.out Try.underlying36 rfl (by rw [rt_size, rtc_len HOx.out]) ?_)
          | (refine wpList_slice1 rfl 46 36 _ rfl (rtc x) rfl Try.underlying46 (by rw [rt_size, rtc_len HOx.out]) zero_route (by rw [rtc_len HOx.out]; omega) (by rw [rtc_len HOx.out]; omega) ?_)
          | (at_builtin; refine app_rt rfl _ _ rfl HW2.out.want hs3 (by omega) x HOx.out rfl rfl ?_; intro v6' w3 ho6 hg6 hB6; have HG := Lib.hid (HW2.out.grow HO1.out ho6 hg6 hB6); have hs4 : w.heap.size ≤ w3.heap.size := HG.out.2.2.2.size; clear ho6 hg6 hB6)
          | (at_builtin; refine app_int rfl _ _ rfl HG.out.2.2.1 hs4 (by rw [endsOf_len]; omega) L rfl rfl ?_; intro v7' w4 ho7 hg7 hB7; have HW4 := Lib.hid (CutW.ends HG.out (by rw [HL.out]; exact ho7) hg7 hB7); clear ho7 hg7 hB7)
          | fail)
        exact ⟨⟨m + 1, by omega, by omega, by go_num, by rw [HSt.out]; exact HW4.out⟩, by simp [intOf]; omega⟩
    · have hacc100 : (okRs (rs.take m)).length ≤ 100 := by omega
      generalize okRs (rs.take m) = acc at *
      obtain ⟨A5, c5, rfl, hc5, hR5, _⟩ := HW.out.all.at_
      obtain ⟨A6, c6, rfl, hc6, hR6⟩ := HW.out.want.rdc
      obtain ⟨b7, c7, rfl, hb7, hcell7⟩ := HW.out.en.at_ (by rw [endsOf_len]; omega)
      have HR5 := Lib.hid hR5
      have HR6 := Lib.hid hR6
      have HC7 := Lib.hid hcell7
      have HLow := Lib.hid HW.out.low
      have HCutN := Lib.hid (cut_none acc HOk.out)
      have HCutS := Lib.hid (cut_some HOk.out)
      have HRN := Lib.hid (fun (l : List Int) => read_none (l := l))
      have HRS := Lib.hid (fun (l : List Int) (rs : List Rt) (m : Nat) => read_some (l := l) (rs := rs) (m := m))
      rw [endsOf_len] at *
      generalize hL : (puts acc).length = L at *
      have HL := Lib.hid hL
      generalize hAL : acc.length = AL at *
      have HAL := Lib.hid hAL
      have HGet : Hid (∀ j (h : j < (endsOf acc).length), (endsOf acc)[j] = ((puts (acc.take j)).length : Int)) := Lib.hid (endsOf_get acc)
      have HEL : Hid ((endsOf acc).length = AL + 1) := Lib.hid (by rw [endsOf_len, hAL])
      have HCnt := Lib.hid (fun W => count_is W cut ((L : Int) + 1) (by omega) (by omega) HCut.out)
      clear hR5 hR6 hcell7 hL hAL HW
      rcases hx with ⟨h1, h2⟩ | h1
      all_goals
        go_wp2_with fail
        refine (HCnt.out _).mono ?_
        rintro e w3 ⟨c, hcl, rfl, rfl⟩
        have hcl' : c ≤ L := by omega
        have hs0 : (0 : Int) ≤ (c : Int) := by omega
        have hs1 : (c : Int) ≤ (c5 : Int) := by omega
        go_wp2_with fail
        refine (read_is _ A5 c c5 ((puts acc).take c) (HR5.out.first hcl') (by omega)).mono ?_
        rintro e w4 ⟨vg, rfl, hOg, hBg⟩
        have HNone := Lib.hid (HCutN.out c hcl')
        have HSome : Hid (∀ j, (puts (acc.take j)).length = c → readAll ((puts acc).take c) = some (acc.take j, 0)) := Lib.hid (fun j hj => by rw [← hj]; exact HCutS.out j)
        have HRN' := Lib.hid (HRN.out ((puts acc).take c))
        have HRS' := Lib.hid (HRS.out ((puts acc).take c))
        generalize (puts acc).take c = bs at *
        obtain ⟨Ag, cg, rfl, hcg, hRg⟩ := hOg.rdc
        have HRg := Lib.hid hRg
        have HB4 := Lib.hid (HLow.out.trans (hBg.mono HLow.out.size))
        have HR6' := Lib.hid ((HR6.out.below hBg).more hBg.size)
        have HC7' : Hid (∀ j (h : j < (endsOf acc).length), w4.cell? ⟨b7, j, none⟩ = some (.int .i64 ((puts (acc.take j)).length : Int))) := Lib.hid (fun j h => by rw [hBg.cell (p := ⟨b7, j, none⟩) hb7, HC7.out j h, HGet.out j h])
        have hb7' : b7 < w4.heap.size := Nat.lt_of_lt_of_le hb7 hBg.size
        clear hOg hRg hBg
        generalize hkr : readRs bs = kr at *
        generalize hkm : readM bs = km at *
        generalize hke : readE bs = ke at *
        generalize hkl : kr.length = kl at *
        have HKL := Lib.hid hkl
        clear hkr hkm hke hkl
        go_wp2
        go_loopw [14, 15, 66] (fun _ _ i wr => ∃ j : Nat, j ≤ AL + 1 ∧ i = .int .i64 j ∧ (∀ q, q < j → (puts (acc.take q)).length ≠ c) ∧ Below w4.heap.size w4 wr) (fun _ _ i _ => AL + 1 - (intOf i).toNat)
        case atStart => exact ⟨0, Nat.zero_le _, rfl, fun q h => absurd h (by omega), Below.refl _ _⟩
        case round =>
          obtain ⟨j, hj, rfl, hno, hBj⟩ := hrel
          have HNo := Lib.hid hno
          have HBj := Lib.hid hBj
          clear hno hBj
          by_cases hlt : j < AL + 1
          · have hcell := (HBj.out.cell (p := ⟨b7, j, none⟩) hb7').trans (HC7'.out j (by rw [HEL.out]; exact hlt))
            have hj0 : (0 : Int) ≤ (j : Int) := by omega
            have hj1 : (j : Int) < ((AL + 1 : Nat) : Int) := by omega
            by_cases hjc : (puts (acc.take j)).length = c
            · obtain ⟨q1, q2, q3⟩ := HRS'.out _ _ (HSome.out j hjc)
              have HQ1 := Lib.hid q1
              subst q2 q3
              rw [hjc] at hcell
              have hjA : (j : Int) ≤ (c6 : Int) := by omega
              have HSame := Lib.hid (sameN_is wr Ag A6 kl j cg c6 kr (acc.take j) ((HRg.out.below HBj.out).more HBj.out.size) (((HR6'.out.below HBj.out).more HBj.out.size).cut (by omega)) (by have := HKL.out; have h2 := congrArg List.length HQ1.out; simp at h2; omega))
              have HAlv := Lib.hid aliveN_is
              go_wp2_with fail
              refine HSame.out.mono ?_
              rintro e w8 ⟨rfl, hB8⟩
              rw [decide_eq_true HQ1.out]
              have HB8 := Lib.hid ((HB4.out.trans (HBj.out.mono HB4.out.size)).trans (hB8.mono (Nat.le_trans HB4.out.size HBj.out.size)))
              clear hB8
              go_wp2_with fail
              refine (HAlv.out _).mono ?_
              rintro e w9 ⟨rfl, hB9⟩
              have HB9 := Lib.hid (HB8.out.trans (hB9.mono HB8.out.size))
              clear hB9
              go_wp2
              go_ret
              exact ⟨rfl, HB9.out⟩
            · have hne : ¬ ((puts (acc.take j)).length : Int) = (c : Int) := by omega
              generalize hpj : (puts (acc.take j)).length = pj at *
              have HPJ := Lib.hid hpj
              clear hpj
              go_wp2
              exact ⟨⟨j + 1, by omega, by go_num, fun q hq => by
                rcases Nat.lt_succ_iff_lt_or_eq.1 hq with h | h
                · exact HNo.out q h
                · subst h; rw [HPJ.out]; exact hjc, HBj.out⟩, by simp [intOf]; omega⟩
          · obtain rfl : j = AL + 1 := by omega
            have hn := HNone.out (fun q hq => HNo.out q (by omega))
            obtain ⟨q1, q2, q3⟩ := HRN'.out hn
            have hkl : kl = 0 := by rw [← HKL.out, q1]; rfl
            subst q2 q3 hkl
            clear hn q1
            go_wp2_with fail
            refine (aliveN_is _).mono ?_
            rintro e w9 ⟨rfl, hB9⟩
            have HB9 := Lib.hid ((HB4.out.trans (HBj.out.mono HB4.out.size)).trans (hB9.mono (Nat.le_trans HB4.out.size HBj.out.size)))
            go_wp2
            go_ret
            exact ⟨rfl, HB9.out⟩
end Go.Proofs.Ytffaoeakcaongaa
namespace Go.Proofs.Ytffaoeakcaongaa.nlriCuts
open Go.ChangeShapes Go.WideShapes Go.ChangeAt Go.RowKit
open Go.ChangeMaps (open_string shut_string)
set_option linter.unusedVariables false

theorem own : ownKnob Try.prog.godebug = none := by kernel_rfl
theorem laidOut : laidOutB Try.prog = true := by kernel_rfl

set_option maxRecDepth 100000 in
theorem lifted (os : Os) (started : os.Started) (H : Type) (enc : TypeId × Value → H) :
    ReturnsInHanded {} Try.checked os 9 .any (Rows.nlriCutsSpec.pre6 enc Try.prog Try.f9 Rows.nlriCutsRow.domain false) (Rows.nlriCutsSpec.post enc Try.prog Try.f9 false true false false) := by
  refine returnsInHanded_of_change_sized (C := Try.checked) own started (by kernel_rfl) Try.func9
    (ChangeSpec.witness6 (enc := enc) (C := Try.checked) false ⟨#[], #[.slice none 0 0, .int .i64 0], []⟩ 8 (by kernel_rfl) (by kernel_rfl) (by kernel_rfl) (by kernel_rfl)) ?_
  intro W base args ds gs before hval0 hW hcnd hsz0 _
  have hval : ∀ (j : Nat) t v, Try.f9.params[j]? = some t → args[j]? = some v → Value.okWide Try.prog W .any base t v := hval0
  have hsz : (DataW.weightsEach Try.prog (Try.f9.params.toList ++ Rows.nlriCutsSpec.plain.varTypes Try.prog) (ds ++ gs)).all (· ≤ reachBytes) = true := hsz0
  have hW' := hW
  obtain ⟨p, q, hA0, hV, rfl, hfz, hnd⟩ := hW
  have hA : DataW.TrodAll enc Try.prog W 0 (fun _ => true) true Try.f9.params.toList args.toList ds p := hA0
  rw [Try.params9] at hA hval hsz
  obtain ⟨v0, vs0, d0, ds0, p0, q0, hargs, rfl, rfl, h0, r0⟩ := trodAll_cons hA
  obtain ⟨v1, vs1, d1, ds1, p1, q1, rfl, rfl, rfl, h1, r1⟩ := trodAll_cons r0
  obtain ⟨rfl, rfl, rfl⟩ := trodAll_nil r1
  obtain rfl : args = #[v0, v1] := by cases args; simp_all
  obtain ⟨rfl, rfl⟩ := trodVars_none hV
  obtain ⟨a0, len0, cap0, rfl⟩ := okWide_slice Try.underlying46 (hval 0 46 v0 rfl rfl)
  have lt0 : ∀ x ∈ p0, x.block < W.heap.size := by obtain ⟨m, hm⟩ := h0; exact DataW.trod_lt m _ _ _ hm
  obtain ⟨l0, rd0, lc0, sz0⟩ := open_routes Try.underlying46 h0 hsz (j := 0) rfl rfl
  obtain ⟨a1, rfl, rfl, rfl, w1⟩ := open_int Try.underlying3 (hval 1 3 v1 rfl rfl) h1
  clear hA0 hval0 hsz hsz0
  refine (nlriCuts_walk W a0 len0 cap0 l0 a1 rd0 lc0 sz0 w1).mono fun e W' ⟨he, bel⟩ => ?_
  subst he
  exact ⟨_, rfl, _, _, _, [], _, [], hW', trodAll_mk1 (shut_bool Try.underlying4 _), (trodAll_cons_mk (Below.trod laidOut (by kernel_rfl) (of_decide_eq_true (by kernel_rfl)) h0 bel lt0) (trodAll_cons_mk (shut_int Try.underlying3 w1) trodAll_mk0)), rfl, bel.frame _, fun h => by cases h⟩

theorem over : Rows.nlriCutsRow.holds Try.pinned (OpenSpec.ofChange Rows.nlriCutsSpec) :=
  OpenClaim.holds_of_wide 9 Try.f9 rfl rfl rfl rfl rfl rfl rfl ⟨rfl, rfl, rfl, rfl, rfl⟩ rfl rfl rfl rfl rfl (by kernel_rfl) Try.func9 (by kernel_rfl)
    (of_decide_eq_true (by kernel_rfl)) (by unfold Func.isWrapper; first | (rw [if_pos (by decide +kernel)]; kernel_rfl) | (rw [if_neg (by decide +kernel)]; exact ⟨rfl, rfl⟩))
    (fun os started H enc _ => lifted os started H enc)

theorem proved : Rows.NlriCutsSaid := over
#print axioms proved
end Go.Proofs.Ytffaoeakcaongaa.nlriCuts
