/-
  AttrSplits: for every input the law returns true, and each argument reads behind the call as it read before; the library's variables as the program's text lays them.
-/
import Derived.Test.YtiohgblinjignaaDoorMU
import Derived.Test.YtiohgblinjignaaDoorTie
import Derived.Test.YtiohgblinjignaaDoorCards
import Derived.Test.YtiohgblinjignaaDoorMX
import Derived.Test.YtiohgblinjignaaDoorMY
import Derived.WalkKit
import Derived.OpenShut
import Derived.ShutString
import Derived.ChangeOld
import Derived.Below
import Derived.LaidOnce
import Derived.SevenTiedAt
import Derived.Deep.DeepHandedRow
namespace Go.Proofs.YtiohgblinjignaaDoor
open Go.RowKit
set_option maxRecDepth 100000
set_option linter.unusedSimpArgs false
set_option linter.unusedVariables false

/-- What is split, on both sides: the slice, the error. -/
theorem split_shape {w w' : World} {l : List Int} {e : Ending} (h : Splitted w l e w') : ∃ A N c ee, e = .returned (.tuple #[.slice A N c, .int .i64 ee]) ∧ Below w.heap.size w w' ∧ ee = (if (split l).isSome then 0 else 3) ∧ OwnR w.heap.size w' (.slice A N c) ((split l).getD []) := by
  obtain ⟨hB, h⟩ := h
  cases hs : split l with
  | none =>
    rw [hs] at h
    exact ⟨none, 0, 0, 3, h, hB, rfl, OwnR.nil_ _ _⟩
  | some rs =>
    rw [hs] at h
    obtain ⟨v, rfl, ho⟩ := h
    obtain ⟨A, c, rfl, hr⟩ := ho.rd
    exact ⟨A, _, c, 0, rfl, hB, rfl, ho⟩
theorem join_shape {w w' : World} {rs : List Raw} {e : Ending} (h : Joined w rs e w') : ∃ A N c, e = .returned (.tuple #[.slice A N c, .int .i64 (joinE rs)]) ∧ Below w.heap.size w w' ∧ OwnB w.heap.size w' (.slice A N c) (if joinE rs = 0 then joinB rs else []) := by
  obtain ⟨hB, h⟩ := h
  split at h
  · rename_i h0
    obtain ⟨v, rfl, ho⟩ := h
    obtain ⟨A, c, rfl, _, _⟩ := ho.at_
    exact ⟨A, _, c, by rw [h0], hB, by rw [if_pos h0]; exact ho⟩
  · rename_i h0
    exact ⟨none, 0, 0, h, hB, by rw [if_neg h0]; exact OwnB.nil_ _ _⟩

set_option maxHeartbeats 4000000 in
theorem attrSplits_walk (w : World) (E : EnvK w) (A : Option Addr) (n c : Nat) (l : List Int) (A2 : Option Addr) (n2 c2 : Nat) (rs : List Raw) (hr : Rd w w.heap.size A n l ∧ n ≤ c) (hm : n ≤ 1048576)
    (hr2 : RdR w w.heap.size A2 n2 rs ∧ n2 ≤ c2) (hv : n2 ≤ 1048576 ∧ ∀ r ∈ rs, r.2.2.length ≤ 1048576) :
    Calls Tryd.prog 3 #[.slice A n c, .slice A2 n2 c2] w fun e w' => e = .returned (.bool true) ∧ Below w.heap.size w w' := by
  have HR := Lib.hid hr.1
  have HR2 := Lib.hid hr2.1
  have HV := Lib.hid hv.2
  have HE := Lib.hid E
  have hn2 := hv.1
  have HLn := Lib.hid hr.1.len
  have HLn2 := Lib.hid hr2.1.len
  clear hr hr2 hv E
  by_cases hmost : 300 < n2
  · have hmost' : (300 : Int) < n2 := by omega
    go_enter Tryd.func3, Tryd.ntmps3
    go_wp2_with fail
    refine (alive_is _ HE.out).mono ?_
    rintro e w1 ⟨rfl, hB⟩
    have HB := Lib.hid hB
    clear hB
    go_wp2
    go_ret
    exact ⟨rfl, HB.out⟩
  have hmost' : ¬ (300 : Int) < n2 := by omega
  go_enter Tryd.func3, Tryd.ntmps3
  go_wp2_with fail
  refine (lent_is w A n c l HR.out (by omega)).mono ?_
  rintro e w1 ⟨rfl, hby1, hB1⟩
  have HBy1 := Lib.hid hby1
  have HB1 := Lib.hid hB1
  have HG1 : Hid (w.heap.size < w1.heap.size) := Lib.hid hby1.lt
  have hrl : Rd w1 w1.heap.size (some ⟨w.heap.size, 0, none⟩) n l := by
    have h := hby1.rd (fun x hx => (List.mem_append.1 hx).elim (HR.out.oct x) (by intro h; simp at h; omega)) (k := n) (by rw [List.length_append, HLn.out]; omega) hby1.lt
    rwa [List.take_append_of_le_length (by rw [HLn.out]; omega), List.take_of_length_le (by rw [HLn.out]; omega)] at h
  have HRl := Lib.hid hrl
  generalize hgo : w.heap.size = go at *
  have HGo := Lib.hid hgo
  clear hby1 hB1 hrl hgo
  go_wp2_with fail
  refine (split_is w1 _ n (n + 2) l HRl.out (by omega)).mono ?_
  rintro e w2 hs2
  obtain ⟨Ax, Nx, cx, ex, rfl, hB2, hex, hox⟩ := split_shape hs2
  have hval : ∀ r ∈ (split l).getD [], r.2.2.length ≤ 1048576 := fun r hr => by
    cases hs : split l with
    | none => rw [hs] at hr; cases hr
    | some q =>
      rw [hs] at hr
      have := spl_val _ _ _ hs r hr
      have := HLn.out
      omega
  have hcnt : ((split l).getD []).length ≤ 1048576 := by
    cases hs : split l with
    | none => simp
    | some q =>
      have := spl_cnt _ _ _ hs
      have := HLn.out
      simp
      omega
  have HX := Lib.hid hex
  have HOx := Lib.hid hox
  have HB2 := Lib.hid hB2
  have HVal := Lib.hid hval
  have HCnt := Lib.hid hcnt
  clear hs2 hB2 hex hox hval hcnt HRl
  go_wp2_with fail
  refine (rsplit_is w2 A n c l ((HR.out.below ((HB1.out.trans (HB2.out.mono (Nat.le_of_lt HG1.out))))).more (by have := HB2.out.size; have := HG1.out; omega)) (by omega)).mono ?_
  rintro e w3 hs3
  obtain ⟨Ay, Ny, cy, ey, rfl, hB3, hey, hoy⟩ := split_shape hs3
  have hox3 := HOx.out.below hB3
  obtain ⟨hNx, hSp⟩ := hox3.sp HVal.out
  obtain ⟨hNy, _⟩ := hoy.sp HVal.out
  obtain ⟨A', c', e1, hrx⟩ := hox3.rd
  injection e1 with e1 e2x e3
  subst e1 e3
  rw [← e2x] at hrx
  obtain ⟨A', c', e1, hry⟩ := hoy.rd
  injection e1 with e1 e2y e3
  subst e1 e3
  rw [← e2y] at hry
  obtain rfl : ey = ex := by rw [hey, HX.out]
  obtain rfl : Nx = Ny := by rw [hNx, hNy]
  have HRx := Lib.hid hrx
  have HRy := Lib.hid hry
  have HSp := Lib.hid hSp
  have hNx' : Nx ≤ 1048576 := by rw [hNx]; exact HCnt.out
  have HB3 : Hid (Below w1.heap.size w1 w3) := Lib.hid (HB2.out.trans (hB3.mono HB2.out.size))
  have hee : (ey != ey) = false := by simp
  clear hs3 hB3 hey hoy hox3 hNx hSp hNy hrx hry e2x e2y HX HOx HVal HCnt HB2
  go_wp2_with fail
  refine (sameR_is w3 Ax Ay Nx cx cy _ HRx.out HRy.out (by omega)).mono ?_
  rintro e w4 ⟨rfl, k4, hw4⟩
  have HB4 : Hid (Below w1.heap.size w1 w4) := Lib.hid (by rw [hw4]; exact below_drewN HB3.out k4)
  have HSp4 : Hid (Sp w1.heap.size w4 Ax Nx) := Lib.hid (by rw [hw4]; exact HSp.out.below (below_drewN (Below.refl _ _) k4))
  clear hw4 HRx HRy HSp HB3
  go_wp2
  go_loopw [10, 43] (fun _ i wr => ∃ k : Nat, k ≤ Nx ∧ i = .int .i64 k ∧ (Sp w1.heap.size wr Ax Nx ∧ Below w1.heap.size w1 wr)) (fun _ i _ => Nx - (intOf i).toNat)
  case atStart => exact ⟨0, Nat.zero_le _, rfl, HSp4.out, HB4.out⟩
  case round =>
    obtain ⟨k, hk, rfl, hsp⟩ := hrel
    have HS := Lib.hid hsp
    clear hsp HB4 HSp4
    by_cases hlt : k < Nx
    · obtain ⟨gx, off, rfl, hgl, hat⟩ := HS.out.1 (by omega)
      obtain ⟨A1, n1, c1, x2, hn1, hbd⟩ := hat k hlt
      clear hat
      have hkI : (k : Int) < (Nx : Int) := by omega
      rcases Nat.eq_zero_or_pos n1 with h0 | h0
      · subst h0
        clear hbd
        go_wp2_with fail
        refine (spoil_none _ A1 c1).mono ?_
        rintro e w' ⟨rfl, rfl⟩
        go_wp2
        exact ⟨⟨k + 1, by omega, by go_num, HS.out⟩, by simp [intOf]; omega⟩
      · obtain ⟨g, rfl, hlo, hne, hu⟩ := hbd.resolve_left (by omega)
        have HU := Lib.hid hu
        clear hbd hu
        go_wp2_with fail
        refine (spoil_at2 _ g n1 c1 HU.out (by omega)).mono ?_
        rintro e w5 ⟨rfl, hg5, hu5⟩
        have HS5 : Hid (Sp w1.heap.size w5 (some ⟨gx, off, none⟩) Nx ∧ Below w1.heap.size w1 w5) := Lib.hid ⟨HS.out.1.spoiled rfl hne hg5 hu5, below_only HS.out.2 hg5 HS.out.2.size (fun j e => by injection e with e; omega)⟩
        clear hg5 hu5
        go_wp2
        exact ⟨⟨k + 1, by omega, by go_num, HS5.out⟩, by simp [intOf]; omega⟩
    · obtain rfl : Nx = k := by omega
      have HB5 : Hid (Below go w wr) := Lib.hid (HB1.out.trans (HS.out.2.mono (Nat.le_of_lt HG1.out)))
      have HBy5 : Hid (Byt wr go 5 (l ++ [165, 90])) := Lib.hid (HBy1.out.below HS.out.2 HG1.out)
      have hgo5 : go ≤ wr.heap.size := by have := HG1.out; have := HS.out.2.size; omega
      have HL5 : Hid (go < wr.heap.size) := Lib.hid HBy5.out.lt
      clear HS HBy1 HB1 HG1
      go_wp2_with fail
      refine (lentR_is wr A2 n2 c2 rs ((HR2.out.below HB5.out).more hgo5) (by omega) (fun r hr => by have := HV.out r hr; omega)).mono ?_
      rintro e w6 ⟨vm, rfl, hom, hB6⟩
      obtain ⟨Am, cm, rfl, hrm⟩ := hom.rd
      rw [HLn2.out] at hrm
      rw [HLn2.out]
      have HRm := Lib.hid hrm
      have HB6 : Hid (Below go w w6) := Lib.hid (HB5.out.trans (hB6.mono hgo5))
      have HBy6 := Lib.hid (HBy5.out.below hB6 HL5.out)
      have hgo6 : go ≤ w6.heap.size := by have := hB6.size; omega
      have HL6 : Hid (go < w6.heap.size) := Lib.hid HBy6.out.lt
      clear hom hrm hB6 HB5 HBy5 hgo5 HL5
      have HBd : Hid (∀ m, m ≤ rs.length → (∀ j (hj : j < rs.length), j < m → encE rs[j] = 0) → (joinB (rs.take m)).length ≤ 99900000) := Lib.hid fun m hm' hg => by
        have h1 := joinB_le rs m hm' hg
        have h2 := HLn2.out
        omega
      have HV2 : Hid (∀ r ∈ rs, r.2.2.length ≤ 140737488355328) := Lib.hid fun r hr => by have := HV.out r hr; omega
      go_wp2_with fail
      refine (join_is w6 Am n2 cm rs HRm.out (by omega) HV2.out HBd.out).mono ?_
      rintro e w7 hj7
      obtain ⟨Ap, Np, cp, rfl, hB7, hop⟩ := join_shape hj7
      have HOp := Lib.hid hop
      have HB7 := Lib.hid hB7
      clear hj7 hB7 hop
      go_wp2_with fail
      refine (rjoin_is w7 A2 n2 c2 rs ((HR2.out.below (HB6.out.trans (HB7.out.mono hgo6))).more (by have := HB7.out.size; omega)) (by omega) HV2.out HBd.out).mono ?_
      rintro e w8 hj8
      obtain ⟨Aq, Nq, cq, rfl, hB8, hoq⟩ := join_shape hj8
      have hop8 := HOp.out.below hB8
      obtain ⟨A', c', e1, _, hrp, _⟩ := hop8.at_
      injection e1 with e1 e2 e3
      subst e1 e3
      rw [← e2] at hrp
      have hNp := e2
      obtain ⟨A', c', e1, _, hrq, _⟩ := hoq.at_
      injection e1 with e1 e2' e3
      subst e1 e3
      rw [← e2'] at hrq
      have HRp := Lib.hid hrp
      have HRq := Lib.hid hrq
      have HOp8 := Lib.hid hop8
      have hNp' : Np ≤ 99900000 := by
        rw [hNp]
        split
        · rename_i h0
          have := HBd.out rs.length (Nat.le_refl _) (fun j hj _ => by
            by_cases hx : encE rs[j] = 0
            · exact hx
            · exfalso
              unfold joinE at h0
              cases hf : rs.find? (fun r => decide (encE r ≠ 0)) with
              | none =>
                have := List.find?_eq_none.1 hf rs[j] (List.getElem_mem hj)
                simp [hx] at this
              | some y =>
                rw [hf] at h0
                have := List.find?_some hf
                simp [h0] at this)
          rwa [List.take_length] at this
        · simp
      have HB8 : Hid (Below w6.heap.size w6 w8) := Lib.hid (HB7.out.trans (hB8.mono HB7.out.size))
      have hj : (joinE rs != joinE rs) = false := by simp
      clear hj8 hB8 hoq hop8 hrp hrq hNp e2 e2' HOp HB7 HBd
      generalize joinE rs = je at *
      go_wp2_with fail
      refine (same_is w8 w8.heap.size Ap Aq Np Nq cp cq _ _ HRp.out HRq.out true (by simp)).mono ?_
      rintro e w' ⟨rfl, rfl⟩
      go_wp2_with fail
      refine (spoil_own w6.heap.size w8 Ap Np cp _ HOp8.out (by omega) HB8.out.size).mono ?_
      rintro e w9 ⟨rfl, hB9⟩
      have HB9 : Hid (Below w6.heap.size w6 w9) := Lib.hid (HB8.out.trans hB9)
      have HBy9 := Lib.hid (HBy6.out.below HB9.out HL6.out)
      have HBw9 : Hid (Below go w w9) := Lib.hid (HB6.out.trans (HB9.out.mono hgo6))
      have HRm9 := Lib.hid (HRm.out.below HB9.out)
      have HZ9 : Hid (w6.heap.size ≤ w9.heap.size) := Lib.hid HB9.out.size
      clear hB9 HB8 HOp8 HRp HRq HB6 HBy6 HRm
      go_wp2_with fail
      refine (kept_is w9 go go A n c l HBy9.out (HR.out.below HBw9.out) (by omega)).mono ?_
      rintro e w' ⟨rfl, rfl⟩
      go_wp2_with fail
      refine (sameR_is w9 Am A2 n2 cm c2 rs (HRm9.out.more HZ9.out) ((HR2.out.below HBw9.out).more (by have := HZ9.out; omega)) (by omega)).mono ?_
      rintro e w10 ⟨rfl, k10, hw10⟩
      have HB10 : Hid (Below go w w10) := Lib.hid (by rw [hw10]; exact below_drewN HBw9.out k10)
      have HE10 : Hid (EnvK w10) := Lib.hid (HE.out.low HB10.out (by rw [← HGo.out]; exact HE.out.lt))
      have hgo10 : go ≤ w10.heap.size := by have := HB10.out.size; have := HGo.out; omega
      clear hw10 HRm9 HBy9 HBw9
      go_wp2_with fail
      refine (alive_is _ HE10.out).mono ?_
      rintro e w11 ⟨rfl, hB11⟩
      have HB11 : Hid (Below go w w11) := Lib.hid (HB10.out.trans (hB11.mono hgo10))
      clear hB11
      go_wp2
      go_ret
      exact ⟨rfl, by rw [HGo.out]; exact HB11.out⟩
end Go.Proofs.YtiohgblinjignaaDoor
namespace Go.Proofs.YtiohgblinjignaaDoor.attrSplits
open Go.ChangeShapes Go.WideShapes Go.ChangeAt Go.RowKit
open Go.ChangeMaps (open_string shut_string)
set_option linter.unusedVariables false

theorem own : ownKnob Tryd.prog.godebug = none := by kernel_rfl
theorem laidOut : laidOutB Tryd.prog = true := by kernel_rfl

set_option maxRecDepth 100000 in
theorem reads (os : Os) {H : Type} (enc : TypeId × Value → H) : ∃ x, DataW.whole enc Tryd.prog ((World.laidAll Tryd.prog os laidK).forCall (fun _ _ => 0) ⟨#[], #[.slice none 0 0, .slice none 0 0], []⟩).memory Tryd.f3.params.toList Rows.attrSplitsSpec.vars false (#[.slice none 0 0, .slice none 0 0] : Array Value).toList 8 = some x ∧ Rows.uptoSmall H (x.1 ++ x.2.1) = true :=
  ⟨([.nil, .nil], [], []), by kernel_rfl, by kernel_rfl⟩
set_option maxRecDepth 100000 in
theorem lifted (os : Os) (started : os.Started) (H : Type) (enc : TypeId × Value → H) (F : Stop.Interp) :
    ReturnsInHanded {} Tryd.checked os 3 .any ((Rows.OpenSpec.upto Rows.attrSplitsSpec).preRow enc Tryd.prog Tryd.f3 Rows.attrSplitsUptoRow.domain false Rows.attrSplitsUptoRow.laid) (((Rows.OpenSpec.upto Rows.attrSplitsSpec).at F).post enc Tryd.prog Tryd.f3 false true false false) := by
  obtain ⟨x, hx, hxs⟩ := reads os enc
  refine returnsInHanded_of_row (C := Tryd.checked) (s := Rows.OpenSpec.upto Rows.attrSplitsSpec) own started (by kernel_rfl) Tryd.func3
    (witness_row_at (enc := enc) (C := Tryd.checked) false (World.laidAll Tryd.prog os laidK) #[.slice none 0 0, .slice none 0 0] (World.laidAll_os _ _ _) (by kernel_rfl) (by kernel_rfl) (by kernel_rfl)
      (OpenSpec.preRow_of_cond 8 hx (by kernel_rfl) (fun k hk => by cases hk; exact hxs) (by kernel_rfl) (laidMet_laidAll _ (by kernel_rfl) (by kernel_rfl)))) ?_
  intro W base args ds gs before hval0 hW _ hcond _ hL0 hshape _
  have hval : ∀ (j : Nat) t v, Tryd.f3.params[j]? = some t → args[j]? = some v → Value.okWide Tryd.prog W .any base t v := hval0
  have hL : laidMetH Tryd.prog laidK W := hL0
  rw [MakeChecks.laidMetH_plain _ _ _ (by kernel_rfl)] at hL
  have E : EnvK W := envK_of hL
  have hW' := hW
  obtain ⟨p, q, hA0, hV, rfl, hfz, hnd⟩ := hW
  have hA : DataW.TrodAll enc Tryd.prog W 0 (fun _ => true) true Tryd.f3.params.toList args.toList ds p := hA0
  rw [Tryd.params3] at hA hval
  obtain ⟨v0, vs0, d0, ds0, p0, q0, hargs, rfl, rfl, h0, r0⟩ := trodAll_cons hA
  obtain ⟨v1, vs1, d1, ds1, p1, q1, rfl, rfl, rfl, h1, r1⟩ := trodAll_cons r0
  obtain ⟨rfl, rfl, rfl⟩ := trodAll_nil r1
  obtain rfl : args = #[v0, v1] := by cases args; simp_all
  obtain ⟨rfl, rfl⟩ := trodVars_none hV
  have hbulk := bulk_le (hcond _ rfl)
  simp only [List.append_nil] at hbulk
  obtain ⟨a0, len0, cap0, rfl⟩ := okWide_slice Tryd.underlying22 (hval 0 22 v0 rfl rfl)
  have lt0 : ∀ x ∈ p0, x.block < W.heap.size := by obtain ⟨m, hm⟩ := h0; exact DataW.trod_lt m _ _ _ hm
  obtain ⟨l0, rd0, sz0⟩ := open_bytesc Tryd.underlying22 Tryd.underlying5 (by kernel_rfl) h0 (hB := hbulk _ (by simp))
  obtain ⟨a1, len1, cap1, rfl⟩ := okWide_slice Tryd.underlying23 (hval 1 23 v1 rfl rfl)
  have lt1 : ∀ x ∈ p1, x.block < W.heap.size := by obtain ⟨m, hm⟩ := h1; exact DataW.trod_lt m _ _ _ hm
  obtain ⟨l1, rd1, sz1⟩ := open_rawsc Tryd.underlying23 Tryd.underlying32 (by kernel_rfl) (by kernel_rfl) Tryd.underlying3 Tryd.underlying3 Tryd.underlying22 Tryd.underlying5 (by kernel_rfl) h1 (hB := hbulk _ (by simp))
  clear hA0 hval0
  refine (attrSplits_walk W E a0 len0 cap0 l0 a1 len1 cap1 l1 rd0 sz0 rd1 sz1).mono fun e W' ⟨he, bel⟩ => ?_
  subst he
  exact ⟨_, rfl, _, _, _, [], _, [], hW', trodAll_mk1 (shut_bool Tryd.underlying4 _), (trodAll_cons_mk (Below.trod laidOut (by kernel_rfl) (of_decide_eq_true (by kernel_rfl)) h0 bel lt0) (trodAll_cons_mk (Below.trod laidOut (by kernel_rfl) (of_decide_eq_true (by kernel_rfl)) h1 bel lt1) trodAll_mk0)), rfl, bel.frame _, fun h => by cases h⟩

theorem over : Rows.attrSplitsUptoRow.holds Tryd.pinned (Rows.OpenSpec.upto Rows.attrSplitsSpec) :=
  OpenClaim.holds_of_cond 3 Tryd.f3 rfl rfl rfl rfl rfl rfl rfl ⟨rfl, rfl, rfl, rfl, rfl⟩ rfl rfl rfl rfl rfl (by kernel_rfl) Tryd.func3 (by kernel_rfl)
    (of_decide_eq_true (by kernel_rfl)) (by unfold Func.isWrapper; first | (rw [if_pos (by decide +kernel)]; kernel_rfl) | (rw [if_neg (by decide +kernel)]; exact ⟨rfl, rfl⟩))
    (fun os started H enc _ F => by rw [OpenClaim.pre_eq_preRow]; exact lifted os started H enc F)

theorem proved : Rows.AttrSplitsUptoCardSaid :=
  Claim7.holds_tied_plain_at .later [] [.data] true Rows.attrSplitsUptoCard.stood.harness false
    over (fun _ h => by cases h) (by kernel_rfl) (fun _ h => by cases h) attrSplitsUpto_row_tie rfl ⟨rfl, rfl⟩ (by kernel_rfl) rfl
    (fun f fn hf hfn => by
      obtain rfl : f = 3 := Option.some.inj ((show Tryd.prog.funcNamed "weft/weftlaw05.AttrSplits" = some 3 by kernel_rfl).symm.trans hf) |>.symm
      obtain rfl : fn = Tryd.f3 := (Option.some.inj (Tryd.func3.symm.trans hfn)).symm
      exact ⟨by kernel_rfl, fun j t ht => by
        rw [Tryd.params3] at ht
        have hm : t ∈ [22, 23] := by simpa using Array.mem_of_getElem? ht
        have hall : ([22, 23].all fun u => !Tryd.prog.wantsStandIn u) = true := by kernel_rfl
        exact (show Tryd.prog.wantsStandIn t = false by simpa using List.all_eq_true.1 hall t hm)⟩)
    (by kernel_rfl)
#print axioms proved
end Go.Proofs.YtiohgblinjignaaDoor.attrSplits
