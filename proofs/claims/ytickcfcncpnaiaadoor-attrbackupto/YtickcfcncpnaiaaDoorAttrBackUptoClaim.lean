/-
  AttrBack: for every input the law returns true, and each argument reads behind the call as it read before; the library's variables as the program's text lays them.
-/
import Derived.Test.YtickcfcncpnaiaaDoorMC
import Derived.Test.YtickcfcncpnaiaaDoorMZ
import Derived.Test.YtickcfcncpnaiaaDoorTie
import Derived.Test.YtickcfcncpnaiaaDoorCards
import Derived.Test.YtickcfcncpnaiaaDoorMX
import Derived.Test.YtickcfcncpnaiaaDoorMY
import Derived.WalkKit
import Derived.OpenShut
import Derived.ShutString
import Derived.ChangeOld
import Derived.Below
import Derived.LaidOnce
import Derived.SevenTiedAt
import Derived.Deep.DeepHandedRow
namespace Go.Proofs.YtickcfcncpnaiaaDoor
open Go.RowKit
set_option maxRecDepth 100000
set_option linter.unusedSimpArgs false
set_option linter.unusedVariables false

theorem IsAt.shape5 {lo : Nat} {w : World} {cs : List Value} {a : Att} (h : IsAt lo w cs a) : cs.length = 27 ∧ ∀ v ∈ cs, v.oneCell' = true := by
  obtain ⟨vp, vc, vm, rfl, h1, h2, h3⟩ := h.ex
  obtain ⟨_, _, e1, _⟩ := h1.rd
  obtain ⟨_, _, e2, _⟩ := h2.rd
  obtain ⟨_, _, e3, _⟩ := h3.rd
  exact ⟨attV_len _ _ _ _ h.ip, one_attV _ (by rw [e1]; rfl) (by rw [e2]; rfl) (by rw [e3]; rfl)⟩
abbrev zcAtt : Array Value := #[.int .i64 0, .slice none 0 0, .bool false, .int .u32 0, .int .u32 0, .int .u32 0, .slice none 0 0, .slice none 0 0, .int .i64 0, .int .u32 0, .bool false, .int .u8 0, .int .u8 0, .int .u8 0, .int .u8 0, .int .u8 0, .int .u8 0, .int .u8 0, .int .u8 0, .int .u8 0, .int .u8 0, .int .u8 0, .int .u8 0, .int .u8 0, .int .u8 0, .int .u8 0, .int .u8 0]
/-- The memory behind the two stores. -/
def Wtwo (w4 : World) (ds : List Value) (fs : Array Value) : World := (((w4.alloc (.cells zcAtt 31)).alloc (.cells #[.int .i64 0, .int .i64 0, .slice none 0 0] 47)).setRow w4.heap.size ds.toArray).setRow (w4.heap.size + 1) fs
theorem two_new (w4 : World) (ds : List Value) : Blk ((w4.alloc (.cells zcAtt 31)).alloc (.cells #[.int .i64 0, .int .i64 0, .slice none 0 0] 47)) w4.heap.size 31 zcAtt ∧ Blk (((w4.alloc (.cells zcAtt 31)).alloc (.cells #[.int .i64 0, .int .i64 0, .slice none 0 0] 47)).setRow w4.heap.size ds.toArray) (w4.heap.size + 1) 47 #[.int .i64 0, .int .i64 0, .slice none 0 0] :=
  ⟨(Blk.new w4 31 zcAtt).alloc _, Blk.setRow_other5 (by have := Blk.new (w4.alloc (.cells zcAtt 31)) 47 #[.int .i64 0, .int .i64 0, .slice none 0 0]; simpa using this) (by omega) _⟩
theorem two_after (w4 : World) (ds : List Value) (fs : Array Value) : Below w4.heap.size w4 (Wtwo w4 ds fs) ∧ (Wtwo w4 ds fs).rangeAt w4.heap.size 0 ds :=
  ⟨((((Below.refl _ _).alloc (Nat.le_refl _) _).alloc (by simp) _).trans (below_setRow _ _ _ (Nat.le_refl _))).trans (below_setRow _ _ _ (by omega)), Blk.range (Blk.setRow_other5 (Blk.setRow (two_new w4 ds).1 ds.toArray) (by omega) fs)⟩
/-- Nothing below has turned. -/
def BkC (w W : World) : Prop := Below w.heap.size w W ∧ EnvK W
theorem BkC.step {w W W' : World} (h : BkC w W) (hB : Below W.heap.size W W') : BkC w W' := ⟨h.1.trans (hB.mono h.1.size), h.2.below hB⟩

set_option maxHeartbeats 16000000 in
set_option maxRecDepth 100000 in
theorem attrBack_walk (w : World) (E : EnvK w) (cs : List Value) (a : Att) (Ab : Option Addr) (m cb : Nat) (lb : List Int) (hc : RdAt w w.heap.size cs a ∧ AtFits a) (hb : Rd w w.heap.size Ab m lb ∧ m ≤ cb) (hm : m ≤ 1048576) :
    Calls Tryd.prog 4 #[.agg cs.toArray, .slice Ab m cb] w fun e w' => e = .returned (.bool true) ∧ Below w.heap.size w w' := by
  have hal : Below w.heap.size w (w.alloc (.cells cs.toArray 31)) := (Below.refl _ _).alloc (Nat.le_refl _) _
  have H0 : Hid (BkC w (w.alloc (.cells cs.toArray 31))) := Lib.hid ⟨hal, E.below hal⟩
  have hshape : cs.length = 27 ∧ ∀ v ∈ cs, v.oneCell' = true := by
    obtain ⟨Ap, cp, Ac, cc, Am, cm, rfl, _⟩ := hc.1.ex
    exact ⟨attV_len _ _ _ _ hc.2.ip, one_attV _ rfl rfl rfl⟩
  have HL := Lib.hid hshape.1
  have HF := Lib.hid hc.2
  have HAt := Lib.hid hc.1
  have HLb := Lib.hid hb.1
  have HBx := Lib.hid (Blk.new w 31 cs.toArray)
  have HRng := Lib.hid (Blk.range HBx.out)
  clear hal hc hshape hb E
  go_enter Tryd.func4, Tryd.ntmps4
  go_wp2_with (refine att_fetch5 rfl _ rfl w.heap.size cs HL.out rfl HRng.out ?_)
  generalize hw0 : w.alloc (.cells cs.toArray 31) = w0 at *
  have hs0 : w.heap.size < w0.heap.size := by rw [← hw0]; simp
  clear hw0
  refine (write_is w0 H0.out.2 a HF.out cs ((HAt.out.below H0.out.1).more H0.out.1.size)).mono ?_
  intro e w1 hW
  have hW' : ∃ v1, e = .returned (.tuple #[v1, .int .i64 (writeE a)]) ∧ (writeE a = 0 → OwnW w0.heap.size w1 v1 (writeR a)) := by
    obtain ⟨_, h⟩ := hW
    split at h
    · rename_i h0
      obtain ⟨v, h1, h2⟩ := h
      exact ⟨v, by rw [h0]; exact h1, fun _ => h2⟩
    · rename_i h0
      exact ⟨_, h, fun h => absurd h h0⟩
  have hB1 := hW.1
  obtain ⟨v1, rfl, ho⟩ := hW'
  have HO := Lib.hid ho
  have H1 := Lib.hid (H0.out.step hB1)
  have HBx1 := Lib.hid (HBx.out.below hB1 hs0)
  have hs1 : w.heap.size < w1.heap.size := Nat.lt_of_lt_of_le hs0 hB1.size
  clear hB1 HBx HRng H0 hW ho
  go_upto_if 24 with fail
  go_cut [6, 7, 8, 9, 10, 11, 12, 13] (fun s6 s7 s8 s9 s10 s11 s12 s13 wx => BkC w wx)
  case first =>
    by_cases he : writeE a = 0
    · have ho1 := HO.out he
      obtain ⟨hr, p1, p2, p3⟩ := writeE_parts he
      obtain ⟨A1, c1, rfl, hr1⟩ := ho1.rd
      have HEnc := Lib.hid (write_enc HF.out p1 p2 p3)
      have HLn := Lib.hid (write_len a)
      have HRW := Lib.hid (read_write HF.out hr)
      have HOk : Hid (AtOk a) := Lib.hid ⟨⟨(pm_parts hr).1, by have := (pm_parts hr).2.1; omega, HF.out.label.1, by have := HF.out.label.2; omega, HF.out.ip, HF.out.oct⟩, by omega, by omega, by omega⟩
      rw [he]
      clear he HO hr p1 p2 p3 ho1
      generalize writeR a = rs at *
      have HSp := Lib.hid (split_join rs HEnc.out)
      have HJE := Lib.hid (joinE_zero HEnc.out)
      have HJl := Lib.hid (joinB_len rs HEnc.out)
      have hlen := HLn.out
      have HJ := Lib.hid (join_is w1 A1 rs.length c1 rs hr1 (by omega) (fun r hr => by have := enc_val (HEnc.out r hr); omega) (fun m hm _ => by have := joinB_take_le rs m; have := HJl.out; omega))
      clear hr1 hlen
      go_wp2_with fail
      refine HJ.out.mono ?_
      rintro e w2 ⟨hB2, hj⟩
      rw [if_pos HJE.out] at hj
      obtain ⟨v2, rfl, ho2⟩ := hj
      obtain ⟨A2, c2, rfl, hc2, hr2, _⟩ := ho2.at_
      have H2 := Lib.hid (H1.out.step hB2)
      have HBx2 := Lib.hid (HBx1.out.below hB2 hs1)
      have hs2 : w.heap.size < w2.heap.size := Nat.lt_of_lt_of_le hs1 hB2.size
      have HSpl := Lib.hid (split_is w2 A2 (joinB rs).length c2 (joinB rs) hr2 (by have := HJl.out; have := HLn.out; omega))
      clear ho2 hr2 hB2 HBx1 H1 HJ
      go_wp2_with fail
      refine HSpl.out.mono ?_
      rintro e w3 ⟨hB3, hj⟩
      rw [HSp.out] at hj
      obtain ⟨v3, rfl, ho3⟩ := hj
      obtain ⟨A3, c3, rfl, hr3⟩ := ho3.rd
      have H3 := Lib.hid (H2.out.step hB3)
      have HBx3 := Lib.hid (HBx2.out.below hB3 hs2)
      have hs3 : w.heap.size < w3.heap.size := Nat.lt_of_lt_of_le hs2 hB3.size
      have HRd := Lib.hid (Read_is w3 H3.out.2 A3 rs.length c3 rs hr3 (by have := HLn.out; omega) (fun r hr => by have := enc_val (HEnc.out r hr); omega))
      clear ho3 hr3 hB3 HBx2 H2 HSpl
      go_wp2_with fail
      refine HRd.out.mono ?_
      rintro e w4 ⟨ds, A4, n4, c4, rfl, hat, _, hB4⟩
      rw [HRW.out] at hat ⊢
      simp only
      simp only at hat
      obtain ⟨hl4, hone4⟩ := hat.shape5
      have H4 := Lib.hid (H3.out.step hB4)
      have HBx4 := Lib.hid (HBx3.out.below hB4 hs3)
      have HAt4 := Lib.hid hat.rdAt
      have HL4 := Lib.hid hl4
      have HO4 := Lib.hid hone4
      have hs4 : w.heap.size < w4.heap.size := Nat.lt_of_lt_of_le hs3 hB4.size
      clear hat hl4 hone4 hB4 HBx3 H3 HRd
      have HN1 := Lib.hid (two_new w4 ds).1
      have HN2 := Lib.hid (two_new w4 ds).2
      obtain ⟨k1, k2⟩ := two_after w4 ds #[.int .i64 0, .int .i64 0, .slice A4 n4 c4]
      have H5 := Lib.hid (H4.out.step k1)
      have HRngA := Lib.hid (Blk.range (HBx4.out.below k1 hs4))
      have HRngB := Lib.hid k2
      have HA5 := Lib.hid ((HAt.out.below H5.out.1).more H5.out.1.size)
      have HD5 := Lib.hid ((HAt4.out.below k1).more k1.size)
      have HOk2 := Lib.hid HOk.out
      clear k1 k2 H4 HBx4 HAt4
      unfold Wtwo at H5 HRngA HRngB HA5 HD5
      go_wp2_with (first
        | (refine att_store5 rfl _ _ rfl w4.heap.size ds HL4.out HO4.out rfl rfl 31 zcAtt HN1.out rfl ?_)
        | (refine fault_store5 rfl _ _ rfl (w4.heap.size + 1) 0 0 A4 n4 c4 rfl rfl 47 _ HN2.out rfl ?_)
        | (refine att_fetch5 rfl _ rfl w.heap.size cs HL.out rfl HRngA.out ?_)
        | (refine att_fetch5 rfl _ rfl w4.heap.size ds HL4.out rfl HRngB.out ?_))
      refine (sameA_is _ cs ds a HA5.out HD5.out HOk2.out).mono ?_
      rintro e w6 ⟨rfl, hB6⟩
      have H6 := Lib.hid (H5.out.step hB6)
      clear hB6 H5 HRngA HRngB HA5 HD5 HN1 HN2
      go_wp2_with fail
      go_meet
      exact H6.out
    · have e2 : (writeE a == 0) = false := by rw [beq_eq_false_iff_ne]; exact he
      clear he
      go_wp2_with fail
      go_meet
      exact H1.out
  case rest =>
    have HC := Lib.hid hcut
    clear hcut HAt HF HL
    generalize hwc : wc = V1 at *
    clear hwc
    have HSpl := Lib.hid (split_is V1 Ab m cb lb ((HLb.out.below HC.out.1).more HC.out.1.size) (by omega))
    go_wp2_with fail
    refine HSpl.out.mono ?_
    rintro e V2 ⟨hB2, hj⟩
    have H2 := Lib.hid (HC.out.step hB2)
    clear hB2 HSpl HC
    cases hsp : split lb with
    | none =>
      rw [hsp] at hj
      subst hj
      clear hsp
      go_wp2_with fail
      refine (alive_is V2 H2.out.2).mono ?_
      rintro e V3 ⟨rfl, hB3⟩
      have H3 := Lib.hid (H2.out.step hB3)
      clear hB3
      go_wp2
      go_ret
      exact ⟨rfl, H3.out.1⟩
    | some rs =>
      rw [hsp] at hj
      obtain ⟨v2, rfl, ho2⟩ := hj
      obtain ⟨A2, c2, rfl, hr2⟩ := ho2.rd
      obtain ⟨g1, g2⟩ := split_back HLb.out.oct hsp
      have hlb := HLb.out.len
      have hjl : (joinB rs).length = m := by rw [g2]; exact hlb
      have hrl : 3 * rs.length ≤ m := by
        have hpos : ∀ ts : List Raw, 3 * ts.length ≤ (joinB ts).length := by
          intro ts
          induction ts with
          | nil => simp
          | cons t ts ih =>
            have e : joinB (t :: ts) = encB t ++ joinB ts := rfl
            have h3 : 3 ≤ (encB t).length := by rcases lsz_12 t.1 with e | e <;> simp [encB, be_len, e] <;> omega
            rw [e, List.length_append, List.length_cons]
            omega
        have := hpos rs
        omega
      have HJE := Lib.hid (joinE_zero g1)
      have HG2 := Lib.hid g2
      have HJ := Lib.hid (join_is V2 A2 rs.length c2 rs hr2 (by omega) (fun r hr => by have := enc_val (g1 r hr); omega) (fun k hk _ => by have := joinB_take_le rs k; omega))
      clear hsp ho2 hr2 g1 g2 hlb hjl hrl
      go_wp2_with fail
      refine HJ.out.mono ?_
      rintro e V3 ⟨hB3, hj⟩
      rw [if_pos HJE.out] at hj
      obtain ⟨v3, rfl, ho3⟩ := hj
      obtain ⟨A3, c3, rfl, hc3, hr3, _⟩ := ho3.at_
      have H3 := Lib.hid (H2.out.step hB3)
      rw [HG2.out] at hr3 ⊢
      have HSm := Lib.hid (same_is V3 V3.heap.size A3 Ab lb.length m c3 cb lb lb hr3 ((HLb.out.below H3.out.1).more H3.out.1.size) true (by simp))
      clear hB3 ho3 hr3 H2 HJ hc3
      go_wp2_with fail
      refine HSm.out.mono ?_
      rintro e V4 ⟨rfl, rfl⟩
      clear HSm
      go_wp2_with fail
      refine (alive_is _ H3.out.2).mono ?_
      rintro e V5 ⟨rfl, hB5⟩
      have H5 := Lib.hid (H3.out.step hB5)
      clear hB5
      go_wp2
      go_ret
      exact ⟨rfl, H5.out.1⟩
end Go.Proofs.YtickcfcncpnaiaaDoor
namespace Go.Proofs.YtickcfcncpnaiaaDoor.attrBack
open Go.ChangeShapes Go.WideShapes Go.ChangeAt Go.RowKit
open Go.ChangeMaps (open_string shut_string)
set_option linter.unusedVariables false

theorem own : ownKnob Tryd.prog.godebug = none := by kernel_rfl
theorem laidOut : laidOutB Tryd.prog = true := by kernel_rfl

set_option maxRecDepth 100000 in
theorem reads (os : Os) {H : Type} (enc : TypeId × Value → H) : ∃ x, DataW.whole enc Tryd.prog ((World.laidAll Tryd.prog os laidK).forCall (fun _ _ => 0) ⟨#[], #[.agg #[.int .i64 0, .slice none 0 0, .bool false, .int .u32 0, .int .u32 0, .int .u32 0, .slice none 0 0, .slice none 0 0, .int .i64 0, .int .u32 0, .bool false, .int .u8 0, .int .u8 0, .int .u8 0, .int .u8 0, .int .u8 0, .int .u8 0, .int .u8 0, .int .u8 0, .int .u8 0, .int .u8 0, .int .u8 0, .int .u8 0, .int .u8 0, .int .u8 0, .int .u8 0, .int .u8 0], .slice none 0 0], []⟩).memory Tryd.f4.params.toList Rows.attrBackSpec.vars false (#[.agg #[.int .i64 0, .slice none 0 0, .bool false, .int .u32 0, .int .u32 0, .int .u32 0, .slice none 0 0, .slice none 0 0, .int .i64 0, .int .u32 0, .bool false, .int .u8 0, .int .u8 0, .int .u8 0, .int .u8 0, .int .u8 0, .int .u8 0, .int .u8 0, .int .u8 0, .int .u8 0, .int .u8 0, .int .u8 0, .int .u8 0, .int .u8 0, .int .u8 0, .int .u8 0, .int .u8 0], .slice none 0 0] : Array Value).toList 8 = some x ∧ Rows.uptoSmall H (x.1 ++ x.2.1) = true :=
  ⟨([.agg [.lit (.int .i64 0), .nil, .lit (.bool false), .lit (.int .u32 0), .lit (.int .u32 0), .lit (.int .u32 0), .nil, .nil, .agg [.lit (.int .i64 0), .lit (.int .u32 0), .agg [.lit (.bool false), .agg [.lit (.int .u8 0), .lit (.int .u8 0), .lit (.int .u8 0), .lit (.int .u8 0), .lit (.int .u8 0), .lit (.int .u8 0), .lit (.int .u8 0), .lit (.int .u8 0), .lit (.int .u8 0), .lit (.int .u8 0), .lit (.int .u8 0), .lit (.int .u8 0), .lit (.int .u8 0), .lit (.int .u8 0), .lit (.int .u8 0), .lit (.int .u8 0)]]]], .nil], [], []), by kernel_rfl, by kernel_rfl⟩
set_option maxHeartbeats 4000000 in
set_option maxRecDepth 100000 in
theorem lifted (os : Os) (started : os.Started) (H : Type) (enc : TypeId × Value → H) (F : Stop.Interp) :
    ReturnsInHanded {} Tryd.checked os 4 .any ((Rows.OpenSpec.upto Rows.attrBackSpec).preRow enc Tryd.prog Tryd.f4 Rows.attrBackUptoRow.domain false Rows.attrBackUptoRow.laid) (((Rows.OpenSpec.upto Rows.attrBackSpec).at F).post enc Tryd.prog Tryd.f4 false true false false) := by
  obtain ⟨x, hx, hxs⟩ := reads os enc
  refine returnsInHanded_of_row (C := Tryd.checked) (s := Rows.OpenSpec.upto Rows.attrBackSpec) own started (by kernel_rfl) Tryd.func4
    (witness_row_at (enc := enc) (C := Tryd.checked) false (World.laidAll Tryd.prog os laidK) #[.agg #[.int .i64 0, .slice none 0 0, .bool false, .int .u32 0, .int .u32 0, .int .u32 0, .slice none 0 0, .slice none 0 0, .int .i64 0, .int .u32 0, .bool false, .int .u8 0, .int .u8 0, .int .u8 0, .int .u8 0, .int .u8 0, .int .u8 0, .int .u8 0, .int .u8 0, .int .u8 0, .int .u8 0, .int .u8 0, .int .u8 0, .int .u8 0, .int .u8 0, .int .u8 0, .int .u8 0], .slice none 0 0] (World.laidAll_os _ _ _) (by kernel_rfl) (by kernel_rfl) (by kernel_rfl)
      (OpenSpec.preRow_of_cond 8 hx (by kernel_rfl) (fun k hk => by cases hk; exact hxs) (by kernel_rfl) (laidMet_laidAll _ (by kernel_rfl) (by kernel_rfl)))) ?_
  intro W base args ds gs before hval0 hW _ hcond _ hL0 hshape _
  have hval : ∀ (j : Nat) t v, Tryd.f4.params[j]? = some t → args[j]? = some v → Value.okWide Tryd.prog W .any base t v := hval0
  have hL : laidMetH Tryd.prog laidK W := hL0
  rw [MakeChecks.laidMetH_plain _ _ _ (by kernel_rfl)] at hL
  have E : EnvK W := envK_of hL
  have hW' := hW
  obtain ⟨p, q, hA0, hV, rfl, hfz, hnd⟩ := hW
  have hA : DataW.TrodAll enc Tryd.prog W 0 (fun _ => true) true Tryd.f4.params.toList args.toList ds p := hA0
  rw [Tryd.params4] at hA hval
  obtain ⟨v0, vs0, d0, ds0, p0, q0, hargs, rfl, rfl, h0, r0⟩ := trodAll_cons hA
  obtain ⟨v1, vs1, d1, ds1, p1, q1, rfl, rfl, rfl, h1, r1⟩ := trodAll_cons r0
  obtain ⟨rfl, rfl, rfl⟩ := trodAll_nil r1
  obtain rfl : args = #[v0, v1] := by cases args; simp_all
  obtain ⟨rfl, rfl⟩ := trodVars_none hV
  have hbulk := bulk_le (hcond _ rfl)
  simp only [List.append_nil] at hbulk
  have lt0 : ∀ x ∈ p0, x.block < W.heap.size := by obtain ⟨m, hm⟩ := h0; exact DataW.trod_lt m _ _ _ hm
  obtain ⟨cs0, at0, rfl, rda0, fit0, pl0, cl0, ml0⟩ := open_attrsc (hval 0 31 v0 rfl rfl) h0 (hbulk _ (by simp))
  obtain ⟨a1, len1, cap1, rfl⟩ := okWide_slice Tryd.underlying42 (hval 1 42 v1 rfl rfl)
  have lt1 : ∀ x ∈ p1, x.block < W.heap.size := by obtain ⟨m, hm⟩ := h1; exact DataW.trod_lt m _ _ _ hm
  obtain ⟨l1, rd1, sz1⟩ := open_bytesc Tryd.underlying42 Tryd.underlying5 (by kernel_rfl) h1 (hB := hbulk _ (by simp))
  clear hA0 hval0
  refine (attrBack_walk W E cs0 at0 a1 len1 cap1 l1 ⟨rda0, fit0⟩ rd1 sz1).mono fun e W' ⟨he, bel⟩ => ?_
  subst he
  exact ⟨_, rfl, _, _, _, [], _, [], hW', trodAll_mk1 (shut_bool Tryd.underlying4 _), (trodAll_cons_mk (Below.trod laidOut (by kernel_rfl) (of_decide_eq_true (by kernel_rfl)) h0 bel lt0) (trodAll_cons_mk (Below.trod laidOut (by kernel_rfl) (of_decide_eq_true (by kernel_rfl)) h1 bel lt1) trodAll_mk0)), rfl, bel.frame _, fun h => by cases h⟩

theorem over : Rows.attrBackUptoRow.holds Tryd.pinned (Rows.OpenSpec.upto Rows.attrBackSpec) :=
  OpenClaim.holds_of_cond 4 Tryd.f4 rfl rfl rfl rfl rfl rfl rfl ⟨rfl, rfl, rfl, rfl, rfl⟩ rfl rfl rfl rfl rfl (by kernel_rfl) Tryd.func4 (by kernel_rfl)
    (of_decide_eq_true (by kernel_rfl)) (by unfold Func.isWrapper; first | (rw [if_pos (by decide +kernel)]; kernel_rfl) | (rw [if_neg (by decide +kernel)]; exact ⟨rfl, rfl⟩))
    (fun os started H enc _ F => by rw [OpenClaim.pre_eq_preRow]; exact lifted os started H enc F)

theorem proved : Rows.AttrBackUptoCardSaid :=
  Claim7.holds_tied_plain_at .later [] [.data] true Rows.attrBackUptoCard.stood.harness false
    over (fun _ h => by cases h) (by kernel_rfl) (fun _ h => by cases h) attrBackUpto_row_tie rfl ⟨rfl, rfl⟩ (by kernel_rfl) rfl
    (fun f fn hf hfn => by
      obtain rfl : f = 4 := Option.some.inj ((show Tryd.prog.funcNamed "weft/weftlaw05.AttrBack" = some 4 by kernel_rfl).symm.trans hf) |>.symm
      obtain rfl : fn = Tryd.f4 := (Option.some.inj (Tryd.func4.symm.trans hfn)).symm
      exact ⟨by kernel_rfl, fun j t ht => by
        rw [Tryd.params4] at ht
        have hm : t ∈ [31, 42] := by simpa using Array.mem_of_getElem? ht
        have hall : ([31, 42].all fun u => !Tryd.prog.wantsStandIn u) = true := by kernel_rfl
        exact (show Tryd.prog.wantsStandIn t = false by simpa using List.all_eq_true.1 hall t hm)⟩)
    (by kernel_rfl)
#print axioms proved
end Go.Proofs.YtickcfcncpnaiaaDoor.attrBack
