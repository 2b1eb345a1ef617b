/-
  NlriPuts: for every input the law returns true, and each argument reads behind the call as it read before. No condition.
-/
import Derived.Test.YtickcfcncpnaiaaME
import Derived.Test.YtickcfcncpnaiaaMB
import Derived.Test.YtickcfcncpnaiaaMR
import Derived.Test.YtickcfcncpnaiaaRows
import Derived.Test.YtickcfcncpnaiaaMX
import Derived.WalkKit
import Derived.ProofKit
import Derived.OpenShut
import Derived.ShutString
import Derived.ChangeOld
import Derived.SizedLaws
import Derived.Below
import Derived.Deep.CondSized
namespace Go.Proofs.Ytickcfcncpnaiaa
open Go.RowKit
set_option maxRecDepth 100000
set_option linter.unusedSimpArgs false
set_option linter.unusedVariables false

/-- Spoil of bytes in one block that are not frozen: nothing but that block turns. -/
def U8At (w : World) (g n : Nat) : Prop := ∀ i, i < n → (∃ x : Int, 0 ≤ x ∧ x < 256 ∧ w.cell? ⟨g, i, none⟩ = some (.int .u8 x)) ∧ w.frozen? ⟨g, i, none⟩ = false
theorem U8At.set_ {w : World} {g n : Nat} (h : U8At w g n) (k : Nat) {x : Int} (h0 : 0 ≤ x) (h1 : x < 256) : U8At (w.setCell ⟨g, k, none⟩ (.int .u8 x)) g n := by
  intro i hi
  obtain ⟨⟨y, y0, y1, hy⟩, hf⟩ := h i hi
  refine ⟨?_, by simpa using hf⟩
  by_cases hk : i = k
  · subst hk
    exact ⟨x, h0, h1, World.cell?_setCell_same _ _ _ hy⟩
  · exact ⟨y, y0, y1, by rw [World.cell?_setCell_other _ _ _ _ (fun e => hk (by injection e with _ e2; exact e2.symm))]; exact hy⟩
set_option maxHeartbeats 1000000 in
theorem spoil_at (w : World) (g n c : Nat) (h : U8At w g n) (hm : n ≤ 281474976710656) :
    Calls Try.prog 12 #[.slice (some ⟨g, 0, none⟩) n c] w fun e w' => e = .returned (.tuple #[]) ∧ w.grownBy w' (some g) := by
  have H := Lib.hid h
  clear h
  go_enter Try.func12, Try.ntmps12
  go_wp2
  go_loopw [2, 5] (fun _ i wr => ∃ k : Nat, k ≤ n ∧ i = .int .i64 k ∧ U8At wr g n ∧ w.grownBy wr (some g)) (fun _ i _ => n - (intOf i).toNat)
  case atStart => exact ⟨0, Nat.zero_le _, rfl, H.out, only_refl w _⟩
  case round =>
    obtain ⟨k, hk, rfl, hr, hg⟩ := hrel
    have H1 := Lib.hid hr
    have H2 := Lib.hid hg
    by_cases hlt : k < n
    · obtain ⟨⟨x, x0, x1, hc⟩, hf⟩ := hr k hlt
      clear hg hr
      go_wp2
      exact ⟨⟨k + 1, by omega, by go_num, H1.out.set_ k (xor_u8_bd _ _).1 (xor_u8_bd _ _).2, only_setCell H2.out (.inl rfl) _⟩, by simp [intOf]; omega⟩
    · clear hr hg
      go_wp2
      go_end0
      exact ⟨rfl, H2.out⟩
/-- Spoil of bytes of the call's own. -/
theorem spoil_own (lo : Nat) (w : World) (A : Option Addr) (n c : Nat) (l : List Int) (h : OwnB lo w (.slice A n c) l) (hm : n ≤ 281474976710656) (hlo : lo ≤ w.heap.size) :
    Calls Try.prog 12 #[.slice A n c] w fun e w' => e = .returned (.tuple #[]) ∧ Below lo w w' := by
  obtain ⟨A', c', e, _, hr, hg⟩ := h.at_
  injection e with e1 e2 e3
  subst e1 e2 e3
  rcases Nat.eq_zero_or_pos l.length with h0 | h0
  · rw [h0]
    refine (spoil_none w A c).mono ?_
    rintro e w' ⟨rfl, rfl⟩
    exact ⟨rfl, Below.refl _ _⟩
  · obtain ⟨g, rfl, hlg, hgs, hfz⟩ := hg h0
    refine (spoil_at w g l.length c (fun i hi => ?_) hm).mono ?_
    · obtain ⟨b, off, e, _, hc⟩ := hr.at_ h0
      injection e with e
      injection e with e1 e2
      subst e1 e2
      have := hc i hi
      rw [Nat.zero_add] at this
      exact ⟨⟨_, (h.oct.getD i).1, (h.oct.getD i).2, this⟩, hfz i⟩
    · rintro e w' ⟨rfl, hgr⟩
      exact ⟨rfl, (Below.refl _ _).grown hgr hlo (fun j e => by injection e with e; omega)⟩

theorem errR_two (r : Rt) : errR r = 0 ∨ errR r = 2 := by
  unfold errR
  split
  · exact .inl rfl
  · exact .inr rfl

set_option maxHeartbeats 8000000 in
theorem nlriPuts_walk (w : World) (A : Option Addr) (m c : Nat) (l : List Int) (r : Rt) (hb : Rd w w.heap.size A m l) (hm : m ≤ 140737488351232) (hr : RtOk r) :
    Calls Try.prog 3 #[.slice A m c, .agg (rtc r).toArray] w fun e w' => e = .returned (.bool true) ∧ Below w.heap.size w w' := by
  have HR := Lib.hid hr
  have HL := Lib.hid hb
  have hlen := hb.len
  have HA := Lib.hid (show RtAt (w.alloc (.cells (rtc r).toArray 36)) w.heap.size r ∧ Below w.heap.size w (w.alloc (.cells (rtc r).toArray 36)) from ⟨RtAt.new w r hr 36, (Below.refl w.heap.size w).alloc (Nat.le_refl _) _⟩)
  have hsz : (w.alloc (.cells (rtc r).toArray 36)).heap.size = w.heap.size + 1 := by simp
  have HSz := Lib.hid hsz
  have HXl : Hid ((if rightR r then l ++ putR r else []).length ≤ m + 102) := Lib.hid (by
    have := bodyR_le hr
    split
    · simp [putR]; omega
    · simp)
  clear hr hb hsz
  go_enter Try.func3, Try.ntmps3
  go_wp2_with fail
  refine (lent_is _ A m c l ((HL.out.below HA.out.2).more HA.out.2.size) (by omega)).mono ?_
  rintro e w1 ⟨rfl, hb1, hB1⟩
  rw [HSz.out] at hb1
  try rw [HSz.out]
  have HO := Lib.hid hb1
  have HS1 := Lib.hid (HA.out.1.below hB1 HA.out.1.lt)
  have HB1 := Lib.hid (HA.out.2.trans (hB1.mono HA.out.2.size))
  have HL1 := Lib.hid (HL.out.below HB1.out)
  have hr1 : Rd w1 w1.heap.size (some ⟨w.heap.size + 1, 0, none⟩) m l := by
    have hoct := HL.out.oct
    have := HO.out.rd (B := w1.heap.size) (k := m) (by
      intro x hx
      rcases List.mem_append.1 hx with hx | hx
      · exact hoct x hx
      · simp at hx; omega) (by simp; omega) HO.out.lt
    rwa [← hlen, List.take_left, hlen] at this
  have Hr1 := Lib.hid hr1
  clear hb1 hB1 hr1 HA HL HSz
  go_wp2_with (first | (refine rt_fetch rfl _ rfl w.heap.size r HR.out rfl HS1.out ?_) | fail)
  refine (putNl_is w1 (some ⟨w.heap.size + 1, 0, none⟩) m (m + 2) l r HR.out Hr1.out (by omega)).mono ?_
  rintro e w2 ⟨x, rfl, hX, hB2⟩
  have HX := Lib.hid hX
  have HB2 := Lib.hid hB2
  have HS2 := Lib.hid (HS1.out.below hB2 HS1.out.lt)
  have HL2 := Lib.hid ((HL1.out.below (hB2.mono HB1.out.size)).more (Nat.le_trans HB1.out.size hB2.size))
  clear hX hB2 Hr1
  go_wp2_with (first | (refine rt_fetch rfl _ rfl w.heap.size r HR.out rfl HS2.out ?_) | fail)
  refine (rput6_is w2 A m c l r HR.out HL2.out (by omega)).mono ?_
  rintro e w3 ⟨y, rfl, hY, hB3⟩
  have hX3 := HX.out.below hB3
  have hS3 := HS2.out.below hB3 HS2.out.lt
  have hBB := HB2.out.trans (hB3.mono HB2.out.size)
  generalize (if rightR r then l ++ putR r else []) = X at *
  obtain ⟨Ay, cy, rfl, _, hry, _⟩ := hY.at_
  have hxx := hX3
  obtain ⟨Ax, cx, rfl, _, hrx, _⟩ := hxx.at_
  have HX3 := Lib.hid hX3
  have HS3 := Lib.hid hS3
  have HBB := Lib.hid hBB
  have HRx := Lib.hid hrx
  have HRy := Lib.hid hry
  have HRi1 := Lib.hid (fun W => rightRt_is W r HR.out)
  have HRi2 := Lib.hid (fun W => rright_is W r HR.out)
  clear hX3 hS3 hBB hrx hry hxx HX hY hB3 HS2 HL2 HB2 HS1
  rcases errR_two r with he | he
  all_goals
    rw [he] at HRi1 HRi2 ⊢
    clear he
    go_wp2
    refine wp_region_held_drew (S := fun W => Below w3.heap.size w3 W) (by kernel_rfl) (below_drewN (Below.refl _ _) 1) (fun hS => ?_)
    refine wpAnyH_take (i := 0) (oi := ⟨some 24, _, _, _, _, _⟩) (v := ?_) rfl (by kernel_rfl) (by kernel_rfl) (by kernel_rfl) (fun _ _ _ h => h) (Or.inl ⟨by rfl, ?_⟩) hS ?_
    rotate_left
    · intro wq hq
      first | (go_simp; done) | (go_simp; rfl)
    try simp only [Act.put, List.setIfInBounds_toArray, List.set_cons_zero, List.set_cons_succ]
    refine wpAnyH_take (i := 1) (oi := ⟨some 25, _, _, _, _, _⟩) (v := ?_) rfl (by kernel_rfl) (by kernel_rfl) (by kernel_rfl) (fun _ _ _ h => h) (Or.inl ⟨by rfl, ?_⟩) hS ?_
    rotate_left
    · intro wq hq
      first | (go_simp; done) | (go_simp; rfl)
    try simp only [Act.put, List.setIfInBounds_toArray, List.set_cons_zero, List.set_cons_succ]
    refine wpAnyH_take (i := 2) (oi := ⟨some 26, _, _, _, _, _⟩) (v := ?_) rfl (by kernel_rfl) (by kernel_rfl) (by kernel_rfl) (fun _ _ _ h => h) (Or.inl ⟨by rfl, ?_⟩) hS ?_
    rotate_left
    · intro wq hq
      first | (go_simp; done) | (go_simp; rfl)
    try simp only [Act.put, List.setIfInBounds_toArray, List.set_cons_zero, List.set_cons_succ]
    refine wpAnyH_take (i := 3) (oi := ⟨some 27, _, _, _, _, _⟩) (v := ?_) rfl (by kernel_rfl) (by kernel_rfl) (by kernel_rfl) (fun _ _ _ h => h) (Or.inl ⟨by rfl, ?_⟩) hS ?_
    rotate_left
    · intro wq hq
      first | (go_simp; done) | (go_simp; rfl)
    try simp only [Act.put, List.setIfInBounds_toArray, List.set_cons_zero, List.set_cons_succ]
    refine wpAnyH_take (i := 4) (oi := ⟨some 28, _, _, _, _, _⟩) (v := ?_) rfl (by kernel_rfl) (by kernel_rfl) (by kernel_rfl) (fun _ _ _ h => h) (Or.inl ⟨by rfl, ?_⟩) hS ?_
    rotate_left
    · intro wq hq
      first | (go_simp; done) | (go_simp; rfl)
    try simp only [Act.put, List.setIfInBounds_toArray, List.set_cons_zero, List.set_cons_succ]
    refine wpAnyH_take (i := 5) (oi := ⟨some 29, _, _, _, _, _⟩) (v := ?_) rfl (by kernel_rfl) (by kernel_rfl) (by kernel_rfl) (fun _ _ _ h => h) (Or.inl ⟨by rfl, ?_⟩) hS ?_
    rotate_left
    · intro wq hq
      first | (go_simp; done) | (go_simp; rfl)
    try simp only [Act.put, List.setIfInBounds_toArray, List.set_cons_zero, List.set_cons_succ]
    refine wpAnyH_ready (rs := [6]) (by kernel_rfl) (by simp) ?_
    refine AllReadyH.cons (o := ⟨some 30, _, _, _, _, _⟩) rfl (fun K hK => ?_) AllReadyH.nil
    rw [if_pos (by rfl)]
    go_wp2_with fail
    refine (same_is _ w3.heap.size Ax Ay X.length X.length cx cy X X (HRx.out.below hS) (HRy.out.below hS) true (by simp)).mono ?_
    rintro e w4 ⟨rfl, rfl⟩
    have hS4 := hS
    clear hS
    refine hK.out _ _ (hS4) (fun hS => ?_)
    clear hK K
    try simp only [Act.put, List.setIfInBounds_toArray, List.set_cons_zero, List.set_cons_succ]
    clear hS4
    refine wpAnyH_take (i := 7) (oi := ⟨some 31, _, _, _, _, _⟩) (v := ?_) rfl (by kernel_rfl) (by kernel_rfl) (by kernel_rfl) (fun _ _ _ h => h) (Or.inl ⟨by rfl, ?_⟩) hS ?_
    rotate_left
    · intro wq hq
      first | (go_simp; done) | (go_simp; rfl)
    try simp only [Act.put, List.setIfInBounds_toArray, List.set_cons_zero, List.set_cons_succ]
    refine wpAnyH_take (i := 8) (oi := ⟨some 32, _, _, _, _, _⟩) (v := ?_) rfl (by kernel_rfl) (by kernel_rfl) (by kernel_rfl) (fun _ _ _ h => h) (Or.inl ⟨by rfl, ?_⟩) hS ?_
    rotate_left
    · intro wq hq
      first | (go_simp; done) | (go_simp; rfl)
    try simp only [Act.put, List.setIfInBounds_toArray, List.set_cons_zero, List.set_cons_succ]
    refine wpAnyH_take (i := 9) (oi := ⟨some 33, _, _, _, _, _⟩) (v := ?_) rfl (by kernel_rfl) (by kernel_rfl) (by kernel_rfl) (fun _ _ _ h => h) (Or.inl ⟨by rfl, ?_⟩) hS ?_
    rotate_left
    · intro wq hq
      first | (go_simp; done) | (go_simp; rfl)
    try simp only [Act.put, List.setIfInBounds_toArray, List.set_cons_zero, List.set_cons_succ]
    refine wpAnyH_take (i := 10) (oi := ⟨some 34, _, _, _, _, _⟩) rfl (by kernel_rfl) (by kernel_rfl) (by kernel_rfl) (fun _ _ _ h => h) (yieldsIf_load_mid (by rfl) 36 _ rfl _ _ rfl (rtc r) _ (fun wq hq => (HS3.out.below hq HS3.out.lt).rng) Try.underlying36 rfl (by rw [rt_size, rtc_len HR.out])) hS ?_
    try simp only [Act.put, List.setIfInBounds_toArray, List.set_cons_zero, List.set_cons_succ]
    refine wpAnyH_take (i := 12) (oi := ⟨some 36, _, _, _, _, _⟩) rfl (by kernel_rfl) (by kernel_rfl) (by kernel_rfl) (fun _ _ _ h => h) (yieldsIf_load_mid (by rfl) 36 _ rfl _ _ rfl (rtc r) _ (fun wq hq => (HS3.out.below hq HS3.out.lt).rng) Try.underlying36 rfl (by rw [rt_size, rtc_len HR.out])) hS ?_
    try simp only [Act.put, List.setIfInBounds_toArray, List.set_cons_zero, List.set_cons_succ]
    refine wpAnyH_ready (rs := [11]) (by kernel_rfl) (by simp) ?_
    refine AllReadyH.cons (o := ⟨some 35, _, _, _, _, _⟩) rfl (fun K hK => ?_) AllReadyH.nil
    rw [if_pos (by rfl)]
    go_wp2_with fail
    refine (HRi1.out _).mono ?_
    rintro e w5 ⟨rfl, hB5⟩
    have hS5 := hS.trans (hB5.mono hS.size)
    clear hB5 hS
    refine hK.out _ _ (hS5) (fun hS => ?_)
    clear hK K
    try simp only [Act.put, List.setIfInBounds_toArray, List.set_cons_zero, List.set_cons_succ]
    clear hS5
    refine wpAnyH_ready (rs := [13]) (by kernel_rfl) (by simp) ?_
    refine AllReadyH.cons (o := ⟨some 37, _, _, _, _, _⟩) rfl (fun K hK => ?_) AllReadyH.nil
    rw [if_pos (by rfl)]
    go_wp2_with fail
    refine (HRi2.out _).mono ?_
    rintro e w6 ⟨rfl, hB6⟩
    have hS6 := hS.trans (hB6.mono hS.size)
    clear hB6 hS
    refine hK.out _ _ (hS6) (fun hS => ?_)
    clear hK K
    try simp only [Act.put, List.setIfInBounds_toArray, List.set_cons_zero, List.set_cons_succ]
    clear hS6
    refine wpAnyH_take (i := 14) (oi := ⟨some 38, _, _, _, _, _⟩) (v := ?_) rfl (by kernel_rfl) (by kernel_rfl) (by kernel_rfl) (fun _ _ _ h => h) (Or.inl ⟨by rfl, ?_⟩) hS ?_
    rotate_left
    · intro wq hq
      first | (go_simp; done) | (go_simp; rfl)
    try simp only [Act.put, List.setIfInBounds_toArray, List.set_cons_zero, List.set_cons_succ]
    refine wpAnyH_take (i := 15) (oi := ⟨some 39, _, _, _, _, _⟩) (v := ?_) rfl (by kernel_rfl) (by kernel_rfl) (by kernel_rfl) (fun _ _ _ h => h) (Or.inl ⟨by rfl, ?_⟩) hS ?_
    rotate_left
    · intro wq hq
      first | (go_simp; done) | (go_simp; rfl)
    try simp only [Act.put, List.setIfInBounds_toArray, List.set_cons_zero, List.set_cons_succ]
    refine wpAnyH_done (by kernel_rfl) ?_ _
    have HBS := Lib.hid hS
    have HX6 := Lib.hid (HX3.out.below hS)
    clear hS
    go_wp2_with fail
    refine (spoil_own w1.heap.size w6 Ax _ cx X HX6.out (by have := HXl.out; omega) (Nat.le_trans HBB.out.size HBS.out.size)).mono ?_
    rintro e w7 ⟨rfl, hB7⟩
    have hB17 : Below w1.heap.size w1 w7 := (HBB.out.trans (HBS.out.mono HBB.out.size)).trans hB7
    have HO7 := Lib.hid (HO.out.below hB17 HO.out.lt)
    have HL7 := Lib.hid (HL1.out.below (hB17.mono HB1.out.size))
    have HB7 := Lib.hid (HB1.out.trans (hB17.mono HB1.out.size))
    clear hB7 hB17
    go_wp2_with fail
    refine (kept_is w7 (w.heap.size + 1) w.heap.size A m c l HO7.out HL7.out (by omega)).mono ?_
    rintro e w8 ⟨rfl, rfl⟩
    go_wp2_with fail
    refine (aliveN_is _).mono ?_
    rintro e w9 ⟨rfl, hB9⟩
    have HB9 := Lib.hid (HB7.out.trans (hB9.mono HB7.out.size))
    clear hB9
    go_wp2
    go_ret
    exact ⟨rfl, HB9.out⟩
end Go.Proofs.Ytickcfcncpnaiaa
namespace Go.Proofs.Ytickcfcncpnaiaa.nlriPuts
open Go.ChangeShapes Go.WideShapes Go.ChangeAt Go.RowKit
open Go.ChangeMaps (open_string shut_string)
set_option linter.unusedVariables false

theorem own : ownKnob Try.prog.godebug = none := by kernel_rfl
theorem laidOut : laidOutB Try.prog = true := by kernel_rfl

set_option maxRecDepth 100000 in
theorem lifted (os : Os) (started : os.Started) (H : Type) (enc : TypeId × Value → H) :
    ReturnsInHanded {} Try.checked os 3 .any (Rows.nlriPutsSpec.pre6 enc Try.prog Try.f3 Rows.nlriPutsRow.domain false) (Rows.nlriPutsSpec.post enc Try.prog Try.f3 false true false false) := by
  refine returnsInHanded_of_change_sized (C := Try.checked) own started (by kernel_rfl) Try.func3
    (ChangeSpec.witness6 (enc := enc) (C := Try.checked) false ⟨#[], #[.slice none 0 0, .agg #[.int .i64 0, .int .u8 0, .int .u8 0, .int .u8 0, .int .u8 0, .int .u8 0, .int .u8 0, .int .u8 0, .int .u8 0, .int .u8 0, .int .u8 0, .int .u8 0, .int .u8 0, .int .u8 0, .int .u8 0, .int .u8 0, .int .u8 0, .int .u8 0, .int .u8 0, .int .u32 0, .int .u8 0, .int .u8 0, .int .u8 0, .int .u8 0, .int .u8 0, .int .u8 0, .bool false, .int .u8 0, .int .u8 0, .int .u8 0, .int .u8 0, .int .u8 0, .int .u8 0, .int .u8 0, .int .u8 0, .int .u8 0, .int .u8 0, .int .u8 0, .int .u8 0, .int .u8 0, .int .u8 0, .int .u8 0, .int .u8 0, .int .i64 0, .bool false, .int .u8 0, .int .u8 0, .int .u8 0, .int .u8 0, .int .u8 0, .int .u8 0, .int .u8 0, .int .u8 0, .int .u8 0, .int .u8 0, .int .u8 0, .int .u8 0, .int .u8 0, .int .u8 0, .int .u8 0, .int .u8 0, .int .u32 0, .int .u32 0]], []⟩ 8 (by kernel_rfl) (by kernel_rfl) (by kernel_rfl) (by kernel_rfl)) ?_
  intro W base args ds gs before hval0 hW hcnd hsz0 _
  have hval : ∀ (j : Nat) t v, Try.f3.params[j]? = some t → args[j]? = some v → Value.okWide Try.prog W .any base t v := hval0
  have hsz : (DataW.weightsEach Try.prog (Try.f3.params.toList ++ Rows.nlriPutsSpec.plain.varTypes Try.prog) (ds ++ gs)).all (· ≤ reachBytes) = true := hsz0
  have hW' := hW
  obtain ⟨p, q, hA0, hV, rfl, hfz, hnd⟩ := hW
  have hA : DataW.TrodAll enc Try.prog W 0 (fun _ => true) true Try.f3.params.toList args.toList ds p := hA0
  rw [Try.params3] at hA hval hsz
  obtain ⟨v0, vs0, d0, ds0, p0, q0, hargs, rfl, rfl, h0, r0⟩ := trodAll_cons hA
  obtain ⟨v1, vs1, d1, ds1, p1, q1, rfl, rfl, rfl, h1, r1⟩ := trodAll_cons r0
  obtain ⟨rfl, rfl, rfl⟩ := trodAll_nil r1
  obtain rfl : args = #[v0, v1] := by cases args; simp_all
  obtain ⟨rfl, rfl⟩ := trodVars_none hV
  obtain ⟨a0, len0, cap0, rfl⟩ := okWide_slice Try.underlying22 (hval 0 22 v0 rfl rfl)
  have lt0 : ∀ x ∈ p0, x.block < W.heap.size := by obtain ⟨m, hm⟩ := h0; exact DataW.trod_lt m _ _ _ hm
  obtain ⟨l0, rd0, sz0⟩ := open_bytes Try.underlying22 Try.underlying5 (by kernel_rfl) (by kernel_rfl) h0 hsz (j := 0) rfl rfl
  have lt1 : ∀ x ∈ p1, x.block < W.heap.size := by obtain ⟨m, hm⟩ := h1; exact DataW.trod_lt m _ _ _ hm
  obtain ⟨x1, rfl, ok1⟩ := open_rt (hval 1 36 v1 rfl rfl) h1
  clear hA0 hval0 hsz hsz0
  refine (nlriPuts_walk W a0 len0 cap0 l0 x1 rd0 sz0 ok1).mono fun e W' ⟨he, bel⟩ => ?_
  subst he
  exact ⟨_, rfl, _, _, _, [], _, [], hW', trodAll_mk1 (shut_bool Try.underlying4 _), (trodAll_cons_mk (Below.trod laidOut (by kernel_rfl) (of_decide_eq_true (by kernel_rfl)) h0 bel lt0) (trodAll_cons_mk (Below.trod laidOut (by kernel_rfl) (of_decide_eq_true (by kernel_rfl)) h1 bel lt1) trodAll_mk0)), rfl, bel.frame _, fun h => by cases h⟩

theorem over : Rows.nlriPutsRow.holds Try.pinned (OpenSpec.ofChange Rows.nlriPutsSpec) :=
  OpenClaim.holds_of_wide 3 Try.f3 rfl rfl rfl rfl rfl rfl rfl ⟨rfl, rfl, rfl, rfl, rfl⟩ rfl rfl rfl rfl rfl (by kernel_rfl) Try.func3 (by kernel_rfl)
    (of_decide_eq_true (by kernel_rfl)) (by unfold Func.isWrapper; first | (rw [if_pos (by decide +kernel)]; kernel_rfl) | (rw [if_neg (by decide +kernel)]; exact ⟨rfl, rfl⟩))
    (fun os started H enc _ => lifted os started H enc)

theorem proved : Rows.NlriPutsSaid := over
#print axioms proved
end Go.Proofs.Ytickcfcncpnaiaa.nlriPuts
