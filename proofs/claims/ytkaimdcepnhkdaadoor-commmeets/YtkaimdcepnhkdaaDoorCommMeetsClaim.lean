/-
  CommMeets: for every input the law returns true, and each argument reads behind the call as it read before; the library's variables as the program's text lays them.
-/
import Derived.Test.YtkaimdcepnhkdaaDoorML
import Derived.Test.YtkaimdcepnhkdaaDoorTie
import Derived.Test.YtkaimdcepnhkdaaDoorCards
import Derived.Test.YtkaimdcepnhkdaaDoorMX
import Derived.WalkKit
import Derived.OpenShut
import Derived.ShutString
import Derived.ChangeOld
import Derived.Below
import Derived.LaidOnce
import Derived.SevenTiedAt
namespace Go.Proofs.YtkaimdcepnhkdaaDoor
open Go.RowKit
set_option linter.unusedSimpArgs false
set_option linter.unusedVariables false

theorem meets_iff (a b : List (List Int)) : meets a b = true ↔ ∃ c, c ∈ a ∧ isT c = true ∧ c ∈ b := by
  unfold meets
  rw [List.any_eq_true]
  simp
theorem meets_turn (a b : List (List Int)) : meets b a = meets a b := by
  rw [Bool.eq_iff_iff, meets_iff, meets_iff]
  exact ⟨fun ⟨c, h1, h2, h3⟩ => ⟨c, h3, h2, h1⟩, fun ⟨c, h1, h2, h3⟩ => ⟨c, h3, h2, h1⟩⟩
theorem meets_cut (a b : List (List Int)) : meets (a.filter isT) (b.filter isT) = meets a b := by
  rw [Bool.eq_iff_iff, meets_iff, meets_iff]
  exact ⟨fun ⟨c, h1, h2, h3⟩ => ⟨c, (List.mem_filter.1 h1).1, h2, (List.mem_filter.1 h3).1⟩, fun ⟨c, h1, h2, h3⟩ => ⟨c, List.mem_filter.2 ⟨h1, h2⟩, h2, List.mem_filter.2 ⟨h3, h2⟩⟩⟩
/-- Both lists, and the library's variables. -/
structure TwoC (w0 w : World) (A1 A2 : Option Addr) (n1 n2 : Nat) (la lb : List (List Int)) : Prop where
  a : RdC w w0.heap.size A1 n1 la
  b : RdC w w0.heap.size A2 n2 lb
  low : Below w0.heap.size w0 w
  env : Env w
theorem TwoC.below {w0 w w' : World} {A1 A2 : Option Addr} {n1 n2 : Nat} {la lb : List (List Int)} (h : TwoC w0 w A1 A2 n1 n2 la lb) (hB : Below w.heap.size w w') : TwoC w0 w' A1 A2 n1 n2 la lb :=
  ⟨h.a.below (hB.mono h.low.size), h.b.below (hB.mono h.low.size), h.low.trans (hB.mono h.low.size), h.env.below hB⟩
theorem TwoC.a' {w0 w : World} {A1 A2 : Option Addr} {n1 n2 : Nat} {la lb : List (List Int)} (h : TwoC w0 w A1 A2 n1 n2 la lb) : RdC w w.heap.size A1 n1 la := h.a.mono h.low.size
theorem TwoC.b' {w0 w : World} {A1 A2 : Option Addr} {n1 n2 : Nat} {la lb : List (List Int)} (h : TwoC w0 w A1 A2 n1 n2 la lb) : RdC w w.heap.size A2 n2 lb := h.b.mono h.low.size
theorem comm_load {ops : Array Oper} {rest : List Oper} {op : Oper} {a : Act} {w : World} {Q : Exit → Act → World → Prop} (hg : op.guard = none) (x : Operand) (ho : op.op = .load 52 x) (b : Nat) (o : Nat) (l : List Int) (hl : l.length = 8)
    (hx : a.eval x = .pointer (some ⟨b, o, none⟩)) (hc : w.rangeAt b o (u8s l)) (h : wpList Tryd.prog ops Q rest (a.put op.dst (.agg (u8s l).toArray)) w) : wpList Tryd.prog ops Q (op :: rest) a w :=
  comm_fetch (by unfold Region.wanted; rw [hg]) x ho b o l hl hx hc h
theorem comm_storeP {ops : Array Oper} {rest : List Oper} {o : Oper} {a : Act} {w : World} {Q : Exit → Act → World → Prop} (hgd : o.guard = none) (x y : Operand) (ho : o.op = .store 52 x y) (g : Nat) (l : List Int) (hl : l.length = 8)
    (hx : a.eval x = .pointer (some ⟨g, 0, none⟩)) (hy : a.eval y = .agg (u8s l).toArray) (t : TypeId) (old : Array Value) (hg : Blk w g t old) (hold : old.size = 8) (Pr : World → Prop) (hP : Pr (w.setRow g (u8s l).toArray))
    (h : ∀ w', Pr w' → wpList Tryd.prog ops Q rest (a.put o.dst undef) w') : wpList Tryd.prog ops Q (o :: rest) a w :=
  comm_store hgd x y ho g l hl hx hy t old hg hold (h _ hP)
theorem fd_kind (f : Fd) (hf : f.mac.length = 6) (w : World) : (Instr.field 63 (.agg (fdA f)) 0).run Tryd.prog w = .ok (.int .i64 f.kind) w := by
  obtain ⟨k, fm, a, n, fl, m⟩ := f
  obtain ⟨x0, x1, x2, x3, x4, x5, rfl⟩ : ∃ x0 x1 x2 x3 x4 x5, m = [x0, x1, x2, x3, x4, x5] := by
    match m, hf with
    | [x0, x1, x2, x3, x4, x5], _ => exact ⟨x0, x1, x2, x3, x4, x5, rfl⟩
  clear hf
  kernel_rfl
set_option maxHeartbeats 2000000 in
set_option maxRecDepth 100000 in
theorem cmeets_walk (w : World) (E : Env w) (A1 A2 : Option Addr) (n1 n2 c1 c2 : Nat) (la lb : List (List Int)) (ha : RdC w w.heap.size A1 n1 la) (hb : RdC w w.heap.size A2 n2 lb) (h1 : n1 ≤ 140737488351232) (h2 : n2 ≤ 140737488351232) :
    Calls Tryd.prog 10 #[.slice A1 n1 c1, .slice A2 n2 c2] w fun e w' => e = .returned (.bool true) ∧ Below w.heap.size w w' := by
  have HC : Hid (TwoC w w A1 A2 n1 n2 la lb) := Lib.hid ⟨ha, hb, Below.refl _ _, E⟩
  have hlA := ha.len
  have hlB := hb.len
  clear ha hb
  by_cases b1 : 2000 < n1
  · have t1 : (2000 : Int) < n1 := by omega
    go_enter Tryd.func10, Tryd.ntmps10
    go_wp2_with fail
    refine (alive4_is _ HC.out.env).mono ?_
    rintro e w9 ⟨rfl, hB⟩
    go_wp2
    go_ret
    exact ⟨rfl, hB⟩
  by_cases b2 : 2000 < n2
  · have t1 : ¬ (2000 : Int) < n1 := by omega
    have t2 : (2000 : Int) < n2 := by omega
    go_enter Tryd.func10, Tryd.ntmps10
    go_wp2_with fail
    refine (alive4_is _ HC.out.env).mono ?_
    rintro e w9 ⟨rfl, hB⟩
    go_wp2
    go_ret
    exact ⟨rfl, hB⟩
  have t1 : ¬ (2000 : Int) < n1 := by omega
  have t2 : ¬ (2000 : Int) < n2 := by omega
  go_enter Tryd.func10, Tryd.ntmps10
  go_wp2_with fail
  go_loopw [5, 7, 19] (fun v _ i wr => ∃ m : Nat, m ≤ n1 ∧ i = .int .i64 m ∧ v = .bool (meets (la.take m) lb) ∧ TwoC w wr A1 A2 n1 n2 la lb) (fun _ _ i _ => n1 - (intOf i).toNat)
  case atStart => exact ⟨0, Nat.zero_le _, rfl, rfl, HC.out⟩
  case round =>
    obtain ⟨m, hm, rfl, rfl, hC⟩ := hrel
    clear HC
    by_cases hlt : m < n1
    · obtain ⟨b, off, rfl, hbl, hcell⟩ := hC.a.at_ (by omega)
      have hml : m < la.length := by omega
      have ok := hC.a.ok.at_ m hml
      have HCl := Lib.hid (hcell m hml)
      have HM := Lib.hid (List.take_succ_eq_append_getElem hml)
      clear hcell
      generalize la[m] = y at *
      obtain ⟨nb, s0, s1⟩ := new_comm hC.low y
      have HN := Lib.hid (Blk.new wr 52 zc8)
      have HB1 := Lib.hid nb
      have HC1 := Lib.hid (hC.below s1)
      clear nb s0 s1 hC
      have HX := Lib.hid (meets_snoc (la.take m) y lb)
      cases hW : meets (la.take m) lb with
      | true =>
        rw [hW] at HX
        clear hW
        go_wp2_with (first
          | (refine comm_load rfl _ rfl b (off + m * 8) y ok.1 rfl HCl.out ?_)
          | (refine comm_storeP rfl _ _ rfl wr.heap.size y ok.1 rfl rfl 52 zc8 HN.out rfl (fun w' => Blk w' wr.heap.size 52 (u8s y).toArray ∧ TwoC w w' (some ⟨b, off, none⟩) A2 n1 n2 la lb) ⟨HB1.out, HC1.out⟩ ?_; intro wn hwn; clear HCl HN HB1 HC1; go_wp2; (refine ⟨⟨m + 1, by omega, by go_num, ?_, hwn.2⟩, by simp [intOf]; omega⟩); rw [HM.out, HX.out]; rfl))
      | false =>
        rw [hW] at HX
        clear hW
        have hk := fd_kind (rdF y) (rdF_mac y ok.1)
        have HI := Lib.hid (isT_rd y)
        go_wp2_with (first
          | (refine comm_fetch rfl _ rfl b (off + m * 8) y ok.1 rfl HCl.out ?_)
          | (refine comm_storeP rfl _ _ rfl wr.heap.size y ok.1 rfl rfl 52 zc8 HN.out rfl (fun w' => Blk w' wr.heap.size 52 (u8s y).toArray ∧ TwoC w w' (some ⟨b, off, none⟩) A2 n1 n2 la lb) ⟨HB1.out, HC1.out⟩ ?_; intro wn hwn; clear HCl HN HB1 HC1; go_wp2_with (refine comm_fetch rfl _ rfl wr.heap.size 0 y ok.1 rfl hwn.1.range ?_)))
        have HB1' := Lib.hid hwn.1
        have HC1' := Lib.hid hwn.2
        clear hwn
        refine (rd_isA _ y ok.1 ok.2 (rdF y) rfl).mono ?_
        rintro e w1 ⟨rfl, hB⟩
        have HC2 := Lib.hid (HC1'.out.below hB)
        have HB2 := Lib.hid (HB1'.out.below hB HB1'.out.lt)
        clear hB HB1' HC1'
        by_cases hT : (rdF y).kind = 1
        · rw [hT] at hk
          have HT : Hid (isT y = true) := Lib.hid (by rw [HI.out]; simpa using hT)
          clear hT HI
          go_wp2_with (refine comm_fetch rfl _ rfl wr.heap.size 0 y ok.1 rfl HB2.out.range ?_)
          refine (in_is _ A2 n2 c2 lb y HC2.out.b' (by omega) ok.1 ok.2).mono ?_
          rintro e w2 ⟨rfl, hB⟩
          have HC3 := Lib.hid (HC2.out.below hB)
          clear hB HC2 HB2 hk
          go_wp2
          refine ⟨⟨m + 1, by omega, by go_num, ?_, HC3.out⟩, by simp [intOf]; omega⟩
          rw [HM.out, HX.out, HT.out]
          simp
        · have HT : Hid (isT y = false) := Lib.hid (by rw [HI.out]; simpa using hT)
          clear HI
          go_wp2
          refine ⟨⟨m + 1, by omega, by go_num, ?_, HC2.out⟩, by simp [intOf]; omega⟩
          rw [HM.out, HX.out, HT.out]
          simp
    · obtain rfl : m = n1 := by omega
      subst hlA
      rw [List.take_length]
      have HC1 := Lib.hid hC
      clear hC
      have HT1 := Lib.hid (meets_turn la lb)
      have HT2 := Lib.hid (meets_cut la lb)
      generalize hW : meets la lb = W at *
      have HW := Lib.hid hW
      clear hW
      go_wp2_with fail
      refine (meet_is _ A1 A2 la.length n2 c1 c2 la lb HC1.out.a' HC1.out.b' (by omega) (by omega)).mono ?_
      rintro e w1 ⟨rfl, hB⟩
      have HC2 := Lib.hid (HC1.out.below hB)
      clear hB HC1
      rw [HW.out]
      go_wp2_with fail
      refine (meet_is _ A2 A1 n2 la.length c2 c1 lb la HC2.out.b' HC2.out.a' (by omega) (by omega)).mono ?_
      rintro e w2 ⟨rfl, hB⟩
      have HC3 := Lib.hid (HC2.out.below hB)
      clear hB HC2
      rw [HT1.out]
      go_wp2_with fail
      refine (tg_is _ A1 la.length c1 la HC3.out.a' (by omega)).mono ?_
      rintro e w3 ⟨v1, rfl, ho, hB⟩
      have HC4 := Lib.hid (HC3.out.below hB)
      obtain ⟨B1, d1, rfl, hr1⟩ := ho.rd
      have HR1 := Lib.hid hr1
      have l1 : (la.filter isT).length ≤ la.length := List.length_filter_le _ _
      clear hB HC3 ho hr1
      go_wp2_with fail
      refine (tg_is _ A2 n2 c2 lb HC4.out.b' (by omega)).mono ?_
      rintro e w4 ⟨v2, rfl, ho, hB⟩
      have HC5 := Lib.hid (HC4.out.below hB)
      obtain ⟨B2, d2, rfl, hr2⟩ := ho.rd
      have HR2 := Lib.hid hr2
      have HR1' := Lib.hid ((HR1.out.below hB).mono hB.size)
      have l2 : (lb.filter isT).length ≤ lb.length := List.length_filter_le _ _
      clear hB HC4 ho hr2 HR1
      go_wp2_with fail
      refine (meet_is _ B1 B2 _ _ d1 d2 (la.filter isT) (lb.filter isT) HR1'.out HR2.out (by omega) (by omega)).mono ?_
      rintro e w5 ⟨rfl, hB⟩
      have HC6 := Lib.hid (HC5.out.below hB)
      clear hB HC5 HR1' HR2
      rw [HT2.out]
      go_wp2_with fail
      refine (alive4_is _ HC6.out.env).mono ?_
      rintro e w6 ⟨rfl, hB⟩
      have HC7 := Lib.hid (HC6.out.below hB)
      clear hB HC6
      go_wp2
      go_ret
      exact ⟨rfl, HC7.out.low⟩
theorem commMeets_walk (w : World) (E : Env w) (A1 : Option Addr) (n1 c1 : Nat) (la : List (List Int)) (A2 : Option Addr) (n2 c2 : Nat) (lb : List (List Int)) (ha : RdC w w.heap.size A1 n1 la) (h1 : n1 ≤ 140737488351232) (hb : RdC w w.heap.size A2 n2 lb) (h2 : n2 ≤ 140737488351232) :
    Calls Tryd.prog 10 #[.slice A1 n1 c1, .slice A2 n2 c2] w fun e w' => e = .returned (.bool true) ∧ Below w.heap.size w w' := cmeets_walk w E A1 A2 n1 n2 c1 c2 la lb ha hb h1 h2
end Go.Proofs.YtkaimdcepnhkdaaDoor
namespace Go.Proofs.YtkaimdcepnhkdaaDoor.commMeets
open Go.ChangeShapes Go.WideShapes Go.ChangeAt Go.RowKit
open Go.ChangeMaps (open_string shut_string)
set_option linter.unusedVariables false

theorem own : ownKnob Tryd.prog.godebug = none := by kernel_rfl
theorem laidOut : laidOutB Tryd.prog = true := by kernel_rfl

set_option maxRecDepth 100000 in
theorem lifted (os : Os) (started : os.Started) (H : Type) (enc : TypeId × Value → H) :
    ReturnsInHanded {} Tryd.checked os 10 .any (fun w args => (Rows.commMeetsSpec.pre enc Tryd.prog Tryd.f10 [] false w args ∧ laidMetH Tryd.prog laidL3 w) ∧ sizedMet enc Tryd.prog Tryd.f10 (OpenSpec.ofChange Rows.commMeetsSpec) false w args)
      (Rows.commMeetsSpec.post enc Tryd.prog Tryd.f10 false true false false) := by
  refine wrap_rows (C := Tryd.checked) (X := fun w _ => laidMetH Tryd.prog laidL3 w) (fun _ _ _ hh h => h.of_heap hh) own started (by kernel_rfl) Tryd.func10
    (ChangeSpec.witness_shaped (enc := enc) (C := Tryd.checked) (os := os) (X := fun w _ => laidMetH Tryd.prog laidL3 w) false (World.laidAll Tryd.prog os laidL3) #[.slice none 0 0, .slice none 0 0] 8 (World.laidAll_os _ _ _)
      (World.shaped_of_ZipB (by kernel_rfl) (by kernel_rfl)) (by kernel_rfl) (by kernel_rfl) (by kernel_rfl)
      (by rw [MakeChecks.laidMetH_plain _ _ _ (by kernel_rfl)]; exact laidMet_laidAll _ (by kernel_rfl) (by kernel_rfl))) ?_
  intro W base args ds gs before hval0 hW hsz0 hL0 hshape
  have hval : ∀ (j : Nat) t v, Tryd.f10.params[j]? = some t → args[j]? = some v → Value.okWide Tryd.prog W .any base t v := hval0
  have hsz : (DataW.weightsEach Tryd.prog (Tryd.f10.params.toList ++ Rows.commMeetsSpec.plain.varTypes Tryd.prog) (ds ++ gs)).all (· ≤ reachBytes) = true := hsz0
  have hL : laidMetH Tryd.prog laidL3 W := hL0
  rw [MakeChecks.laidMetH_plain _ _ _ (by kernel_rfl)] at hL
  have E : Env W := env_of3 hshape hL
  have hW' := hW
  obtain ⟨p, q, hA0, hV, rfl, hfz, hnd⟩ := hW
  have hA : DataW.TrodAll enc Tryd.prog W 0 (fun _ => true) true Tryd.f10.params.toList args.toList ds p := hA0
  rw [Tryd.params10] at hA hval hsz
  obtain ⟨v0, vs0, d0, ds0, p0, q0, hargs, rfl, rfl, h0, r0⟩ := trodAll_cons hA
  obtain ⟨v1, vs1, d1, ds1, p1, q1, rfl, rfl, rfl, h1, r1⟩ := trodAll_cons r0
  obtain ⟨rfl, rfl, rfl⟩ := trodAll_nil r1
  obtain rfl : args = #[v0, v1] := by cases args; simp_all
  obtain ⟨rfl, rfl⟩ := trodVars_none hV
  obtain ⟨a0, len0, cap0, rfl⟩ := okWide_slice Tryd.underlying69 (hval 0 69 v0 rfl rfl)
  have lt0 : ∀ x ∈ p0, x.block < W.heap.size := by obtain ⟨m, hm⟩ := h0; exact DataW.trod_lt m _ _ _ hm
  obtain ⟨l0, rd0, sz0⟩ := open_comms Tryd.underlying69 Tryd.underlying52 Tryd.underlying5 (by kernel_rfl) (by kernel_rfl) (by kernel_rfl) h0 hsz (j := 0) rfl rfl
  obtain ⟨a1, len1, cap1, rfl⟩ := okWide_slice Tryd.underlying69 (hval 1 69 v1 rfl rfl)
  have lt1 : ∀ x ∈ p1, x.block < W.heap.size := by obtain ⟨m, hm⟩ := h1; exact DataW.trod_lt m _ _ _ hm
  obtain ⟨l1, rd1, sz1⟩ := open_comms Tryd.underlying69 Tryd.underlying52 Tryd.underlying5 (by kernel_rfl) (by kernel_rfl) (by kernel_rfl) h1 hsz (j := 1) rfl rfl
  clear hA0 hval0 hsz hsz0
  refine (commMeets_walk W E a0 len0 cap0 l0 a1 len1 cap1 l1 rd0 sz0 rd1 sz1).mono fun e W' ⟨he, bel⟩ => ?_
  subst he
  exact ⟨_, rfl, _, _, _, [], _, [], hW', trodAll_mk1 (shut_bool Tryd.underlying4 _), (trodAll_cons_mk (Below.trod laidOut (by kernel_rfl) (of_decide_eq_true (by kernel_rfl)) h0 bel lt0) (trodAll_cons_mk (Below.trod laidOut (by kernel_rfl) (of_decide_eq_true (by kernel_rfl)) h1 bel lt1) trodAll_mk0)), rfl, bel.frame _, fun h => by cases h⟩

theorem over : Rows.commMeetsRow.holds Tryd.pinned (OpenSpec.ofChange Rows.commMeetsSpec) :=
  OpenClaim.holds_of_wide 10 Tryd.f10 rfl rfl rfl rfl rfl rfl rfl ⟨rfl, rfl, rfl, rfl, rfl⟩ rfl rfl rfl rfl rfl (by kernel_rfl) Tryd.func10 (by kernel_rfl)
    (of_decide_eq_true (by kernel_rfl)) (by unfold Func.isWrapper; first | (rw [if_pos (by decide +kernel)]; kernel_rfl) | (rw [if_neg (by decide +kernel)]; exact ⟨rfl, rfl⟩))
    (fun os started H enc _ => lifted os started H enc)

theorem proved : Rows.CommMeetsCardSaid :=
  Claim7.holds_tied_plain_at .later [] [.data, .data, .data] true Rows.commMeetsCard.stood.harness false
    over (fun _ h => by cases h) (by kernel_rfl) (fun _ h => by cases h) commMeets_row_tie rfl ⟨rfl, rfl⟩ (by kernel_rfl) rfl
    (fun f fn hf hfn => by
      obtain rfl : f = 10 := Option.some.inj ((show Tryd.prog.funcNamed "weft/weftlaw04.CommMeets" = some 10 by kernel_rfl).symm.trans hf) |>.symm
      obtain rfl : fn = Tryd.f10 := (Option.some.inj (Tryd.func10.symm.trans hfn)).symm
      exact ⟨by kernel_rfl, fun j t ht => by
        rw [Tryd.params10] at ht
        have hm : t ∈ [69, 69] := by simpa using Array.mem_of_getElem? ht
        have hall : ([69, 69].all fun u => !Tryd.prog.wantsStandIn u) = true := by kernel_rfl
        exact (show Tryd.prog.wantsStandIn t = false by simpa using List.all_eq_true.1 hall t hm)⟩)
    (by kernel_rfl)
#print axioms proved
end Go.Proofs.YtkaimdcepnhkdaaDoor.commMeets
