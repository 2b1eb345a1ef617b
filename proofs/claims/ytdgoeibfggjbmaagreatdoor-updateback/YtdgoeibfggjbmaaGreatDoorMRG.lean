/-
  Put together: UrF UrG UrH.
-/
import Derived.Test.YtdgoeibfggjbmaaGreatDoorMNM
import Derived.Test.YtdgoeibfggjbmaaGreatDoorMNV
import Derived.Test.YtdgoeibfggjbmaaGreatDoorMRD
namespace Go.Proofs.YtdgoeibfggjbmaaGreatDoor
open Go.RowKit
set_option maxRecDepth 100000
set_option linter.unusedSimpArgs false
set_option linter.unusedVariables false

theorem app_rts {ops : Array Oper} {rest : List Oper} {o : Oper} {a : Act} {Q : Exit → Act → World → Prop} (hgd : o.guard = none) (s x : Operand)
    (ho : o.op = .call { callee := .builtin .append, args := #[s, x], argTypes := #[32, 32] }) {lo : Nat} {w : World} {v : Value} {rs : List Rt} (h : OwnRt lo w v rs) (hlo : lo ≤ w.heap.size)
    {A : Option Addr} {m c : Nat} {news : List Rt} (hr : RdRt w w.heap.size A m news) (hlen : rs.length + m ≤ 1000000000000) (hs : a.eval s = v) (hx : a.eval x = .slice A m c)
    (hk : ∀ v' w', OwnRt lo w' v' (rs ++ news) → Below lo w w' → w.grownBy w' v.ownBlock → (∀ i, v.ownBlock = some i → lo ≤ i ∧ ∃ c, w.heap[i]? = some (.cells c 53 (0, 0))) → wpList Tryz.prog ops Q rest (a.put o.dst v') w') :
    wpList Tryz.prog ops Q (o :: rest) a w := by
  obtain ⟨i, hi, hsz⟩ := Option.map_eq_some_iff.1 info_route
  injection hsz with hsz hby
  obtain ⟨z, hz, hzs⟩ := Option.map_eq_some_iff.1 zero_size
  rw [hi] at hz
  have hlm := hr.len
  have hold : ∀ i, v.ownBlock = some i → lo ≤ i ∧ ∃ c, w.heap[i]? = some (.cells c 53 (0, 0)) := fun i hi => ⟨(h.own.lt i hi).1, own_heap h.own hi⟩
  cases A with
  | none =>
    have hm0 : m = 0 := by
      rcases Nat.eq_zero_or_pos m with h0 | h0
      · exact h0
      · obtain ⟨_, _, e, _⟩ := hr.at_ h0
        cases e
    subst hm0
    have hn : news = [] := List.eq_nil_of_length_eq_zero hlm
    subst hn
    have hrun : (Builtin.append_ #[32, 32] o.type #[v, .slice none 0 c]).run Tryz.prog w = .ok v w := by
      rcases h.own.2 with ⟨rfl, hn⟩ | ⟨g, cap, cur, rfl, _, _, hnc, _⟩
      · simp [Builtin.append_, run_underlying Tryz.underlying32, sizeOf, typeInfo, hi, Builtin.lenOf, Builtin.firstCells]
      · simp [Builtin.append_, run_underlying Tryz.underlying32, sizeOf, typeInfo, hi, Builtin.lenOf, Builtin.firstCells, hnc, storeCells]
    refine wpList_plain hgd fun _ hK => ?_
    unfold Oper.wp execOp
    simp only [ho, resolve, invoke, builtin, Sem.run_bind, Sem.run_pure, Result.andThen_ok, List.map_toArray, List.map_cons, List.map_nil, hs, hx, hrun]
    exact hK _ _ (hk v w (by rw [List.append_nil]; exact h) (Below.refl _ _) (only_refl _ _) hold)
  | some ad =>
    have hsrc : ∀ j y, (rtcs news)[j]? = some y → w.cell? (ad.add j) = some y := by
      rcases Nat.eq_zero_or_pos m with h0 | h0
      · intro j y hy
        have := (List.getElem?_eq_some_iff.1 hy).1
        rw [rtcs_len _ hr.ok] at this
        omega
      · obtain ⟨b, off, e, _, hc⟩ := hr.at_ h0
        injection e with e
        subst e
        intro j y hy
        have hj := (List.getElem?_eq_some_iff.1 hy).1
        rw [rtcs_len _ hr.ok] at hj
        have hi2 : j / 63 < news.length := by omega
        have e1 := rtcs_get news hr.ok (j / 63) (j % 63) hi2 (by omega)
        rw [show j / 63 * 63 + j % 63 = j by omega, hy] at e1
        have := hc (j / 63) hi2 (j % 63) y e1.symm
        rw [show ((⟨b, off, none⟩ : Addr).add j) = ⟨b, off + j, none⟩ from by unfold Addr.add; split <;> simp_all]
        rw [show off + j = off + j / 63 * 63 + j % 63 by omega]
        exact this
    have hone : ∀ v ∈ rtcs news, v.oneCell' = true := fun v hv => by
      obtain ⟨r, _, hv⟩ := List.mem_flatMap.1 hv
      exact rtc_one r v hv
    refine wpList_append_own_at _ hgd s x 32 ho lo 53 i z 63 104 Tryz.underlying32 hi hz hsz hby hzs (by decide) v rs.length (rtcs rs) hs h.own ad m c (rtcs news) hx (by rw [rtcs_len _ hr.ok, hlm]) hsrc hone (by unfold maxLen; omega) (by omega) hlo ?_
    intro v' w' hown hgr _ _
    refine hk v' w' ⟨?_, h.ok.app hr.ok⟩ ((Below.refl lo w).grown hgr hlo (fun i e => (h.own.lt i e).1)) hgr hold
    rw [List.length_append, hlm, rtcs_app]
    exact hown

structure RdLR (w : World) (B : Nat) (A : Option Addr) (n : Nat) (ls : List (List Rt)) : Prop where
  len : ls.length = n
  at_ : 0 < n → ∃ b off, A = some ⟨b, off, none⟩ ∧ b < B ∧ ∀ i (h : i < ls.length), ∃ A1 n1 c1, w.cell? ⟨b, off + i, none⟩ = some (.slice A1 n1 c1) ∧ RdRt w B A1 n1 ls[i]
theorem RdLR.below {w w' : World} {B n : Nat} {A : Option Addr} {ls : List (List Rt)} (h : RdLR w B A n ls) (hb : Below B w w') : RdLR w' B A n ls :=
  ⟨h.len, fun hn => by
    obtain ⟨b, off, e, hlt, hc⟩ := h.at_ hn
    refine ⟨b, off, e, hlt, fun i hi => ?_⟩
    obtain ⟨A1, n1, c1, h1, h2⟩ := hc i hi
    exact ⟨A1, n1, c1, (hb.cell (p := ⟨b, off + i, none⟩) hlt).trans h1, h2.below hb⟩⟩
theorem RdLR.get {w : World} {B : Nat} {A : Option Addr} {n : Nat} {ls : List (List Rt)} (h : RdLR w B A n ls) {m : Nat} (hm : m < ls.length) : ∃ b off A1 n1 c1, A = some ⟨b, off, none⟩ ∧ w.cell? ⟨b, off + m, none⟩ = some (.slice A1 n1 c1) ∧ RdRt w B A1 n1 ls[m] := by
  obtain ⟨b, off, rfl, _, hc⟩ := h.at_ (by have := h.len; omega)
  obtain ⟨A1, n1, c1, h1, h2⟩ := hc m hm
  exact ⟨b, off, A1, n1, c1, rfl, h1, h2⟩
theorem flatR_take (ls : List (List Rt)) (m : Nat) (hm : m < ls.length) : (ls.take (m + 1)).flatten = (ls.take m).flatten ++ ls[m] := by
  rw [List.take_succ_eq_append_getElem hm, List.flatten_append]
  simp
theorem flatR_le (ls : List (List Rt)) (m : Nat) : (ls.take m).flatten.length ≤ ls.flatten.length := by
  have : ls.flatten = (ls.take m).flatten ++ (ls.drop m).flatten := by rw [← List.flatten_append, List.take_append_drop]
  rw [this, List.length_append]
  omega
set_option maxHeartbeats 2000000 in
theorem growR_is (w : World) (n : Nat) (hn : n ≤ 1000000000000) : Calls Tryz.prog 108 #[.slice none 0 0, .int .i64 n] w fun e w' => ∃ v, e = .returned v ∧ OwnRt w.heap.size w' v [] ∧ Below w.heap.size w w' := by
  rcases Nat.eq_zero_or_pos n with rfl | h0
  · go_enter Tryz.func108, Tryz.ntmps108
    go_wp2
    go_ret
    exact ⟨_, rfl, OwnRt.nil_ _ _, Below.refl _ _⟩
  · obtain ⟨i, hi, hsz⟩ := Option.map_eq_some_iff.1 info_route
    injection hsz with hz1 hz2
    obtain ⟨z, hz0, hzs⟩ := Option.map_eq_some_iff.1 zero_size
    rw [hi] at hz0
    have hz0 : i.zero = some z := hz0
    have hrun := fun ty => Lib.run_append_grow_zeros (P := Tryz.prog) w 32 3 ty 53 i z .i64 .i64 Tryz.underlying32 Tryz.underlying3 hi hz0 none 0 0 [] (run_firstCells_none w.drew i.size 0 0 0) n h0 (by rw [hz1]; decide) (by omega) (by omega) (by rw [hz2]; omega) (growslice_fits (by omega) (by rw [hz2]; omega))
    have hG := grownCap_ge w (0 + n) 0 53
    have hM := grownCap_le_maxLen w (0 + n) 0 53 (by unfold maxLen; omega)
    generalize grownCap w (0 + n) 0 53 = G at *
    simp only [Nat.zero_add] at hrun hG
    have HO : Hid (∃ W, (∀ ty, (Builtin.append_ #[32, 3] ty #[.slice none 0 0, .int .i64 n]).run Tryz.prog w = .ok (.slice (some ⟨w.heap.size, 0, none⟩) n G) W) ∧ OwnRt w.heap.size W (.slice (some ⟨w.heap.size, 0, none⟩) 0 G) [] ∧ Below w.heap.size w W) := Lib.hid ⟨_, hrun, ⟨⟨rfl, Or.inr ⟨w.heap.size, G, _, rfl, Nat.le_refl _, Blk.new w.drew 53 _, Nat.zero_le _, hM, by simp only [Builtin.zeroCells] at *; simp [hzs]; omega, by simp [rtcs]⟩⟩, AllRt.nil_⟩, below_drewN ((Below.refl _ _).alloc (Nat.le_refl _) _) 1⟩
    clear hrun hi hz0 hz1 hz2 hzs
    obtain ⟨W, hrun, hO, hB⟩ := HO.out
    have HOO := Lib.hid hO
    have HBB := Lib.hid hB
    have h1 : ¬ ((n : Int) < 0) := by omega
    have hM2 : G ≤ 9223372036854775807 := by unfold maxLen at hM; omega
    have HRun := Lib.hid hrun
    clear HO hO hB hM hrun
    go_enter Tryz.func108, Tryz.ntmps108
    go_wp2_with (at_builtin; refine wpList_app_run rfl _ _ 32 3 rfl (.slice none 0 0) (.int .i64 n) rfl rfl _ _ HRun.out ?_)
    go_ret
    exact ⟨_, rfl, HOO.out, HBB.out⟩
set_option maxHeartbeats 2000000 in
theorem concatR_is (w : World) (A : Option Addr) (n c : Nat) (ls : List (List Rt)) (hr : RdLR w w.heap.size A n ls) (hn : n ≤ 1000000) (hb : ls.flatten.length ≤ 1000000000000) :
    Calls Tryz.prog 57 #[.slice A n c] w fun e w' => ∃ v, e = .returned v ∧ OwnRt w.heap.size w' v ls.flatten ∧ Below w.heap.size w w' := by
  have HR := Lib.hid hr
  have hlen := hr.len
  clear hr
  go_enter Tryz.func57, Tryz.ntmps57
  go_wp2
  go_loop [3, 5, 11] (fun s _ i => ∃ m : Nat, m ≤ n ∧ i = .int .i64 m ∧ s = .int .i64 ((ls.take m).flatten.length : Nat)) (fun _ _ i => n - (intOf i).toNat)
  case atStart => exact ⟨0, Nat.zero_le _, rfl, rfl⟩
  case round =>
    obtain ⟨m, hm, rfl, rfl⟩ := hrel
    by_cases hlt : m < n
    · have hml : m < ls.length := by omega
      obtain ⟨b, off, A1, n1, c1, rfl, x0, hr1⟩ := HR.out.get hml
      have HT := Lib.hid (flatR_take ls m hml)
      have h1 := flatR_le ls (m + 1)
      rw [flatR_take ls m hml, List.length_append, hr1.len] at h1
      have HL := Lib.hid hr1.len
      generalize ls[m] = y at *
      generalize (ls.take m).flatten = z at *
      clear hr1
      go_wp2
      refine ⟨⟨m + 1, by omega, by go_num, ?_⟩, by simp [intOf]; omega⟩
      rw [HT.out, List.length_append, HL.out]
      go_num
    · obtain rfl : n = m := by omega
      rw [List.take_of_length_le (by omega)]
      have HFl := Lib.hid (flatR_le ls)
      have HFt := Lib.hid (flatR_take ls)
      have HG := Lib.hid (growR_is w ls.flatten.length hb)
      generalize hT : ls.flatten.length = T at *
      have HTT := Lib.hid hT
      clear hT
      go_wp2_with fail
      refine HG.out.mono ?_
      rintro e w1 ⟨v1, rfl, hO1, hB1⟩
      have HO1 := Lib.hid hO1
      have HB1 := Lib.hid hB1
      clear hO1 hB1
      go_wp2
      go_loopw [6, 8, 27] (fun v _ i wr => ∃ m : Nat, m ≤ n ∧ i = .int .i64 m ∧ OwnRt w.heap.size wr v (ls.take m).flatten ∧ Below w.heap.size w wr) (fun _ _ i _ => n - (intOf i).toNat)
      case atStart => exact ⟨0, Nat.zero_le _, rfl, HO1.out, HB1.out⟩
      case round =>
        obtain ⟨m, hm, rfl, ho, hw⟩ := hrel
        by_cases hlt : m < n
        · have hml : m < ls.length := by omega
          obtain ⟨b, off, A1, n1, c1, rfl, x0, hr1⟩ := (HR.out.below hw).get hml
          have HT := Lib.hid (HFt.out m hml)
          have hle : (ls.take m).flatten.length + n1 ≤ 1000000000000 := by
            have h1 := HFl.out (m + 1)
            rw [HFt.out m hml, List.length_append, hr1.len] at h1
            omega
          have HO := Lib.hid ho
          have HW := Lib.hid hw
          have hsz := hw.size
          have HR2 := Lib.hid (hr1.more hw.size)
          generalize ls[m] = y at *
          generalize (ls.take m).flatten = z at *
          clear hr1 ho hw
          go_wp2_with (at_builtin; refine app_rts rfl _ _ rfl HO.out hsz HR2.out hle rfl rfl ?_)
          intro v' w2 ho2 hb2 _ _
          have HO2 := Lib.hid ho2
          have HB2 := Lib.hid (HW.out.trans hb2)
          clear ho2 hb2
          go_wp2
          exact ⟨⟨m + 1, by omega, by go_num, by rw [HT.out]; exact HO2.out, HB2.out⟩, by simp [intOf]; omega⟩
        · obtain rfl : n = m := by omega
          rw [List.take_of_length_le (by omega)] at ho
          have HO := Lib.hid ho
          have HW := Lib.hid hw
          clear ho hw
          go_wp2
          go_ret
          exact ⟨_, rfl, HO.out, HW.out⟩
end Go.Proofs.YtdgoeibfggjbmaaGreatDoor
namespace Go.Proofs.YtdgoeibfggjbmaaGreatDoor
open Go.RowKit
set_option maxRecDepth 100000
set_option linter.unusedSimpArgs false
set_option linter.unusedVariables false

structure IsUp (lo : Nat) (w : World) (cs : List Value) (u : Up) : Prop where
  ex : ∃ xs vr vu, cs = upc xs u.nv u.nl vr vu ∧ IsAt lo w xs u.at_ ∧ OwnRt lo w vr u.re ∧ OwnRt lo w vu u.un
  nl : u.nl.length = 16
theorem IsAt.len {lo : Nat} {w : World} {xs : List Value} {a : Att} (h : IsAt lo w xs a) : xs.length = 27 := by
  obtain ⟨vp, vc, vm, rfl, _⟩ := h.ex
  exact attV_len _ _ _ _ h.ip
theorem IsUp.len {lo : Nat} {w : World} {cs : List Value} {u : Up} (h : IsUp lo w cs u) : cs.length = 46 := by
  obtain ⟨xs, vr, vu, rfl, ha, _⟩ := h.ex
  exact upc_len ha.len h.nl
theorem OwnRt.one {lo : Nat} {w : World} {v : Value} {rs : List Rt} (h : OwnRt lo w v rs) : v.oneCell' = true := by
  obtain ⟨A, c, rfl, _⟩ := h.rd
  rfl
theorem IsAt.one {lo : Nat} {w : World} {xs : List Value} {a : Att} (h : IsAt lo w xs a) : ∀ v ∈ xs, v.oneCell' = true := by
  obtain ⟨vp, vc, vm, rfl, h1, h2, h3⟩ := h.ex
  obtain ⟨_, _, rfl, _⟩ := h1.rd
  obtain ⟨_, _, rfl, _⟩ := h2.rd
  obtain ⟨_, _, rfl, _⟩ := h3.rd
  exact one_attV _ rfl rfl rfl
theorem IsUp.one {lo : Nat} {w : World} {cs : List Value} {u : Up} (h : IsUp lo w cs u) : ∀ v ∈ cs, v.oneCell' = true := by
  obtain ⟨xs, vr, vu, rfl, ha, h1, h2⟩ := h.ex
  exact upc_one ha.one h1.one h2.one
theorem IsUp.below {lo : Nat} {w w' : World} {cs : List Value} {u : Up} (h : IsUp lo w cs u) (hB : Below w.heap.size w w') : IsUp lo w' cs u := by
  obtain ⟨xs, vr, vu, e, ha, h1, h2⟩ := h.ex
  exact ⟨⟨xs, vr, vu, e, ha.below hB, h1.below hB, h2.below hB⟩, h.nl⟩
theorem IsAt.low {lo lo' : Nat} {w : World} {xs : List Value} {a : Att} (h : IsAt lo w xs a) (hl : lo' ≤ lo) : IsAt lo' w xs a := by
  obtain ⟨vp, vc, vm, e, h1, h2, h3⟩ := h.ex
  exact ⟨⟨vp, vc, vm, e, h1.low hl, h2.low hl, h3.low hl⟩, h.ip⟩
theorem IsUp.low {lo lo' : Nat} {w : World} {cs : List Value} {u : Up} (h : IsUp lo w cs u) (hl : lo' ≤ lo) : IsUp lo' w cs u := by
  obtain ⟨xs, vr, vu, e, ha, h1, h2⟩ := h.ex
  exact ⟨⟨xs, vr, vu, e, ha.low hl, h1.low hl, h2.low hl⟩, h.nl⟩
theorem IsAt.grown {lo g : Nat} {w w' : World} {xs : List Value} {a : Att} (h : IsAt lo w xs a) (hb : w.grownBy w' (some g)) (hg : g < lo) : IsAt lo w' xs a := by
  obtain ⟨vp, vc, vm, e, h1, h2, h3⟩ := h.ex
  exact ⟨⟨vp, vc, vm, e, h1.grown hb hg, h2.grown hb hg, h3.grown hb hg⟩, h.ip⟩
theorem IsUp.grown {lo g : Nat} {w w' : World} {cs : List Value} {u : Up} (h : IsUp lo w cs u) (hb : w.grownBy w' (some g)) (hg : g < lo) : IsUp lo w' cs u := by
  obtain ⟨xs, vr, vu, e, ha, h1, h2⟩ := h.ex
  exact ⟨⟨xs, vr, vu, e, ha.grown hb hg, h1.grown hb hg, h2.grown hb hg⟩, h.nl⟩
theorem isAt_zero (lo : Nat) (w : World) : IsAt lo w zat Att.zero := IsAt.zero lo w
def UofP (w : World) (lo : Nat) (u : Up) (e : Ending) (w' : World) : Prop := ∃ cs, e = .returned (.agg cs.toArray) ∧ IsUp lo w' cs u ∧ Below w.heap.size w w'
theorem rdlr_two (W : World) (A1 : Option Addr) (n1 c1 : Nat) (A2 : Option Addr) (n2 c2 : Nat) {l1 l2 : List Rt} (h1 : RdRt W W.heap.size A1 n1 l1) (h2 : RdRt W W.heap.size A2 n2 l2) :
    RdLR (W.alloc (.cells #[.slice A1 n1 c1, .slice A2 n2 c2] 32)) (W.alloc (.cells #[.slice A1 n1 c1, .slice A2 n2 c2] 32)).heap.size (some ⟨W.heap.size, 0, none⟩) 2 [l1, l2] := by
  have hal := bl_one W (.cells #[.slice A1 n1 c1, .slice A2 n2 c2] 32)
  have hb := Blk.new W 32 #[.slice A1 n1 c1, .slice A2 n2 c2]
  refine ⟨rfl, fun _ => ⟨W.heap.size, 0, rfl, by simp, fun i hi => ?_⟩⟩
  match i, hi with
  | 0, _ => exact ⟨A1, n1, c1, hb.cell 0, (h1.below hal).more hal.size⟩
  | 1, _ => exact ⟨A2, n2, c2, hb.cell 1, (h2.below hal).more hal.size⟩
structure UoS (w W : World) (xs sg st : List Value) : Prop where
  b4 : Blk W w.heap.size 31 xs.toArray
  b5 : Blk W (w.heap.size + 1) 108 sg.toArray
  b6 : Blk W (w.heap.size + 2) 108 st.toArray
  b8 : ∃ Z, Blk W (w.heap.size + 3) 34 Z ∧ Z.size = 46
  low : Below w.heap.size w W
theorem UoS.below {w W W' : World} {xs sg st : List Value} (h : UoS w W xs sg st) (hB : Below W.heap.size W W') : UoS w W' xs sg st := by
  obtain ⟨Z, h8, z8⟩ := h.b8
  exact ⟨h.b4.below hB h.b4.lt, h.b5.below hB h.b5.lt, h.b6.below hB h.b6.lt, ⟨Z, h8.below hB h8.lt, z8⟩, h.low.trans (hB.mono h.low.size)⟩
theorem uos_new (w : World) (xs sg st : List Value) : UoS w ((((w.alloc (.cells xs.toArray 31)).alloc (.cells sg.toArray 108)).alloc (.cells st.toArray 108)).alloc (.cells zup.toArray 34)) xs sg st := by
  have s1 : (w.alloc (.cells xs.toArray 31)).heap.size = w.heap.size + 1 := by simp
  have s2 : ((w.alloc (.cells xs.toArray 31)).alloc (.cells sg.toArray 108)).heap.size = w.heap.size + 2 := by simp
  have s3 : (((w.alloc (.cells xs.toArray 31)).alloc (.cells sg.toArray 108)).alloc (.cells st.toArray 108)).heap.size = w.heap.size + 3 := by simp
  refine ⟨(((Blk.new w 31 _).alloc _).alloc _).alloc _, ?_, ?_, ⟨zup.toArray, ?_, by rfl⟩, (((((Below.refl w.heap.size w).alloc (Nat.le_refl _) _).alloc (by simp) _).alloc (by simp; omega) _).alloc (by simp; omega) _)⟩
  · have := ((Blk.new (w.alloc (.cells xs.toArray 31)) 108 sg.toArray).alloc (.cells st.toArray 108)).alloc (.cells zup.toArray 34)
    rwa [s1] at this
  · have := (Blk.new ((w.alloc (.cells xs.toArray 31)).alloc (.cells sg.toArray 108)) 108 st.toArray).alloc (.cells zup.toArray 34)
    rwa [s2] at this
  · have := Blk.new (((w.alloc (.cells xs.toArray 31)).alloc (.cells sg.toArray 108)).alloc (.cells st.toArray 108)) 34 zup.toArray
    rwa [s3] at this
theorem UoS.put8 {w W : World} {xs sg st : List Value} (h : UoS w W xs sg st) (ds : Array Value) (hd : ds.size = 46) : UoS w (W.setRow (w.heap.size + 3) ds) xs sg st ∧ Blk (W.setRow (w.heap.size + 3) ds) (w.heap.size + 3) 34 ds := by
  obtain ⟨Z, h8, z8⟩ := h.b8
  exact ⟨⟨h.b4.setRow_otherN (by omega) _, h.b5.setRow_otherN (by omega) _, h.b6.setRow_otherN (by omega) _, ⟨ds, h8.setRow _, hd⟩, h.low.trans (below_setRow _ _ _ (by omega))⟩, h8.setRow _⟩
theorem UoS.above {w W W' : World} {xs sg st : List Value} {b : Nat} (h : UoS w W xs sg st) (hB : Below b W W') (hb : w.heap.size + 3 < b) : UoS w W' xs sg st := by
  obtain ⟨Z, h8, z8⟩ := h.b8
  exact ⟨h.b4.below hB (by omega), h.b5.below hB (by omega), h.b6.below hB (by omega), ⟨Z, h8.below hB (by omega), z8⟩, h.low.trans (hB.mono (by omega))⟩
theorem row_grown (W : World) (g : Nat) (ds : Array Value) : W.grownBy (W.setRow g ds) (some g) := by
  have hg := below_setRow W g ds (Nat.le_refl g)
  exact ⟨hg.os, hg.tape, hg.output, hg.size, fun i hi hne => setRow_other _ _ _ _ (fun e => hne (by rw [e]))⟩
theorem built_up (A : Option Addr) (n c : Nat) : Tryz.prog.built 34 [(3, .slice A n c)] = some (upc zat false z16 (.slice none 0 0) (.slice A n c)).toArray := by kernel_rfl
theorem up_build {ops : Array Oper} {rest : List Oper} {o : Oper} {a : Act} {w : World} {Q : Exit → Act → World → Prop} (hg : o.guard = none) (x : Operand) (ho : o.op = .build 34 #[(3, x)]) (A : Option Addr) (n c : Nat) (hx : a.eval x = .slice A n c)
    (h : wpList Tryz.prog ops Q rest (a.put o.dst (.agg (upc zat false z16 (.slice none 0 0) (.slice A n c)).toArray)) w) : wpList Tryz.prog ops Q (o :: rest) a w := by
  have hb := built_up A n c
  have he : (#[(3, x)].map fun (i, x) => (i, a.eval x)).toList = [(3, .slice A n c)] := by simp [hx]
  refine wpList_build hg 34 _ ho (by rw [he, hb]; rfl) ?_
  rw [he, hb]
  exact h
theorem up_store {ops : Array Oper} {rest : List Oper} {o : Oper} {a : Act} {w : World} {Q : Exit → Act → World → Prop} (hgd : o.guard = none) (x y : Operand) (ho : o.op = .store 34 x y) (g : Nat) (cs : List Value) (hl : cs.length = 46) (h1 : ∀ v ∈ cs, v.oneCell' = true)
    (hx : a.eval x = .pointer (some ⟨g, 0, none⟩)) (hy : a.eval y = .agg cs.toArray) (t : TypeId) (old : Array Value) (hg : Blk w g t old) (hold : old.size = 46)
    (k : wpList Tryz.prog ops Q rest (a.put o.dst undef) (w.setRow g cs.toArray)) : wpList Tryz.prog ops Q (o :: rest) a w :=
  wpList_store_row hgd 34 x y ho g _ hx hy t old hg (by rw [usz]; simp [hl]) (by rw [hold]; simp [hl]) (all_oneCell_toArray h1) k
theorem up_store_to {ops : Array Oper} {rest : List Oper} {o : Oper} {a : Act} {w : World} {Q : Exit → Act → World → Prop} (hgd : o.guard = none) (x y : Operand) (ho : o.op = .store 34 x y) (g : Nat) (cs : List Value) (hl : cs.length = 46) (h1 : ∀ v ∈ cs, v.oneCell' = true)
    (hx : a.eval x = .pointer (some ⟨g, 0, none⟩)) (hy : a.eval y = .agg cs.toArray) (t : TypeId) (old : Array Value) (hg : Blk w g t old) (hold : old.size = 46) (I : World → Prop) (hI : I (w.setRow g cs.toArray))
    (k : ∀ W, I W → wpList Tryz.prog ops Q rest (a.put o.dst undef) W) : wpList Tryz.prog ops Q (o :: rest) a w := up_store hgd x y ho g cs hl h1 hx hy t old hg hold (k _ hI)
theorem up_nine {w W0 : World} {xs sg st : List Value} (h : UoS w W0 xs sg st) (hs : W0.heap.size = w.heap.size + 1 + 1 + 1 + 1) (ds cs : Array Value) : UoS w ((W0.alloc (.cells ds 34)).setRow (w.heap.size + 1 + 1 + 1 + 1) cs) xs sg st ∧ Blk ((W0.alloc (.cells ds 34)).setRow (w.heap.size + 1 + 1 + 1 + 1) cs) (w.heap.size + 1 + 1 + 1 + 1) 34 cs := by
  have hb := Blk.new W0 34 ds
  rw [hs] at hb
  exact ⟨(h.below (bl_one W0 _)).above (below_setRow _ _ _ (Nat.le_refl _)) (by omega), hb.setRow _⟩
theorem up_end {w W : World} {lo : Nat} {xs sg st cs : List Value} {U : Up} (h : UoS w W xs sg st) (hu : ∀ W', Below w.heap.size w W' → IsUp lo W' cs U) (hl : cs.length = 46) : UofP w lo U (.returned (.agg cs.toArray)) (W.setRow (w.heap.size + 3) cs.toArray) := by
  have h2 := (h.put8 cs.toArray (by simpa using hl)).1.low
  exact ⟨cs, rfl, hu _ h2, h2⟩
set_option maxHeartbeats 2000000 in
theorem updateOf7_is (w : World) (lo : Nat) (hlo : lo ≤ w.heap.size) (a : Att) (xs : List Value) (ha : IsAt lo w xs a) (g t : Sd) (hgl : g.nl.length = 16) (htl : t.nl.length = 16) (Ag : Option Addr) (cg : Nat) (hg : OwnRt lo w (.slice Ag g.rs.length cg) g.rs) (At : Option Addr) (ct : Nat) (ht : OwnRt lo w (.slice At t.rs.length ct) t.rs) (hb : g.rs.length + t.rs.length ≤ 1000000000000) (c : Int) :
    Calls Tryz.prog 67 #[.agg xs.toArray, .agg (sdg g Ag cg).toArray, .agg (sdg t At ct).toArray, .int .i64 c] w (UofP w lo (upOf a g t c)) := by
  have HS : Hid (UoS w ((((w.alloc (.cells xs.toArray 31)).alloc (.cells (sdg g Ag cg).toArray 108)).alloc (.cells (sdg t At ct).toArray 108)).alloc (.cells #[.int .i64 0, .slice none 0 0, .bool false, .int .u32 0, .int .u32 0, .int .u32 0, .slice none 0 0, .slice none 0 0, .int .i64 0, .int .u32 0, .bool false, .int .u8 0, .int .u8 0, .int .u8 0, .int .u8 0, .int .u8 0, .int .u8 0, .int .u8 0, .int .u8 0, .int .u8 0, .int .u8 0, .int .u8 0, .int .u8 0, .int .u8 0, .int .u8 0, .int .u8 0, .int .u8 0, .bool false, .int .u8 0, .int .u8 0, .int .u8 0, .int .u8 0, .int .u8 0, .int .u8 0, .int .u8 0, .int .u8 0, .int .u8 0, .int .u8 0, .int .u8 0, .int .u8 0, .int .u8 0, .int .u8 0, .int .u8 0, .int .u8 0, .slice none 0 0, .slice none 0 0] 34)) xs (sdg g Ag cg) (sdg t At ct)) := Lib.hid (uos_new w xs (sdg g Ag cg) (sdg t At ct))
  have HA := Lib.hid (fun W (hB : Below w.heap.size w W) => ha.below hB)
  have HG := Lib.hid (fun W (hB : Below w.heap.size w W) => hg.below hB)
  have HT := Lib.hid (fun W (hB : Below w.heap.size w W) => ht.below hB)
  have HAl := Lib.hid ha.len
  have HA1 := Lib.hid ha.one
  have HTl := Lib.hid htl
  have HGr : Hid (∀ W, Below w.heap.size w W → RdRt W W.heap.size Ag g.rs.length g.rs) := Lib.hid (fun W hB => by
    obtain ⟨A, c, e, hr⟩ := (hg.below hB).rd
    injection e with e _ _; subst e; exact hr)
  have HTr : Hid (∀ W, Below w.heap.size w W → RdRt W W.heap.size At t.rs.length t.rs) := Lib.hid (fun W hB => by
    obtain ⟨A, c, e, hr⟩ := (ht.below hB).rd
    injection e with e _ _; subst e; exact hr)
  have C5 : Hid (∀ W, Blk W (w.heap.size + 1) 108 (sdg g Ag cg).toArray → W.cell? ⟨w.heap.size + 1, 17, none⟩ = some (.slice Ag g.rs.length cg)) := Lib.hid (fun W h => by rw [h.cell]; exact sdc_17 hgl)
  have C6 : Hid (∀ W, Blk W (w.heap.size + 2) 108 (sdg t At ct).toArray → W.cell? ⟨w.heap.size + 2, 17, none⟩ = some (.slice At t.rs.length ct)) := Lib.hid (fun W h => by rw [h.cell]; exact sdc_17 htl)
  have C6n : Hid (∀ W, Blk W (w.heap.size + 2) 108 (sdg t At ct).toArray → W.rangeAt (w.heap.size + 2) 0 (ipc t.nv t.nl)) := Lib.hid (fun W h => range_pre (ds := [.slice At t.rs.length ct, .int .i64 t.wr]) h.range)
  have HU : Hid (upOf a g t c = if c = 2 then ⟨Att.zero, false, z16, [], g.rs ++ t.rs⟩ else if t.rs = [] then ⟨Att.zero, false, z16, [], g.rs⟩ else ⟨a, t.nv, t.nl, t.rs, g.rs⟩) := Lib.hid rfl
  have HTe : Hid (t.rs = [] ↔ t.rs.length = 0) := Lib.hid ⟨fun h => by rw [h]; rfl, List.eq_nil_of_length_eq_zero⟩
  have HLo := Lib.hid hlo
  generalize upOf a g t c = U at *
  generalize sdg g Ag cg = sg at *
  generalize sdg t At ct = st at *
  generalize hng : g.rs.length = ng at *
  generalize hnt : t.rs.length = nt at *
  have HNt := Lib.hid hnt
  have HNg := Lib.hid hng
  clear ha hg ht hgl htl hng hnt hlo
  have d5 := C5.out _ HS.out.b5
  have d6 := C6.out _ HS.out.b6
  by_cases hc : c = 2
  · have q2 : (c == 2) = true := by simpa using hc
    rw [if_pos hc] at HU
    clear hc
    go_enter Tryz.func67, Tryz.ntmps67
    go_wp2_with fail
    generalize hW0 : ((((w.alloc (.cells xs.toArray 31)).alloc (.cells sg.toArray 108)).alloc (.cells st.toArray 108)).alloc (.cells #[.int .i64 0, .slice none 0 0, .bool false, .int .u32 0, .int .u32 0, .int .u32 0, .slice none 0 0, .slice none 0 0, .int .i64 0, .int .u32 0, .bool false, .int .u8 0, .int .u8 0, .int .u8 0, .int .u8 0, .int .u8 0, .int .u8 0, .int .u8 0, .int .u8 0, .int .u8 0, .int .u8 0, .int .u8 0, .int .u8 0, .int .u8 0, .int .u8 0, .int .u8 0, .int .u8 0, .bool false, .int .u8 0, .int .u8 0, .int .u8 0, .int .u8 0, .int .u8 0, .int .u8 0, .int .u8 0, .int .u8 0, .int .u8 0, .int .u8 0, .int .u8 0, .int .u8 0, .int .u8 0, .int .u8 0, .int .u8 0, .int .u8 0, .slice none 0 0, .slice none 0 0] 34)) = W0 at *
    have HL := Lib.hid (concatR_is _ _ 2 2 _ (rdlr_two W0 Ag ng cg At nt ct (HGr.out W0 HS.out.low) (HTr.out W0 HS.out.low)) (by omega) (by simp only [List.flatten_cons, List.flatten_nil, List.append_nil, List.length_append]; have := HNt.out; have := HNg.out; omega))
    have HS1 := Lib.hid (HS.out.below (bl_one W0 (.cells #[.slice Ag ng cg, .slice At nt ct] 32)))
    have hsz : W0.heap.size = w.heap.size + 1 + 1 + 1 + 1 := by rw [← hW0]; simp
    rw [hsz] at HL
    clear d5 d6 HS hW0 hsz
    with_reducible refine HL.out.mono ?_
    rintro e W1 ⟨v, rfl, hO, hB⟩
    obtain ⟨A3, c3, rfl, _⟩ := hO.rd
    generalize hn3 : ([g.rs, t.rs] : List (List Rt)).flatten.length = n3 at *
    have HS2 := Lib.hid (HS1.out.below hB)
    obtain ⟨Z8, h8, z8⟩ := HS2.out.b8
    have H8 := Lib.hid h8
    have HZ8 := Lib.hid z8
    have HOne : Hid (∀ v ∈ upc zat false z16 (.slice none 0 0) (.slice A3 n3 c3), v.oneCell' = true) := Lib.hid (upc_one (one_attV _ rfl rfl rfl) rfl rfl)
    have hp8 := HS2.out.put8 (upc zat false z16 (.slice none 0 0) (.slice A3 n3 c3)).toArray (by rfl)
    have HP8 := Lib.hid hp8
    have hO2 : OwnRt lo (W1.setRow (w.heap.size + 3) (upc zat false z16 (.slice none 0 0) (.slice A3 n3 c3)).toArray) (.slice A3 n3 c3) (g.rs ++ t.rs) := by
      have h1 := hO.grown (row_grown W1 (w.heap.size + 3) (upc zat false z16 (.slice none 0 0) (.slice A3 n3 c3)).toArray) (by have := HS1.out.b8; obtain ⟨_, h, _⟩ := this; exact h.lt)
      simp only [List.flatten_cons, List.flatten_nil, List.append_nil] at h1
      refine h1.low ?_
      have := HS1.out.low.size
      have := HLo.out
      omega
    have HEnd : Hid (UofP w lo U (.returned (.agg (upc zat false z16 (.slice none 0 0) (.slice A3 n3 c3)).toArray)) (W1.setRow (w.heap.size + 3) (upc zat false z16 (.slice none 0 0) (.slice A3 n3 c3)).toArray)) := Lib.hid (by
      rw [HU.out]
      exact ⟨_, rfl, ⟨⟨zat, _, _, rfl, isAt_zero _ _, OwnRt.nil_ _ _, hO2⟩, rfl⟩, HP8.out.1.low⟩)
    clear hO hB h8 z8 hp8 hO2 hn3
    go_wp2_with (first
      | (refine up_build rfl _ rfl A3 n3 c3 rfl ?_)
      | (refine up_store rfl _ _ rfl (w.heap.size + 3) (upc zat false z16 (.slice none 0 0) (.slice A3 n3 c3)) (by rfl) HOne.out rfl rfl 34 Z8 H8.out HZ8.out ?_)
      | fail)
    try simp only [Exit.inBlock, Exit.then]
    exact bodyPost_ret (results_cell_row rfl _ _ (w.heap.size + 3) 34 _ (0, 0) _ rfl HP8.out.2 Tryz.underlying34 rfl (by rw [usz]; rfl)) rfl HEnd.out
  · have q2 : (c == 2) = false := by simpa using hc
    rw [if_neg hc] at HU
    clear hc
    have HOneV : Hid (∀ v ∈ upc zat false z16 (.slice none 0 0) (.slice Ag ng cg), v.oneCell' = true) := Lib.hid (upc_one (one_attV _ rfl rfl rfl) rfl rfl)
    rcases Nat.eq_zero_or_pos nt with h0 | h0
    · have HRn := Lib.hid (HTe.out.2 h0)
      rw [if_pos HRn.out] at HU
      subst h0
      have HUp : Hid (∀ W', Below w.heap.size w W' → IsUp lo W' (upc zat false z16 (.slice none 0 0) (.slice Ag ng cg)) U) := Lib.hid (fun W' hB => by
        rw [HU.out]
        exact ⟨⟨zat, _, _, rfl, isAt_zero _ _, OwnRt.nil_ _ _, HG.out W' hB⟩, rfl⟩)
      go_enter Tryz.func67, Tryz.ntmps67
      go_wp2_with (first
        | (refine up_build rfl _ rfl Ag ng cg rfl ?_)
        | (refine up_store_to rfl _ _ rfl (w.heap.size + 1 + 1 + 1 + 1) (upc zat false z16 (.slice none 0 0) (.slice Ag ng cg)) (by rfl) HOneV.out rfl rfl 34 _ (by have := Blk.new ((((w.alloc (.cells xs.toArray 31)).alloc (.cells sg.toArray 108)).alloc (.cells st.toArray 108)).alloc (.cells #[.int .i64 0, .slice none 0 0, .bool false, .int .u32 0, .int .u32 0, .int .u32 0, .slice none 0 0, .slice none 0 0, .int .i64 0, .int .u32 0, .bool false, .int .u8 0, .int .u8 0, .int .u8 0, .int .u8 0, .int .u8 0, .int .u8 0, .int .u8 0, .int .u8 0, .int .u8 0, .int .u8 0, .int .u8 0, .int .u8 0, .int .u8 0, .int .u8 0, .int .u8 0, .int .u8 0, .bool false, .int .u8 0, .int .u8 0, .int .u8 0, .int .u8 0, .int .u8 0, .int .u8 0, .int .u8 0, .int .u8 0, .int .u8 0, .int .u8 0, .int .u8 0, .int .u8 0, .int .u8 0, .int .u8 0, .int .u8 0, .int .u8 0, .slice none 0 0, .slice none 0 0] 34)) 34 #[.int .i64 0, .slice none 0 0, .bool false, .int .u32 0, .int .u32 0, .int .u32 0, .slice none 0 0, .slice none 0 0, .int .i64 0, .int .u32 0, .bool false, .int .u8 0, .int .u8 0, .int .u8 0, .int .u8 0, .int .u8 0, .int .u8 0, .int .u8 0, .int .u8 0, .int .u8 0, .int .u8 0, .int .u8 0, .int .u8 0, .int .u8 0, .int .u8 0, .int .u8 0, .int .u8 0, .bool false, .int .u8 0, .int .u8 0, .int .u8 0, .int .u8 0, .int .u8 0, .int .u8 0, .int .u8 0, .int .u8 0, .int .u8 0, .int .u8 0, .int .u8 0, .int .u8 0, .int .u8 0, .int .u8 0, .int .u8 0, .int .u8 0, .slice none 0 0, .slice none 0 0]; rwa [show ((((w.alloc (.cells xs.toArray 31)).alloc (.cells sg.toArray 108)).alloc (.cells st.toArray 108)).alloc (.cells #[.int .i64 0, .slice none 0 0, .bool false, .int .u32 0, .int .u32 0, .int .u32 0, .slice none 0 0, .slice none 0 0, .int .i64 0, .int .u32 0, .bool false, .int .u8 0, .int .u8 0, .int .u8 0, .int .u8 0, .int .u8 0, .int .u8 0, .int .u8 0, .int .u8 0, .int .u8 0, .int .u8 0, .int .u8 0, .int .u8 0, .int .u8 0, .int .u8 0, .int .u8 0, .int .u8 0, .bool false, .int .u8 0, .int .u8 0, .int .u8 0, .int .u8 0, .int .u8 0, .int .u8 0, .int .u8 0, .int .u8 0, .int .u8 0, .int .u8 0, .int .u8 0, .int .u8 0, .int .u8 0, .int .u8 0, .int .u8 0, .int .u8 0, .slice none 0 0, .slice none 0 0] 34)).heap.size = w.heap.size + 1 + 1 + 1 + 1 by simp] at this) (by rfl) (fun W => UoS w W xs sg st ∧ Blk W (w.heap.size + 1 + 1 + 1 + 1) 34 (upc zat false z16 (.slice none 0 0) (.slice Ag ng cg)).toArray) (up_nine HS.out (by simp) _ _) ?_; intro W9 hW9; have HW9 := Lib.hid hW9; clear d5 d6; have d6 := C6.out _ hW9.1.b6; clear hW9)
        | (refine part_fetch rfl 34 _ rfl (w.heap.size + 1 + 1 + 1 + 1) 0 (upc zat false z16 (.slice none 0 0) (.slice Ag ng cg)) _ rfl HW9.out.2.range Tryz.underlying34 rfl (by rw [usz]; rfl) ?_; obtain ⟨Z8, h8, z8⟩ := HW9.out.1.b8; have H8 := Lib.hid h8; have HZ8 := Lib.hid z8; clear h8 z8)
        | (refine up_store rfl _ _ rfl (w.heap.size + 3) (upc zat false z16 (.slice none 0 0) (.slice Ag ng cg)) (by rfl) HOneV.out rfl rfl 34 Z8 H8.out HZ8.out ?_)
        | fail)
      try simp only [Exit.inBlock, Exit.then]
      exact bodyPost_ret (results_cell_row rfl _ _ (w.heap.size + 3) 34 _ (0, 0) _ rfl (H8.out.setRow _) Tryz.underlying34 rfl (by rw [usz]; rfl)) rfl (up_end HW9.out.1 HUp.out (by rfl))
    · have HRn : Hid (¬ t.rs = []) := Lib.hid (fun h => by have := HTe.out.1 h; omega)
      have hgt : (nt : Int) > 0 := by omega
      rw [if_neg HRn.out] at HU
      have HUp : Hid (∀ W', Below w.heap.size w W' → IsUp lo W' (upc xs t.nv t.nl (.slice At nt ct) (.slice Ag ng cg)) U) := Lib.hid (fun W' hB => by
        rw [HU.out]
        exact ⟨⟨xs, _, _, rfl, HA.out W' hB, HT.out W' hB, HG.out W' hB⟩, HTl.out⟩)
      have HOneU : Hid (∀ v ∈ upc xs t.nv t.nl (.slice At nt ct) (.slice Ag ng cg), v.oneCell' = true) := Lib.hid (upc_one HA1.out rfl rfl)
      have HLenU : Hid ((upc xs t.nv t.nl (.slice At nt ct) (.slice Ag ng cg)).length = 46) := Lib.hid (upc_len HAl.out HTl.out)
      go_enter Tryz.func67, Tryz.ntmps67
      go_wp2_with (first
        | (refine up_build rfl _ rfl Ag ng cg rfl ?_)
        | (refine up_store_to rfl _ _ rfl (w.heap.size + 1 + 1 + 1 + 1) (upc zat false z16 (.slice none 0 0) (.slice Ag ng cg)) (by rfl) HOneV.out rfl rfl 34 _ (by have := Blk.new ((((w.alloc (.cells xs.toArray 31)).alloc (.cells sg.toArray 108)).alloc (.cells st.toArray 108)).alloc (.cells #[.int .i64 0, .slice none 0 0, .bool false, .int .u32 0, .int .u32 0, .int .u32 0, .slice none 0 0, .slice none 0 0, .int .i64 0, .int .u32 0, .bool false, .int .u8 0, .int .u8 0, .int .u8 0, .int .u8 0, .int .u8 0, .int .u8 0, .int .u8 0, .int .u8 0, .int .u8 0, .int .u8 0, .int .u8 0, .int .u8 0, .int .u8 0, .int .u8 0, .int .u8 0, .int .u8 0, .bool false, .int .u8 0, .int .u8 0, .int .u8 0, .int .u8 0, .int .u8 0, .int .u8 0, .int .u8 0, .int .u8 0, .int .u8 0, .int .u8 0, .int .u8 0, .int .u8 0, .int .u8 0, .int .u8 0, .int .u8 0, .int .u8 0, .slice none 0 0, .slice none 0 0] 34)) 34 #[.int .i64 0, .slice none 0 0, .bool false, .int .u32 0, .int .u32 0, .int .u32 0, .slice none 0 0, .slice none 0 0, .int .i64 0, .int .u32 0, .bool false, .int .u8 0, .int .u8 0, .int .u8 0, .int .u8 0, .int .u8 0, .int .u8 0, .int .u8 0, .int .u8 0, .int .u8 0, .int .u8 0, .int .u8 0, .int .u8 0, .int .u8 0, .int .u8 0, .int .u8 0, .int .u8 0, .bool false, .int .u8 0, .int .u8 0, .int .u8 0, .int .u8 0, .int .u8 0, .int .u8 0, .int .u8 0, .int .u8 0, .int .u8 0, .int .u8 0, .int .u8 0, .int .u8 0, .int .u8 0, .int .u8 0, .int .u8 0, .int .u8 0, .slice none 0 0, .slice none 0 0]; rwa [show ((((w.alloc (.cells xs.toArray 31)).alloc (.cells sg.toArray 108)).alloc (.cells st.toArray 108)).alloc (.cells #[.int .i64 0, .slice none 0 0, .bool false, .int .u32 0, .int .u32 0, .int .u32 0, .slice none 0 0, .slice none 0 0, .int .i64 0, .int .u32 0, .bool false, .int .u8 0, .int .u8 0, .int .u8 0, .int .u8 0, .int .u8 0, .int .u8 0, .int .u8 0, .int .u8 0, .int .u8 0, .int .u8 0, .int .u8 0, .int .u8 0, .int .u8 0, .int .u8 0, .int .u8 0, .int .u8 0, .bool false, .int .u8 0, .int .u8 0, .int .u8 0, .int .u8 0, .int .u8 0, .int .u8 0, .int .u8 0, .int .u8 0, .int .u8 0, .int .u8 0, .int .u8 0, .int .u8 0, .int .u8 0, .int .u8 0, .int .u8 0, .int .u8 0, .slice none 0 0, .slice none 0 0] 34)).heap.size = w.heap.size + 1 + 1 + 1 + 1 by simp] at this) (by rfl) (fun W => UoS w W xs sg st ∧ Blk W (w.heap.size + 1 + 1 + 1 + 1) 34 (upc zat false z16 (.slice none 0 0) (.slice Ag ng cg)).toArray) (up_nine HS.out (by simp) _ _) ?_; intro W9 hW9; have HW9 := Lib.hid hW9; clear d5 d6; have d6 := C6.out _ hW9.1.b6; clear hW9)
        | fail)
      have HW10 := Lib.hid (show UoS w W9.drew xs sg st ∧ Blk W9.drew (w.heap.size + 1 + 1 + 1 + 1) 34 (upc zat false z16 (.slice none 0 0) (.slice Ag ng cg)).toArray from ⟨HW9.out.1.below (bl_drew _), HW9.out.2⟩)
      clear d6 HW9
      generalize hb9 : w.heap.size + 1 + 1 + 1 + 1 = b9 at *
      have hblt : w.heap.size + 3 < b9 := by omega
      clear hb9
      refine wp_region_held_drew (S := fun W => UoS w W xs sg st ∧ ∃ Z, Blk W b9 34 Z ∧ Z.size = 46) (by kernel_rfl) (⟨HW10.out.1, _, HW10.out.2, by rfl⟩) (fun hS => ?_)
      refine wpAnyH_take (i := 0) (oi := ⟨some 26, _, _, _, _, _⟩) rfl (by kernel_rfl) (by kernel_rfl) (by kernel_rfl) (fun _ _ _ h => h) (yieldsIf_load_mid (by rfl) 31 _ rfl _ _ rfl (xs) _ (fun wq hq => hq.1.b4.range) Tryz.underlying31 rfl (by rw [asz, HAl.out])) hS ?_
      try simp only [Act.put, zP, zQ, zR]
      refine wpAnyH_take (i := 1) (oi := ⟨some 27, _, _, _, _, _⟩) (v := ?_) rfl (by kernel_rfl) (by kernel_rfl) (by kernel_rfl) (fun _ _ _ h => h) (Or.inl ⟨by rfl, ?_⟩) hS ?_
      rotate_left
      · intro wq hq
        first | (go_simp; done) | (go_simp; rfl)
      try simp only [Act.put, zP, zQ, zR]
      refine wpAnyH_take (i := 2) (oi := ⟨some 28, _, _, _, _, _⟩) rfl (by kernel_rfl) (by kernel_rfl) (by kernel_rfl) (fun _ _ _ h => h) (yieldsIf_load_mid (by rfl) 27 _ rfl _ _ rfl (ipc t.nv t.nl) _ (fun wq hq => C6n.out _ hq.1.b6) Tryz.underlying27 rfl (by rw [ip_sz, ipc_len, HTl.out])) hS ?_
      try simp only [Act.put, zP, zQ, zR]
      refine wpAnyH_take (i := 3) (oi := ⟨some 29, _, _, _, _, _⟩) (v := ?_) rfl (by kernel_rfl) (by kernel_rfl) (by kernel_rfl) (fun _ _ _ h => h) (Or.inl ⟨by rfl, ?_⟩) hS ?_
      rotate_left
      · intro wq hq
        first | (go_simp; done) | (go_simp; rfl)
      try simp only [Act.put, zP, zQ, zR]
      refine wpAnyH_take (i := 4) (oi := ⟨some 30, _, _, _, _, _⟩) (v := ?_) rfl (by kernel_rfl) (by kernel_rfl) (by kernel_rfl) (fun _ _ _ h => h) (Or.inl ⟨by rfl, ?_⟩) hS ?_
      rotate_left
      · intro wq hq
        have c6 := C6.out _ hq.1.b6
        first | (go_simp; done) | (go_simp; rfl)
      try simp only [Act.put, zP, zQ, zR]
      refine wpAnyH_take (i := 5) (oi := ⟨some 31, _, _, _, _, _⟩) (v := ?_) rfl (by kernel_rfl) (by kernel_rfl) (by kernel_rfl) (fun _ _ _ h => h) (Or.inl ⟨by rfl, ?_⟩) hS ?_
      rotate_left
      · intro wq hq
        first | (go_simp; done) | (go_simp; rfl)
      try simp only [Act.put, zP, zQ, zR]
      have h9 := HW10.out.2
      generalize W9.drew = X0 at *
      clear HW10
      have hz27 : zat.length = 27 := by rfl
      have t0 : X0.there b9 0 xs.length := blk_there h9 0 _ (by rw [upc_len hz27 (by rfl), HAl.out]; omega)
      refine wpAnyH_ready (rs := [6]) (by kernel_rfl) (by simp) ?_
      refine AllReadyH.cons (o := ⟨none, _, _, _, _, _⟩) rfl (fun K hK => ?_) AllReadyH.nil
      rw [if_pos (by rfl)]
      refine wp_store_list 31 _ _ rfl b9 0 xs rfl rfl t0 (by rw [asz, HAl.out]) HA1.out ?_
      have e1 : Blk X0 b9 34 ([] ++ (zat ++ (ipc false z16 ++ [Value.slice none 0 0, Value.slice Ag ng cg]))).toArray := h9
      have h91 : Blk (X0.setCells b9 0 xs) b9 34 (xs ++ (ipc false z16 ++ [Value.slice none 0 0, Value.slice Ag ng cg])).toArray := blk_setCells xs zat [] (ipc false z16 ++ [Value.slice none 0 0, Value.slice Ag ng cg]) X0 e1 (by rw [HAl.out]; rfl)
      have hS1 := hS.1.above (low_cells X0 b9 0 xs) hblt
      refine hK.out _ _ ⟨hS1, _, h91, by simp [HAl.out, z16]⟩ (fun hS => ?_)
      clear hK K
      try simp only [Act.put, zP, zQ, zR]
      refine wpAnyH_take (i := 7) (oi := ⟨some 32, _, _, _, _, _⟩) (v := ?_) rfl (by kernel_rfl) (by kernel_rfl) (by kernel_rfl) (fun _ _ _ h => h) (Or.inl ⟨by rfl, ?_⟩) hS ?_
      rotate_left
      · intro wq hq
        first | (go_simp; done) | (go_simp; rfl)
      try simp only [Act.put, zP, zQ, zR]
      generalize X0.setCells b9 0 xs = X1 at *
      have t1 : X1.there b9 27 (ipc t.nv t.nl).length := blk_there h91 27 _ (by rw [ipc_len, HTl.out]; simp [HAl.out, z16])
      refine wpAnyH_ready (rs := [8]) (by kernel_rfl) (by simp) ?_
      refine AllReadyH.cons (o := ⟨none, _, _, _, _, _⟩) rfl (fun K hK => ?_) AllReadyH.nil
      rw [if_pos (by rfl)]
      refine wp_store_list 27 _ _ rfl b9 27 (ipc t.nv t.nl) rfl rfl t1 (by rw [ip_sz, ipc_len, HTl.out]) (one_ipcN _ _) ?_
      have h92 := blk_setCells (ipc t.nv t.nl) (ipc false z16) xs [Value.slice none 0 0, Value.slice Ag ng cg] X1 h91 (by rw [ipc_len, ipc_len, HTl.out]; rfl)
      rw [HAl.out] at h92
      have hS1 := hS.1.above (low_cells X1 b9 27 (ipc t.nv t.nl)) hblt
      refine hK.out _ _ ⟨hS1, _, h92, by simp [HAl.out, HTl.out]⟩ (fun hS => ?_)
      clear hK K t0 t1 e1 h91 hS1
      try simp only [Act.put, zP, zQ, zR]
      refine wpAnyH_take (i := 9) (oi := ⟨some 33, _, _, _, _, _⟩) (v := ?_) rfl (by kernel_rfl) (by kernel_rfl) (by kernel_rfl) (fun _ _ _ h => h) (Or.inl ⟨by rfl, ?_⟩) hS ?_
      rotate_left
      · intro wq hq
        first | (go_simp; done) | (go_simp; rfl)
      try simp only [Act.put, zP, zQ, zR]
      generalize X1.setCells b9 27 (ipc t.nv t.nl) = X2 at *
      have f44 := h92.frozen 44
      have c44 : X2.cell? ⟨b9, 44, none⟩ = some (.slice none 0 0) := by
        rw [h92.cell, List.getElem?_toArray, List.getElem?_append_right (by rw [HAl.out]; omega), HAl.out, List.getElem?_append_right (by rw [ipc_len, HTl.out]; omega), ipc_len, HTl.out]
        rfl
      refine wpAnyH_ready (rs := [10]) (by kernel_rfl) (by simp) ?_
      refine AllReadyH.cons (o := ⟨none, _, _, _, _, _⟩) rfl (fun K hK => ?_) AllReadyH.nil
      rw [if_pos (by rfl)]
      go_wp2
      have h93 := h92.set_ 44 (.slice At nt ct)
      rw [show (xs ++ (ipc t.nv t.nl ++ [Value.slice none 0 0, .slice Ag ng cg])).toArray.setIfInBounds 44 (.slice At nt ct) = (upc xs t.nv t.nl (.slice At nt ct) (.slice Ag ng cg)).toArray from by
        unfold upc
        rw [List.setIfInBounds_toArray, List.set_append_right _ _ (by rw [HAl.out]; omega), HAl.out, List.set_append_right _ _ (by rw [ipc_len, HTl.out]; omega), ipc_len, HTl.out]
        rfl] at h93
      have hlc : Below b9 X2 (X2.setCell ⟨b9, 44, none⟩ (.slice At nt ct)) := (Below.refl b9 X2).setCell (p := ⟨b9, 44, none⟩) (Nat.le_refl _) _
      have hS3 := hS.1.above hlc hblt
      refine hK.out _ _ ⟨hS3, _, h93, by simp [HLenU.out]⟩ (fun hS => ?_)
      clear hK K
      try simp only [Act.put, zP, zQ, zR]
      refine wpAnyH_done (by kernel_rfl) ?_ _
      have HX := Lib.hid hS3
      have H93 := Lib.hid h93
      generalize X2.setCell ⟨b9, 44, none⟩ (.slice At nt ct) = X3 at *
      clear hS hS3 h93 h92 hlc f44 c44 hz27
      obtain ⟨Z8, h8, z8⟩ := HX.out.b8
      have H8 := Lib.hid h8
      have HZ8 := Lib.hid z8
      clear h8 z8
      go_wp2_with (first
        | (refine part_fetch rfl 34 _ rfl b9 0 (upc xs t.nv t.nl (.slice At nt ct) (.slice Ag ng cg)) _ rfl H93.out.range Tryz.underlying34 rfl (by rw [usz, HLenU.out]) ?_)
        | (refine up_store rfl _ _ rfl (w.heap.size + 3) (upc xs t.nv t.nl (.slice At nt ct) (.slice Ag ng cg)) HLenU.out HOneU.out rfl rfl 34 Z8 H8.out HZ8.out ?_)
        | fail)
      try simp only [Exit.inBlock, Exit.then]
      exact bodyPost_ret (results_cell_row rfl _ _ (w.heap.size + 3) 34 _ (0, 0) _ rfl (H8.out.setRow _) Tryz.underlying34 rfl (by rw [usz]; simp [HLenU.out])) rfl (up_end HX.out HUp.out HLenU.out)
end Go.Proofs.YtdgoeibfggjbmaaGreatDoor
namespace Go.Proofs.YtdgoeibfggjbmaaGreatDoor
open Go.RowKit
set_option maxRecDepth 100000
set_option linter.unusedSimpArgs false
set_option linter.unusedVariables false

structure RdS (w W : World) : Prop where
  t2 : ∃ Z, Blk W w.heap.size 34 Z ∧ Z.size = 46
  t4 : ∃ Z, Blk W (w.heap.size + 1) 56 Z ∧ Z.size = 3
  low : Below w.heap.size w W
theorem RdS.below {w W W' : World} (h : RdS w W) (hB : Below W.heap.size W W') : RdS w W' := by
  obtain ⟨Z2, h2, z2⟩ := h.t2
  obtain ⟨Z4, h4, z4⟩ := h.t4
  exact ⟨⟨Z2, h2.below hB h2.lt, z2⟩, ⟨Z4, h4.below hB h4.lt, z4⟩, h.low.trans (hB.mono h.low.size)⟩
theorem RdS.sz {w W : World} (h : RdS w W) : w.heap.size + 2 ≤ W.heap.size := by
  obtain ⟨Z4, h4, z4⟩ := h.t4
  exact h4.lt
theorem rds_new (w : World) : RdS w ((w.alloc (.cells zup.toArray 34)).alloc (.cells #[.int .i64 0, .int .i64 0, .slice none 0 0] 56)) := by
  refine ⟨⟨zup.toArray, (Blk.new w 34 _).alloc _, by rfl⟩, ⟨#[.int .i64 0, .int .i64 0, .slice none 0 0], ?_, rfl⟩, ((Below.refl w.heap.size w).alloc (Nat.le_refl _) _).alloc (by simp) _⟩
  have := Blk.new (w.alloc (.cells zup.toArray 34)) 56 #[.int .i64 0, .int .i64 0, .slice none 0 0]
  simpa using this
def UpRdP (w : World) (r : Up × Int × Int × Int × List Int) (e : Ending) (w' : World) : Prop := ∃ cs A n c, e = .returned (.tuple #[.agg cs.toArray, .int .i64 r.2.1, .agg #[.int .i64 r.2.2.1, .int .i64 r.2.2.2.1, .slice A n c]]) ∧ IsUp w.heap.size w' cs r.1 ∧ OwnB w.heap.size w' (.slice A n c) r.2.2.2.2 ∧ Below w.heap.size w w'
theorem isUp_zero (lo : Nat) (w : World) : IsUp lo w zup up0 := ⟨⟨zat, _, _, rfl, isAt_zero _ _, OwnRt.nil_ _ _, OwnRt.nil_ _ _⟩, rfl⟩
theorem rd_fin {w W : World} (h : RdS w W) {cs : List Value} {U : Up} (hu : IsUp (w.heap.size + 2) W cs U) {A : Option Addr} {n c : Nat} {data : List Int} (hd : OwnB (w.heap.size + 2) W (.slice A n c) data) (cl cd sb : Int) {r : Up × Int × Int × Int × List Int} (hr : r = (U, cl, cd, sb, data)) :
    UpRdP w r (.returned (.tuple #[.agg cs.toArray, .int .i64 cl, .agg #[.int .i64 cd, .int .i64 sb, .slice A n c]])) ((W.setRow w.heap.size cs.toArray).setRow (w.heap.size + 1) #[.int .i64 cd, .int .i64 sb, .slice A n c]) := by
  subst hr
  have g1 := row_grown W w.heap.size cs.toArray
  have g2 := row_grown (W.setRow w.heap.size cs.toArray) (w.heap.size + 1) #[.int .i64 cd, .int .i64 sb, .slice A n c]
  refine ⟨cs, A, n, c, rfl, ((hu.grown g1 (by omega)).grown g2 (by omega)).low (by omega), ((hd.far g1 (by omega)).far g2 (by omega)).low (by omega), ?_⟩
  exact (h.low.trans (below_setRow _ _ _ (Nat.le_refl _))).trans (below_setRow _ _ _ (by omega))
theorem fault_store_to {ops : Array Oper} {rest : List Oper} {o : Oper} {a : Act} {w : World} {Q : Exit → Act → World → Prop} (hgd : o.guard = none) (x y : Operand) (ho : o.op = .store 56 x y) (g : Nat) (c s : Int) (A : Option Addr) (n cp : Nat)
    (hx : a.eval x = .pointer (some ⟨g, 0, none⟩)) (hy : a.eval y = .agg #[.int .i64 c, .int .i64 s, .slice A n cp]) (t : TypeId) (old : Array Value) (hg : Blk w g t old) (hold : old.size = 3) (I : World → Prop) (hI : I (w.setRow g #[.int .i64 c, .int .i64 s, .slice A n cp]))
    (h : ∀ W, I W → wpList Tryz.prog ops Q rest (a.put o.dst undef) W) : wpList Tryz.prog ops Q (o :: rest) a w := fault_store5 hgd x y ho g c s A n cp hx hy t old hg hold (h _ hI)
theorem sd_store_to {ops : Array Oper} {rest : List Oper} {o : Oper} {a : Act} {w : World} {Q : Exit → Act → World → Prop} (hgd : o.guard = none) (x y : Operand) (ho : o.op = .store 108 x y) (g : Nat) (nv : Bool) (nl : List Int) (vr : Value) (wr : Int) (hl : nl.length = 16) (h1 : vr.oneCell' = true)
    (hx : a.eval x = .pointer (some ⟨g, 0, none⟩)) (hy : a.eval y = .agg (sdc nv nl vr wr).toArray) (t : TypeId) (old : Array Value) (hg : Blk w g t old) (hold : old.size = 19) (I : World → Prop) (hI : I (w.setRow g (sdc nv nl vr wr).toArray))
    (k : ∀ W, I W → wpList Tryz.prog ops Q rest (a.put o.dst undef) W) : wpList Tryz.prog ops Q (o :: rest) a w := sd_store hgd x y ho g nv nl vr wr hl h1 hx hy t old hg hold (k _ hI)
theorem fault_fetch {ops : Array Oper} {rest : List Oper} {op : Oper} {a : Act} {W : World} {Q : Exit → Act → World → Prop} (hw : Region.wanted op (yielded ops a.tmps) = true) (x : Operand) (ho : op.op = .load 56 x) (b : Nat) (c s : Int) (A : Option Addr) (n cp : Nat) (h : Blk W b 56 #[.int .i64 c, .int .i64 s, .slice A n cp])
    (hx : a.eval x = .pointer (some ⟨b, 0, none⟩)) (k : wpList Tryz.prog ops Q rest (a.put op.dst (.agg #[.int .i64 c, .int .i64 s, .slice A n cp])) W) : wpList Tryz.prog ops Q (op :: rest) a W :=
  part_fetch hw 56 x ho b 0 [.int .i64 c, .int .i64 s, .slice A n cp] _ hx (Blk.range (cs := [.int .i64 c, .int .i64 s, .slice A n cp]) h) Tryz.underlying56 rfl (by rw [fsz]; rfl) k
theorem two_rows (W : World) (t1 t2 : TypeId) (z1 z2 c1 c2 : Array Value) :
    Below W.heap.size W ((((W.alloc (.cells z1 t1)).alloc (.cells z2 t2)).setRow W.heap.size c1).setRow (W.heap.size + 1) c2) ∧ Blk ((((W.alloc (.cells z1 t1)).alloc (.cells z2 t2)).setRow W.heap.size c1).setRow (W.heap.size + 1) c2) W.heap.size t1 c1 ∧ Blk ((((W.alloc (.cells z1 t1)).alloc (.cells z2 t2)).setRow W.heap.size c1).setRow (W.heap.size + 1) c2) (W.heap.size + 1) t2 c2 := by
  have b1 := (Blk.new W t1 z1).alloc (.cells z2 t2)
  have b2 : Blk ((W.alloc (.cells z1 t1)).alloc (.cells z2 t2)) (W.heap.size + 1) t2 z2 := by simpa using Blk.new (W.alloc (.cells z1 t1)) t2 z2
  refine ⟨?_, (b1.setRow c1).setRow_otherN (by omega) _, (b2.setRow_otherN (by omega) c1).setRow c2⟩
  exact ((((Below.refl W.heap.size W).alloc (Nat.le_refl _) _).alloc (by simp) _).trans (below_setRow _ _ _ (Nat.le_refl _))).trans (below_setRow _ _ _ (by omega))
theorem one_row (W : World) (t1 : TypeId) (z1 c1 : Array Value) : Below W.heap.size W ((W.alloc (.cells z1 t1)).setRow W.heap.size c1) ∧ Blk ((W.alloc (.cells z1 t1)).setRow W.heap.size c1) W.heap.size t1 c1 :=
  ⟨((Below.refl W.heap.size W).alloc (Nat.le_refl _) _).trans (below_setRow _ _ _ (Nat.le_refl _)), (Blk.new W t1 z1).setRow c1⟩
theorem raws_n {l : List Int} {rs : List Raw} (ho : Oct l) (h : split l = some rs) : rs.length ≤ l.length ∧ (∀ r ∈ rs, encE r = 0) ∧ ∀ r ∈ rs, r.2.2.length ≤ 65535 := by
  obtain ⟨h1, h2⟩ := split_back ho h
  refine ⟨?_, h1, fun r hr => enc_val (h1 r hr)⟩
  rw [← h2]
  have : ∀ (rs : List Raw), rs.length ≤ (joinB rs).length := by
    intro rs
    induction rs with
    | nil => simp
    | cons r rs ih =>
      have e : joinB (r :: rs) = encB r ++ joinB rs := rfl
      rw [e, List.length_append, List.length_cons]
      have := encB_pos r
      omega
  exact this rs
theorem rawsB_n {l : List Int} {rs : List Raw} (ho : Oct l) (h : rawsB l = some rs) : rs.length ≤ l.length ∧ (∀ r ∈ rs, encE r = 0) ∧ ∀ r ∈ rs, r.2.2.length ≤ 65535 := by
  unfold rawsB at h
  split at h
  · cases h
  · split at h
    · cases h
    · split at h
      · cases h
      · have := raws_n (fun x hx => ho x (List.mem_of_mem_drop (List.mem_of_mem_take hx))) h
        refine ⟨Nat.le_trans this.1 (by simp; omega), this.2⟩
theorem mx_max (a b : Int) : mx a b = max a b := by unfold mx; split <;> omega
theorem addR_len {k : Int} {body : List Int} {o : Option (List Rt × Nat)} {rs : List Rt} {m N : Nat} (ih : ∀ a b, o = some (a, b) → a.length ≤ N) (h : addR k body o = some (rs, m)) : rs.length ≤ N + 1 := by
  cases o with
  | none => simp [addR] at h
  | some x =>
    obtain ⟨a, b⟩ := x
    have := ih a b rfl
    unfold addR at h
    simp only at h
    split at h
    · split at h
      · injection h with h; injection h with h1 h2; subst h1; simp; omega
      · injection h with h; injection h with h1 h2; subst h1; omega
    · injection h with h; injection h with h1 h2; subst h1; omega
theorem readF_len : ∀ (f : Nat) (l : List Int) (rs : List Rt) (m : Nat), readF f l = some (rs, m) → rs.length ≤ l.length
  | 0, l, rs, m, h => by
    injection h with h; injection h with h1 h2; subst h1; simp
  | f + 1, [], rs, m, h => by
    injection h with h; injection h with h1 h2; subst h1; simp
  | f + 1, [_], rs, m, h => by cases h
  | f + 1, k :: n :: rest, rs, m, h => by
    simp only [readF] at h
    split at h
    · cases h
    · have := addR_len (N := (rest.drop n.toNat).length) (fun a b hab => readF_len f _ a b hab) h
      simp at this ⊢
      omega
theorem withR_len {nv : Bool} {nl l : List Int} {s : Sd} (h : withR nv nl l = some s) : s.rs.length ≤ l.length := by
  unfold withR at h
  split at h
  · rename_i rs m hr
    injection h with h
    subst h
    exact readF_len _ _ _ _ hr
  · cases h
theorem sdR_len {k : Int} {v : List Int} {s : Sd} (h : sdR k v = some s) : s.rs.length ≤ v.length := by
  unfold sdR at h
  split at h
  · cases h
  · split at h
    · injection h with h; subst h; simp [sd0]
    · split at h
      · split at h
        · cases h
        · split at h
          · split at h
            · cases h
            · have := withR_len h; simp at this; omega
          · split at h
            · split at h
              · cases h
              · have := withR_len h; simp at this; omega
            · cases h
      · have := withR_len h; simp at this; omega
theorem saidR_len {rs : List Raw} {k : Int} {s : Sd} (hv : ∀ r ∈ rs, r.2.2.length ≤ 65535) (h : saidR rs k = some s) : s.rs.length ≤ 65535 := by
  unfold saidR at h
  split at h
  · injection h with h; subst h; simp [sd0]
  · rename_i r hr
    have := sdR_len h
    have := hv r (List.mem_of_find?_eq_some hr)
    omega
set_option maxHeartbeats 4000000 in
theorem Read7_is (w : World) (E : EnvK w) (A : Option Addr) (n c : Nat) (l : List Int) (hr : Rd w w.heap.size A n l) (hm : n ≤ 1048576) : Calls Tryz.prog 25 #[.slice A n c] w (UpRdP w (upRd l)) := by
  have HS0 : Hid (RdS w ((w.alloc (.cells #[.int .i64 0, .slice none 0 0, .bool false, .int .u32 0, .int .u32 0, .int .u32 0, .slice none 0 0, .slice none 0 0, .int .i64 0, .int .u32 0, .bool false, .int .u8 0, .int .u8 0, .int .u8 0, .int .u8 0, .int .u8 0, .int .u8 0, .int .u8 0, .int .u8 0, .int .u8 0, .int .u8 0, .int .u8 0, .int .u8 0, .int .u8 0, .int .u8 0, .int .u8 0, .int .u8 0, .bool false, .int .u8 0, .int .u8 0, .int .u8 0, .int .u8 0, .int .u8 0, .int .u8 0, .int .u8 0, .int .u8 0, .int .u8 0, .int .u8 0, .int .u8 0, .int .u8 0, .int .u8 0, .int .u8 0, .int .u8 0, .int .u8 0, .slice none 0 0, .slice none 0 0] 34)).alloc (.cells #[.int .i64 0, .int .i64 0, .slice none 0 0] 56))) := Lib.hid (rds_new w)
  have HSp := Lib.hid (split7_is ((w.alloc (.cells #[.int .i64 0, .slice none 0 0, .bool false, .int .u32 0, .int .u32 0, .int .u32 0, .slice none 0 0, .slice none 0 0, .int .i64 0, .int .u32 0, .bool false, .int .u8 0, .int .u8 0, .int .u8 0, .int .u8 0, .int .u8 0, .int .u8 0, .int .u8 0, .int .u8 0, .int .u8 0, .int .u8 0, .int .u8 0, .int .u8 0, .int .u8 0, .int .u8 0, .int .u8 0, .int .u8 0, .bool false, .int .u8 0, .int .u8 0, .int .u8 0, .int .u8 0, .int .u8 0, .int .u8 0, .int .u8 0, .int .u8 0, .int .u8 0, .int .u8 0, .int .u8 0, .int .u8 0, .int .u8 0, .int .u8 0, .int .u8 0, .int .u8 0, .slice none 0 0, .slice none 0 0] 34)).alloc (.cells #[.int .i64 0, .int .i64 0, .slice none 0 0] 56)) A n c l ((hr.below HS0.out.low).more HS0.out.low.size) (by omega))
  have HRn := Lib.hid (fun rs (h : rawsB l = some rs) => rawsB_n hr.oct h)
  have hln : l.length = n := hr.len
  have HE := Lib.hid (fun W (hB : Below w.heap.size w W) => E.below hB)
  have HZl : Hid (zup.length = 46) := Lib.hid zup_len
  have HU : Hid (upRd l = match rawsB l with
    | none => (up0, 3, 3, 1, [])
    | some rs => if (readM rs).2.1 = 3 then (up0, 3, (readM rs).2.2.1, (readM rs).2.2.2.1, (readM rs).2.2.2.2)
      else match saidR rs 15 with
        | none => (up0, 3, 3, 9, firstB rs 15)
        | some g => match saidR rs 14 with
          | none => (up0, 3, 3, 9, firstB rs 14)
          | some t => (upOf (readM rs).1 g t (mx (readM rs).2.1 (classR rs g t)), mx (readM rs).2.1 (classR rs g t), 0, 0, [])) := Lib.hid rfl
  generalize upRd l = R at *
  clear hr E
  go_enter Tryz.func25, Tryz.ntmps25
  go_wp2_with fail
  refine HSp.out.mono ?_
  rintro e W1 ⟨hB, hp⟩
  have HS1 := Lib.hid (HS0.out.below hB)
  clear hB HSp HS0
  cases hrb : rawsB l with
  | none =>
    rw [hrb] at hp HU
    simp only at hp HU
    subst hp
    clear hrb HRn
    go_wp2_with fail
    refine (refused7_is W1 3 1 none 0 0).mono ?_
    rintro e W2 ⟨rfl, hB⟩
    have HS2 := Lib.hid (HS1.out.below hB)
    clear hB HS1
    obtain ⟨Z2, h2, z2⟩ := HS2.out.t2
    obtain ⟨Z4, h4, z4⟩ := HS2.out.t4
    have H2 := Lib.hid h2
    have H4 := Lib.hid (h4.setRow_otherN (g' := w.heap.size) (by omega) (zup).toArray)
    have HZ2 := Lib.hid z2
    have HZ4 := Lib.hid z4
    have HR2 := Lib.hid ((h2.setRow (zup).toArray).setRow_otherN (g' := w.heap.size + 1) (by omega) #[.int .i64 3, .int .i64 1, .slice none 0 0])
    have HR4 := Lib.hid ((h4.setRow_otherN (g' := w.heap.size) (by omega) (zup).toArray).setRow #[.int .i64 3, .int .i64 1, .slice none 0 0])
    have HEnd := Lib.hid (rd_fin HS2.out (isUp_zero _ _) (OwnB.nil_ _ _) 3 3 1 HU.out)
    clear h2 h4 z2 z4
    go_wp2_with (first
      | (refine up_store rfl _ _ rfl w.heap.size (zup) HZl.out zup_one rfl rfl 34 Z2 H2.out HZ2.out ?_)
      | (refine fault_store5 rfl _ _ rfl (w.heap.size + 1) 3 1 none 0 0 rfl rfl 56 Z4 H4.out HZ4.out ?_)
      | fail)
    try simp only [Exit.inBlock, Exit.then]
    exact bodyPost_ret (results_csc rfl _ _ w.heap.size (w.heap.size + 1) (zup) [.int .i64 3, .int .i64 1, .slice none 0 0] _ _ (.int .i64 3) rfl rfl rfl HR2.out.range (Blk.range (cs := [.int .i64 3, .int .i64 1, .slice none 0 0]) HR4.out) Tryz.underlying34 rfl (by rw [usz, HZl.out]) Tryz.underlying56 rfl (by rw [fsz]; rfl)) rfl HEnd.out
  | some rs =>
    rw [hrb] at hp HU
    simp only at hp HU
    obtain ⟨v, rfl, hO⟩ := hp
    obtain ⟨hrn, hre, hrv⟩ := HRn.out rs hrb
    clear hrb HRn
    obtain ⟨A1, c1, rfl, hc1, hrd⟩ := hO.rdc
    have HRe := Lib.hid hre
    have HRv := Lib.hid hrv
    have HRd := Lib.hid hrd
    have hrn2 : rs.length ≤ 1048576 := by omega
    have HRa := Lib.hid (Read_is W1 (HE.out _ HS1.out.low) A1 rs.length c1 rs hrd hrn2 (fun r hr => by have := hrv r hr; omega))
    have HWor := Lib.hid (worse rs [])
    generalize hrl : rs.length = rn at *
    have HRl := Lib.hid hrl
    clear hO hre hrv hrd hrl hln
    go_wp2_with fail
    refine HRa.out.mono ?_
    rintro e W2 ⟨acs, A2, n2, c2, rfl, hat, hdt, hB⟩
    have HS2 := Lib.hid (HS1.out.below hB)
    have hsz1 := HS1.out.sz
    have HAt := Lib.hid (hat.low hsz1)
    have HDt := Lib.hid (hdt.low hsz1)
    have HRd2 := Lib.hid ((HRd.out.below hB).more hB.size)
    obtain ⟨ra, hra⟩ : ∃ a, a = (readM rs).1 := ⟨_, rfl⟩
    obtain ⟨rc, hrc⟩ : ∃ a, a = (readM rs).2.1 := ⟨_, rfl⟩
    obtain ⟨r1, hr1⟩ : ∃ a, a = (readM rs).2.2.1 := ⟨_, rfl⟩
    obtain ⟨r2, hr2⟩ : ∃ a, a = (readM rs).2.2.2.1 := ⟨_, rfl⟩
    obtain ⟨rd, hrdd⟩ : ∃ a, a = (readM rs).2.2.2.2 := ⟨_, rfl⟩
    rw [← hra, ← hrc, ← hr1, ← hr2, ← hrdd] at HU
    rw [← hra] at HAt
    rw [← hrdd] at HDt
    rw [← hrc, ← hr1, ← hr2]
    clear hat hdt hB HRa hra hr1 hr2 hrdd HRd hsz1 hrc
    have HAl := Lib.hid HAt.out.len
    have HA1 := Lib.hid HAt.out.one
    have HZa : Hid (zat.length = 27) := Lib.hid rfl
    have hW2l := HS2.out.sz
    by_cases h3 : rc = 3
    · have q3 : (rc == 3) = true := by simpa using h3
      rw [if_pos h3] at HU
      clear h3
      go_wp2_with (first
      | (refine att_store5 rfl _ _ rfl W2.heap.size acs HAl.out HA1.out rfl rfl 31 zat.toArray ((Blk.new W2 31 zat.toArray).alloc _) (by rfl) ?_)
      | (refine fault_store_to rfl _ _ rfl (W2.heap.size + 1) r1 r2 A2 n2 c2 rfl rfl 56 #[.int .i64 0, .int .i64 0, .slice none 0 0] (by
          have h := Blk.new (W2.alloc (.cells zat.toArray 31)) 56 #[.int .i64 0, .int .i64 0, .slice none 0 0]
          rw [show (W2.alloc (.cells zat.toArray 31)).heap.size = W2.heap.size + 1 by simp] at h
          exact h.setRow_otherN (by omega) acs.toArray) rfl (fun W => Below W2.heap.size W2 W ∧ Blk W W2.heap.size 31 acs.toArray ∧ Blk W (W2.heap.size + 1) 56 #[.int .i64 r1, .int .i64 r2, .slice A2 n2 c2]) (two_rows W2 31 56 zat.toArray #[.int .i64 0, .int .i64 0, .slice none 0 0] acs.toArray #[.int .i64 r1, .int .i64 r2, .slice A2 n2 c2]) ?_; intro W3 hW3; have HW3 := Lib.hid hW3; clear hW3)
      | (refine fault_fetch rfl _ rfl (W2.heap.size + 1) r1 r2 A2 n2 c2 HW3.out.2.2 rfl ?_)
      | fail)
      refine (refused7_is W3 r1 r2 A2 n2 c2).mono ?_
      rintro e W4 ⟨rfl, hB⟩
      have HS4 := Lib.hid ((HS2.out.below HW3.out.1).below hB)
      have HD4 := Lib.hid ((HDt.out.below HW3.out.1).below hB)
      clear hB
      obtain ⟨Z2, h2, z2⟩ := HS4.out.t2
      obtain ⟨Z4, h4, z4⟩ := HS4.out.t4
      have H2 := Lib.hid h2
      have H4 := Lib.hid (h4.setRow_otherN (g' := w.heap.size) (by omega) (zup).toArray)
      have HZ2 := Lib.hid z2
      have HZ4 := Lib.hid z4
      have HR2 := Lib.hid ((h2.setRow (zup).toArray).setRow_otherN (g' := w.heap.size + 1) (by omega) #[.int .i64 r1, .int .i64 r2, .slice A2 n2 c2])
      have HR4 := Lib.hid ((h4.setRow_otherN (g' := w.heap.size) (by omega) (zup).toArray).setRow #[.int .i64 r1, .int .i64 r2, .slice A2 n2 c2])
      have HEnd := Lib.hid (rd_fin HS4.out (isUp_zero _ _) HD4.out 3 r1 r2 HU.out)
      clear h2 h4 z2 z4
      go_wp2_with (first
        | (refine up_store rfl _ _ rfl w.heap.size (zup) HZl.out zup_one rfl rfl 34 Z2 H2.out HZ2.out ?_)
        | (refine fault_store5 rfl _ _ rfl (w.heap.size + 1) r1 r2 A2 n2 c2 rfl rfl 56 Z4 H4.out HZ4.out ?_)
        | fail)
      try simp only [Exit.inBlock, Exit.then]
      exact bodyPost_ret (results_csc rfl _ _ w.heap.size (w.heap.size + 1) (zup) [.int .i64 r1, .int .i64 r2, .slice A2 n2 c2] _ _ (.int .i64 3) rfl rfl rfl HR2.out.range (Blk.range (cs := [.int .i64 r1, .int .i64 r2, .slice A2 n2 c2]) HR4.out) Tryz.underlying34 rfl (by rw [usz, HZl.out]) Tryz.underlying56 rfl (by rw [fsz]; rfl)) rfl HEnd.out
    · have q3 : (rc == 3) = false := by simpa using h3
      rw [if_neg h3] at HU
      clear h3
      go_wp2_with (first
      | (refine att_store5 rfl _ _ rfl W2.heap.size acs HAl.out HA1.out rfl rfl 31 zat.toArray ((Blk.new W2 31 zat.toArray).alloc _) (by rfl) ?_)
      | (refine fault_store_to rfl _ _ rfl (W2.heap.size + 1) r1 r2 A2 n2 c2 rfl rfl 56 #[.int .i64 0, .int .i64 0, .slice none 0 0] (by
          have h := Blk.new (W2.alloc (.cells zat.toArray 31)) 56 #[.int .i64 0, .int .i64 0, .slice none 0 0]
          rw [show (W2.alloc (.cells zat.toArray 31)).heap.size = W2.heap.size + 1 by simp] at h
          exact h.setRow_otherN (by omega) acs.toArray) rfl (fun W => Below W2.heap.size W2 W ∧ Blk W W2.heap.size 31 acs.toArray ∧ Blk W (W2.heap.size + 1) 56 #[.int .i64 r1, .int .i64 r2, .slice A2 n2 c2]) (two_rows W2 31 56 zat.toArray #[.int .i64 0, .int .i64 0, .slice none 0 0] acs.toArray #[.int .i64 r1, .int .i64 r2, .slice A2 n2 c2]) ?_; intro W3 hW3; have HW3 := Lib.hid hW3; clear hW3)
      | fail)
      have HS3 := Lib.hid (HS2.out.below HW3.out.1)
      have HAt3 := Lib.hid (HAt.out.below HW3.out.1)
      have HRd3 := Lib.hid ((HRd2.out.below HW3.out.1).more HW3.out.1.size)
      have H7 := Lib.hid HW3.out.2.1
      have hb7 : W2.heap.size < W3.heap.size := H7.out.lt
      generalize hb7e : W2.heap.size = b7 at *
      clear HS2 HAt HDt HRd2 HW3 hb7e
      refine (saidBy_is W3 A1 rn c1 rs 15 (Or.inr rfl) HRd3.out hrn2 (fun r hr => by have := HRv.out r hr; omega)).mono ?_
      rintro e W4 ⟨hB, nv, nl, A4, n4, c4, wr4, b4, rfl, hnl, hol, hM⟩
      have HS4 := Lib.hid (HS3.out.below hB)
      have HAt4 := Lib.hid (HAt3.out.below hB)
      have HRd4 := Lib.hid ((HRd3.out.below hB).more hB.size)
      have H74 := Lib.hid (H7.out.below hB hb7)
      have HNl := Lib.hid hnl
      have hs3 := HS3.out.sz
      clear hB HS3 HAt3 HRd3 H7 hnl hol
      cases h15 : saidR rs 15 with
      | none =>
        rw [h15] at hM HU
        have hM : b4 = false := hM
        subst hM
        obtain ⟨i, hi, hpl, hfb⟩ : ∃ (i : Nat) (hi : i < rs.length), plc rs 15 = i ∧ firstB rs 15 = encB rs[i] := by
          rcases plc_fst rs 15 with ⟨i, hi, hpl, hfst, _⟩ | ⟨_, hfst⟩
          · exact ⟨i, hi, hpl, by unfold firstB; rw [hfst]⟩
          · unfold saidR at h15; rw [hfst] at h15; cases h15
        have HFb := Lib.hid hfb
        clear h15 hfb
        go_wp2_with (first
          | (refine sd_store_to rfl _ _ rfl W4.heap.size nv nl (.slice A4 n4 c4) wr4 HNl.out rfl rfl rfl 108 _ (Blk.new W4 108 _) (by rfl) (fun W => Below W4.heap.size W4 W) (one_row W4 108 _ _).1 ?_; intro W5 hW5; have HW5 := Lib.hid hW5; clear hW5)
          | fail)
        refine (faultOf7_is W5 A1 rn c1 rs 15 i hi hpl ((HRd4.out.below HW5.out).more HW5.out.size) hc1 hrn2 (HRe.out _ (List.getElem_mem hi))).mono ?_
        rintro e W6 ⟨A6, n6, c6, rfl, hO6, hB⟩
        have HS6 := Lib.hid ((HS4.out.below HW5.out).below hB)
        have hsz6 := (HS4.out.below HW5.out).sz
        have HO6 := Lib.hid (hO6.low hsz6)
        rw [← HFb.out] at HO6
        clear hB hO6 hpl hsz6 HRd4
        go_wp2_with fail
        refine (refused7_is W6 3 9 A6 n6 c6).mono ?_
        rintro e W7 ⟨rfl, hB⟩
        have HS7 := Lib.hid (HS6.out.below hB)
        have HO7 := Lib.hid (HO6.out.below hB)
        clear hB
        obtain ⟨Z2, h2, z2⟩ := HS7.out.t2
        obtain ⟨Z4, h4, z4⟩ := HS7.out.t4
        have H2 := Lib.hid h2
        have H4 := Lib.hid (h4.setRow_otherN (g' := w.heap.size) (by omega) (zup).toArray)
        have HZ2 := Lib.hid z2
        have HZ4 := Lib.hid z4
        have HR2 := Lib.hid ((h2.setRow (zup).toArray).setRow_otherN (g' := w.heap.size + 1) (by omega) #[.int .i64 3, .int .i64 9, .slice A6 n6 c6])
        have HR4 := Lib.hid ((h4.setRow_otherN (g' := w.heap.size) (by omega) (zup).toArray).setRow #[.int .i64 3, .int .i64 9, .slice A6 n6 c6])
        have HEnd := Lib.hid (rd_fin HS7.out (isUp_zero _ _) HO7.out 3 3 9 HU.out)
        clear h2 h4 z2 z4
        go_wp2_with (first
          | (refine up_store rfl _ _ rfl w.heap.size (zup) HZl.out zup_one rfl rfl 34 Z2 H2.out HZ2.out ?_)
          | (refine fault_store5 rfl _ _ rfl (w.heap.size + 1) 3 9 A6 n6 c6 rfl rfl 56 Z4 H4.out HZ4.out ?_)
          | fail)
        try simp only [Exit.inBlock, Exit.then]
        exact bodyPost_ret (results_csc rfl _ _ w.heap.size (w.heap.size + 1) (zup) [.int .i64 3, .int .i64 9, .slice A6 n6 c6] _ _ (.int .i64 3) rfl rfl rfl HR2.out.range (Blk.range (cs := [.int .i64 3, .int .i64 9, .slice A6 n6 c6]) HR4.out) Tryz.underlying34 rfl (by rw [usz, HZl.out]) Tryz.underlying56 rfl (by rw [fsz]; rfl)) rfl HEnd.out
      | some g =>
        rw [h15] at hM HU
        obtain ⟨rfl, rfl, rfl, rfl, hO15⟩ : b4 = true ∧ nv = g.nv ∧ nl = g.nl ∧ wr4 = g.wr ∧ OwnRt W3.heap.size W4 (.slice A4 n4 c4) g.rs := hM
        simp only at HU
        have HLg := Lib.hid (saidR_len HRv.out h15)
        clear h15
        have hn4 : n4 = g.rs.length := by
          obtain ⟨A', c', he, _⟩ := hO15.rd
          injection he
        subst hn4
        have HO4 := Lib.hid (hO15.low hs3)
        clear hO15 hs3
        go_wp2_with (first
          | (refine sd_store_to rfl _ _ rfl W4.heap.size g.nv g.nl (.slice A4 g.rs.length c4) g.wr HNl.out rfl rfl rfl 108 _ (Blk.new W4 108 _) (by rfl) (fun W => Below W4.heap.size W4 W ∧ Blk W W4.heap.size 108 (sdc g.nv g.nl (.slice A4 g.rs.length c4) g.wr).toArray) (one_row W4 108 _ _) ?_; intro W5 hW5; have HW5 := Lib.hid hW5; clear hW5)
          | fail)
        have HS5 := Lib.hid (HS4.out.below HW5.out.1)
        have HAt5 := Lib.hid (HAt4.out.below HW5.out.1)
        have HRd5 := Lib.hid ((HRd4.out.below HW5.out.1).more HW5.out.1.size)
        have H75 := Lib.hid (H74.out.below HW5.out.1 H74.out.lt)
        have HO5 := Lib.hid (HO4.out.below HW5.out.1)
        have H105 := Lib.hid HW5.out.2
        have hb10 : W4.heap.size < W5.heap.size := H105.out.lt
        have hb75 : b7 < W5.heap.size := H75.out.lt
        generalize hb10e : W4.heap.size = b10 at *
        clear HS4 HAt4 HRd4 H74 HO4 HW5 hb10e
        refine (saidBy_is W5 A1 rn c1 rs 14 (Or.inl rfl) HRd5.out hrn2 (fun r hr => by have := HRv.out r hr; omega)).mono ?_
        rintro e W6 ⟨hB, nv, nl, A6, n6, c6, wr6, b6, rfl, hnl, hol, hM⟩
        have HS6 := Lib.hid (HS5.out.below hB)
        have HAt6 := Lib.hid (HAt5.out.below hB)
        have HRd6 := Lib.hid ((HRd5.out.below hB).more hB.size)
        have H76 := Lib.hid (H75.out.below hB hb75)
        have H106 := Lib.hid (H105.out.below hB hb10)
        have HO6 := Lib.hid (HO5.out.below hB)
        have HNl2 := Lib.hid hnl
        have hs5 := HS5.out.sz
        clear hB HS5 HAt5 HRd5 H75 H105 HO5 hnl hol
        cases h14 : saidR rs 14 with
        | none =>
          rw [h14] at hM HU
          have hM : b6 = false := hM
          subst hM
          obtain ⟨i, hi, hpl, hfb⟩ : ∃ (i : Nat) (hi : i < rs.length), plc rs 14 = i ∧ firstB rs 14 = encB rs[i] := by
            rcases plc_fst rs 14 with ⟨i, hi, hpl, hfst, _⟩ | ⟨_, hfst⟩
            · exact ⟨i, hi, hpl, by unfold firstB; rw [hfst]⟩
            · unfold saidR at h14; rw [hfst] at h14; cases h14
          have HFb := Lib.hid hfb
          clear h14 hfb
          go_wp2_with (first
            | (refine sd_store_to rfl _ _ rfl W6.heap.size nv nl (.slice A6 n6 c6) wr6 HNl2.out rfl rfl rfl 108 _ (Blk.new W6 108 _) (by rfl) (fun W => Below W6.heap.size W6 W) (one_row W6 108 _ _).1 ?_; intro W7 hW7; have HW7 := Lib.hid hW7; clear hW7)
            | fail)
          refine (faultOf7_is W7 A1 rn c1 rs 14 i hi hpl ((HRd6.out.below HW7.out).more HW7.out.size) hc1 hrn2 (HRe.out _ (List.getElem_mem hi))).mono ?_
          rintro e W8 ⟨A8, n8, c8, rfl, hO8, hB⟩
          have HS8 := Lib.hid ((HS6.out.below HW7.out).below hB)
          have hsz8 := (HS6.out.below HW7.out).sz
          have HO8 := Lib.hid (hO8.low hsz8)
          rw [← HFb.out] at HO8
          clear hB hO8 hpl hsz8 HRd6
          go_wp2_with fail
          refine (refused7_is W8 3 9 A8 n8 c8).mono ?_
          rintro e W9 ⟨rfl, hB⟩
          have HS9 := Lib.hid (HS8.out.below hB)
          have HO9 := Lib.hid (HO8.out.below hB)
          clear hB
          obtain ⟨Z2, h2, z2⟩ := HS9.out.t2
          obtain ⟨Z4, h4, z4⟩ := HS9.out.t4
          have H2 := Lib.hid h2
          have H4 := Lib.hid (h4.setRow_otherN (g' := w.heap.size) (by omega) (zup).toArray)
          have HZ2 := Lib.hid z2
          have HZ4 := Lib.hid z4
          have HR2 := Lib.hid ((h2.setRow (zup).toArray).setRow_otherN (g' := w.heap.size + 1) (by omega) #[.int .i64 3, .int .i64 9, .slice A8 n8 c8])
          have HR4 := Lib.hid ((h4.setRow_otherN (g' := w.heap.size) (by omega) (zup).toArray).setRow #[.int .i64 3, .int .i64 9, .slice A8 n8 c8])
          have HEnd := Lib.hid (rd_fin HS9.out (isUp_zero _ _) HO9.out 3 3 9 HU.out)
          clear h2 h4 z2 z4
          go_wp2_with (first
            | (refine up_store rfl _ _ rfl w.heap.size (zup) HZl.out zup_one rfl rfl 34 Z2 H2.out HZ2.out ?_)
            | (refine fault_store5 rfl _ _ rfl (w.heap.size + 1) 3 9 A8 n8 c8 rfl rfl 56 Z4 H4.out HZ4.out ?_)
            | fail)
          try simp only [Exit.inBlock, Exit.then]
          exact bodyPost_ret (results_csc rfl _ _ w.heap.size (w.heap.size + 1) (zup) [.int .i64 3, .int .i64 9, .slice A8 n8 c8] _ _ (.int .i64 3) rfl rfl rfl HR2.out.range (Blk.range (cs := [.int .i64 3, .int .i64 9, .slice A8 n8 c8]) HR4.out) Tryz.underlying34 rfl (by rw [usz, HZl.out]) Tryz.underlying56 rfl (by rw [fsz]; rfl)) rfl HEnd.out
        | some t =>
          rw [h14] at hM HU
          obtain ⟨rfl, rfl, rfl, rfl, hO14⟩ : b6 = true ∧ nv = t.nv ∧ nl = t.nl ∧ wr6 = t.wr ∧ OwnRt W5.heap.size W6 (.slice A6 n6 c6) t.rs := hM
          simp only at HU
          have HLt := Lib.hid (saidR_len HRv.out h14)
          clear h14
          have hn6 : n6 = t.rs.length := by
            obtain ⟨A', c', he, _⟩ := hO14.rd
            injection he
          subst hn6
          have HO14 := Lib.hid (hO14.low hs5)
          clear hO14 hs5
          go_wp2_with (first
            | (refine sd_store_to rfl _ _ rfl W6.heap.size t.nv t.nl (.slice A6 t.rs.length c6) t.wr HNl2.out rfl rfl rfl 108 _ (Blk.new W6 108 _) (by rfl) (fun W => Below W6.heap.size W6 W ∧ Blk W W6.heap.size 108 (sdc t.nv t.nl (.slice A6 t.rs.length c6) t.wr).toArray) (one_row W6 108 _ _) ?_; intro W7 hW7; have HW7 := Lib.hid hW7; have H107 := Lib.hid (H106.out.below hW7.1 H106.out.lt); clear hW7)
            | (refine sd_fetch rfl _ rfl b10 H107.out HNl.out rfl ?_)
            | (refine sd_fetch rfl _ rfl W6.heap.size HW7.out.2 HNl2.out rfl ?_)
            | fail)
          have HS7 := Lib.hid (HS6.out.below HW7.out.1)
          have HAt7 := Lib.hid (HAt6.out.below HW7.out.1)
          have HRd7 := Lib.hid ((HRd6.out.below HW7.out.1).more HW7.out.1.size)
          have H77 := Lib.hid (H76.out.below HW7.out.1 H76.out.lt)
          have HO7 := Lib.hid (HO6.out.below HW7.out.1)
          have HO147 := Lib.hid (HO14.out.below HW7.out.1)
          have H117 := Lib.hid HW7.out.2
          generalize hb11e : W6.heap.size = b11 at *
          clear HS6 HAt6 HRd6 H76 H106 HO6 HO14 HW7 hb11e
          have HCl := Lib.hid (classOf7_is W7 A1 rn c1 rs HRd7.out hrn2 g t HNl.out HNl2.out A4 c4 A6 c6)
          generalize classR rs g t = kc at *
          refine HCl.out.mono ?_
          rintro e W8 ⟨rfl, hB⟩
          have HS8 := Lib.hid (HS7.out.below hB)
          have HAt8 := Lib.hid (HAt7.out.below hB)
          have H78 := Lib.hid (H77.out.below hB H77.out.lt)
          have H108 := Lib.hid (H107.out.below hB H107.out.lt)
          have H118 := Lib.hid (H117.out.below hB H117.out.lt)
          have HO8 := Lib.hid (HO7.out.below hB)
          have HO148 := Lib.hid (HO147.out.below hB)
          clear hB HS7 HAt7 HRd7 H77 H107 H117 HO7 HO147 HCl
          rw [mx_max] at HU
          have HUo := Lib.hid (updateOf7_is W8 (w.heap.size + 2) HS8.out.sz ra acs HAt8.out g t HNl.out HNl2.out A4 c4 HO8.out A6 c6 HO148.out (by have := HLg.out; have := HLt.out; omega) (max rc kc))
          go_wp2_with (first
            | (refine part_fetch rfl 31 _ rfl b7 0 acs _ rfl H78.out.range Tryz.underlying31 rfl (by rw [asz, HAl.out]) ?_)
            | (refine sd_fetch rfl _ rfl b10 H108.out HNl.out rfl ?_)
            | (refine sd_fetch rfl _ rfl b11 H118.out HNl2.out rfl ?_)
            | fail)
          generalize max rc kc = mc at *
          refine HUo.out.mono ?_
          rintro e W9 ⟨cs, rfl, hu, hB⟩
          have HS9 := Lib.hid (HS8.out.below hB)
          have HIu := Lib.hid hu
          have HCl := Lib.hid hu.len
          have HC1 := Lib.hid hu.one
          clear hB hu HUo
          obtain ⟨Z2, h2, z2⟩ := HS9.out.t2
          obtain ⟨Z4, h4, z4⟩ := HS9.out.t4
          have H2 := Lib.hid h2
          have H4 := Lib.hid (h4.setRow_otherN (g' := w.heap.size) (by omega) (cs).toArray)
          have HZ2 := Lib.hid z2
          have HZ4 := Lib.hid z4
          have HR2 := Lib.hid ((h2.setRow (cs).toArray).setRow_otherN (g' := w.heap.size + 1) (by omega) #[.int .i64 0, .int .i64 0, .slice none 0 0])
          have HR4 := Lib.hid ((h4.setRow_otherN (g' := w.heap.size) (by omega) (cs).toArray).setRow #[.int .i64 0, .int .i64 0, .slice none 0 0])
          have HEnd := Lib.hid (rd_fin HS9.out HIu.out (OwnB.nil_ _ _) mc 0 0 HU.out)
          clear h2 h4 z2 z4
          go_wp2_with (first
            | (refine up_store rfl _ _ rfl w.heap.size (cs) HCl.out HC1.out rfl rfl 34 Z2 H2.out HZ2.out ?_)
            | (refine fault_store5 rfl _ _ rfl (w.heap.size + 1) 0 0 none 0 0 rfl rfl 56 Z4 H4.out HZ4.out ?_)
            | fail)
          try simp only [Exit.inBlock, Exit.then]
          exact bodyPost_ret (results_csc rfl _ _ w.heap.size (w.heap.size + 1) (cs) [.int .i64 0, .int .i64 0, .slice none 0 0] _ _ (.int .i64 mc) rfl rfl rfl HR2.out.range (Blk.range (cs := [.int .i64 0, .int .i64 0, .slice none 0 0]) HR4.out) Tryz.underlying34 rfl (by rw [usz, HCl.out]) Tryz.underlying56 rfl (by rw [fsz]; rfl)) rfl HEnd.out
end Go.Proofs.YtdgoeibfggjbmaaGreatDoor
