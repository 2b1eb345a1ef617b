/-
  Put together: UsG UsH.
-/
import Derived.Test.YtdgoeibfggjbmaaGreatDoorMSD
namespace Go.Proofs.YtdgoeibfggjbmaaGreatDoor
open Go.RowKit
set_option maxRecDepth 100000
set_option linter.unusedSimpArgs false
set_option linter.unusedVariables false

theorem good14 (v : List Int) : Good (rawW 128 14 v) := good_of 128 14 v 3 (by omega) (by decide) (by simp [okV])
theorem good15 (v : List Int) : Good (rawW 128 15 v) := good_of 128 15 v 3 (by omega) (by decide) (by simp [okV])
theorem keep14 (a : Att) (v : List Int) : keepR a (rawW 128 14 v) = a := by simp [keepR, rawW, keepA]
theorem keep15 (a : Att) (v : List Int) : keepR a (rawW 128 15 v) = a := by simp [keepR, rawW, keepA]
theorem fold_gone (u : Up) (a : Att) : (goneR u).foldl keepR a = a := by
  unfold goneR
  split
  · rfl
  · simp only [List.foldl_cons, List.foldl_nil, keep15]
theorem gone_good (u : Up) : ∀ r ∈ goneR u, Good r := by
  intro r hr
  unfold goneR at hr
  split at hr
  · cases hr
  · rw [List.mem_singleton.1 hr]; exact good15 _
theorem read_raws {u : Up} (hu : UpOk u) (he : upE u = 0) : readM (rawsU u) = (if u.re = [] then Att.zero else u.at_, 0, 0, 0, []) := by
  obtain ⟨_, _, h3, _, _⟩ := upE_parts he
  by_cases h : u.re = []
  · rw [if_pos h]
    have e : rawsU u = goneR u := by unfold rawsU; rw [if_pos h]
    rw [readM_fine (rawsU u) (by rw [e]; exact gone_good u) (raws_nodup u), e, fold_gone]
  · rw [if_neg h]
    have hw := (h3 h).2
    have hr : rightAt u.at_ = true := by
      cases hh : rightAt u.at_ with
      | true => rfl
      | false => unfold writeE at hw; rw [hh] at hw; exact absurd hw (by simp)
    have hg := write_good hu.at_ hr
    rw [writeR_parts] at hg
    have e : rawsU u = loR u.at_ ++ ([rawW 128 14 (reachV u)] ++ (goneR u ++ hiR u.at_)) := by unfold rawsU; rw [if_neg h]
    have hw2 := read_write hu.at_ hr
    rw [readM_fine (writeR u.at_) (write_good hu.at_ hr) (write_kinds u.at_), writeR_parts, List.foldl_append] at hw2
    have hf : (hiR u.at_).foldl keepR ((loR u.at_).foldl keepR Att.zero) = u.at_ := by injection hw2
    rw [readM_fine (rawsU u) ?_ (raws_nodup u), e]
    · simp only [List.foldl_append, List.foldl_cons, List.foldl_nil, keep14, fold_gone, hf]
    · rw [e]
      intro r hr
      simp only [List.mem_append, List.mem_singleton] at hr
      rcases hr with hr | rfl | hr | hr
      · exact hg r (List.mem_append_left _ hr)
      · exact good14 _
      · exact gone_good u r hr
      · exact hg r (List.mem_append_right _ hr)
theorem fst_of {rs : List Raw} (hn : (rs.map (·.2.1)).Nodup) {r : Raw} (hr : r ∈ rs) : fstK rs r.2.1 = some r := by
  unfold fstK
  induction rs with
  | nil => cases hr
  | cons x rs ih =>
    rw [List.map_cons, List.nodup_cons] at hn
    rcases List.mem_cons.1 hr with rfl | h
    · rw [List.find?_cons_of_pos (by simp)]
    · rw [List.find?_cons_of_neg, ih hn.2 h]
      simp only [decide_eq_true_eq]
      intro e
      exact hn.1 (e ▸ List.mem_map_of_mem h)
theorem fst_no {rs : List Raw} {k : Int} (h : ∀ r ∈ rs, r.2.1 ≠ k) : fstK rs k = none := by
  unfold fstK
  rw [List.find?_eq_none]
  intro r hr
  simpa using h r hr
theorem with_puts (nv : Bool) (nl : List Int) {rs : List Rt} (h : AllR rs) : withR nv nl (puts rs) = some ⟨nv, nl, rs, 0⟩ := by
  unfold withR
  rw [read_puts rs h]
theorem gone_said {u : Up} (h : AllR u.un) : sdR 15 (goneV u) = some ⟨false, z16, u.un, 0⟩ := by
  unfold sdR goneV
  have hl : ¬ (famB ++ puts u.un).length < 3 := by simp [famB]
  rw [if_neg hl]
  have ho : oursB (famB ++ puts u.un) = true := by simp [oursB, famB]
  rw [if_neg (by rw [ho]; decide), if_neg (by decide)]
  exact with_puts _ _ h
theorem reach_said {u : Up} (hn : u.nl.length = 16) (hr : rightB u.nv u.nl = true) (h : AllR u.re) : sdR 14 (reachV u) = some ⟨u.nv, u.nl, u.re, 0⟩ := by
  have hp := pad_take hn hr
  have hw := with_puts u.nv u.nl h
  unfold sdR reachV nextB
  generalize puts u.re = p at *
  have ho : oursB (famB ++ ([(nb u.nv : Int)] ++ (u.nl.take (nb u.nv) ++ [0]) ++ p)) = true := by simp [oursB, famB]
  have hl : (u.nl.take (nb u.nv)).length = nb u.nv := by rw [List.length_take, hn]; have := nb_le u.nv; omega
  have h4 : (famB ++ ([(nb u.nv : Int)] ++ (u.nl.take (nb u.nv) ++ [0]) ++ p)).getD 3 0 = (nb u.nv : Int) := by simp [famB]
  have hL : (famB ++ ([(nb u.nv : Int)] ++ (u.nl.take (nb u.nv) ++ [0]) ++ p)).length = 5 + nb u.nv + p.length := by
    simp only [List.length_append, hl, famB, List.length_cons, List.length_nil]; omega
  have hD : (famB ++ ([(nb u.nv : Int)] ++ (u.nl.take (nb u.nv) ++ [0]) ++ p)).drop 4 = u.nl.take (nb u.nv) ++ ([0] ++ p) := by simp [famB]
  have hD2 : (famB ++ ([(nb u.nv : Int)] ++ (u.nl.take (nb u.nv) ++ [0]) ++ p)).drop (4 + (nb u.nv + 1)) = p := by
    rw [← List.drop_drop, hD, ← List.drop_drop, List.drop_left' hl]; rfl
  have hT : ((famB ++ ([(nb u.nv : Int)] ++ (u.nl.take (nb u.nv) ++ [0]) ++ p)).drop 4).take (nb u.nv) = u.nl.take (nb u.nv) := by rw [hD, List.take_left' hl]
  generalize famB ++ ([(nb u.nv : Int)] ++ (u.nl.take (nb u.nv) ++ [0]) ++ p) = v at *
  rw [if_neg (by omega), if_neg (by rw [ho]; decide), if_pos rfl, if_neg (by omega), h4]
  cases hv : u.nv
  · rw [hv] at hL hD2 hT hp hw
    simp only [nb] at hL hD2 hT hp ⊢
    simp only [Bool.false_eq_true, if_false] at hL hD2 hT hp ⊢
    rw [if_pos (by decide), if_neg (by omega), hT, hp]
    have : v.drop 9 = p := hD2
    rw [this]
    exact hw
  · rw [hv] at hL hD2 hT hp hw
    simp only [nb] at hL hD2 hT hp ⊢
    simp only [if_true] at hL hD2 hT hp ⊢
    rw [if_neg (by decide), if_pos (by decide), if_neg (by omega), hT, hp]
    have : v.drop 21 = p := hD2
    rw [this]
    exact hw
theorem raws_15 {u : Up} (h : AllR u.un) : saidR (rawsU u) 15 = some ⟨false, z16, u.un, 0⟩ := by
  unfold saidR
  by_cases hn : u.un = []
  · rw [fst_no (fun r hr => ?_)]
    · rw [hn]; rfl
    · have hg : goneR u = [] := by unfold goneR; rw [if_pos hn]
      intro e
      have hk : (15 : Int) ∈ (rawsU u).map (·.2.1) := e ▸ List.mem_map_of_mem hr
      unfold rawsU at hk
      rw [hg] at hk
      by_cases h : u.re = []
      · rw [if_pos h] at hk; cases hk
      · rw [if_neg h] at hk
        simp only [List.map_append, kinds_lo, kinds_hi, List.mem_append, List.map_nil, List.not_mem_nil, false_or] at hk
        unfold opt at hk
        rcases hk with ((hk | hk | hk | hk | hk) | hk | hk | hk)
        · simp at hk
        · split at hk <;> simp at hk
        · simp at hk
        · split at hk <;> simp at hk
        · split at hk <;> simp at hk
        · simp [rawW] at hk
        · split at hk <;> simp at hk
        · split at hk <;> simp at hk
  · have hm : rawW 128 15 (goneV u) ∈ rawsU u := by
      have hg : rawW 128 15 (goneV u) ∈ goneR u := by unfold goneR; rw [if_neg hn]; simp
      unfold rawsU
      split
      · exact hg
      · simp [hg]
    have := fst_of (raws_nodup u) hm
    have e : fstK (rawsU u) 15 = some (rawW 128 15 (goneV u)) := this
    rw [e]
    exact gone_said h
theorem raws_14 {u : Up} (hn : u.nl.length = 16) (hr : u.re ≠ [] → rightB u.nv u.nl = true) (h : AllR u.re) : saidR (rawsU u) 14 = some (if u.re = [] then sd0 else ⟨u.nv, u.nl, u.re, 0⟩) := by
  unfold saidR
  by_cases hre : u.re = []
  · rw [if_pos hre, fst_no (fun r hr => ?_)]
    intro e
    have hk : (14 : Int) ∈ (rawsU u).map (·.2.1) := e ▸ List.mem_map_of_mem hr
    unfold rawsU at hk
    rw [if_pos hre, kinds_gone] at hk
    unfold opt at hk
    split at hk <;> simp at hk
  · rw [if_neg hre]
    have hm : rawW 128 14 (reachV u) ∈ rawsU u := by unfold rawsU; rw [if_neg hre]; simp
    have := fst_of (raws_nodup u) hm
    have e : fstK (rawsU u) 14 = some (rawW 128 14 (reachV u)) := this
    rw [e]
    exact reach_said hn (hr hre) h
theorem has_of {rs : List Raw} {r : Raw} (hr : r ∈ rs) : hasK rs r.2.1 = true := by
  unfold hasK
  rcases plc_fst rs r.2.1 with ⟨i, hi, hp, _⟩ | ⟨_, hf⟩
  · rw [hp]; simp
  · exfalso
    unfold fstK at hf
    rw [List.find?_eq_none] at hf
    have := hf r hr
    simp at this
theorem raws_class {u : Up} : classR (rawsU u) ⟨false, z16, u.un, 0⟩ (if u.re = [] then sd0 else ⟨u.nv, u.nl, u.re, 0⟩) = 0 := by
  unfold classR
  by_cases hre : u.re = []
  · rw [if_pos hre, if_neg (by simp [sd0]), if_neg (by simp [sd0])]
  · rw [if_neg hre]
    have m1 : rawW 64 1 [u.at_.origin] ∈ rawsU u := by unfold rawsU; rw [if_neg hre]; simp [loR]
    have m2 : rawW 64 2 (pathW u.at_.path) ∈ rawsU u := by unfold rawsU; rw [if_neg hre]; simp [loR]
    have m5 : rawW 64 5 (be 4 u.at_.pref) ∈ rawsU u := by unfold rawsU; rw [if_neg hre]; simp [loR]
    have h1 : hasK (rawsU u) 1 = true := has_of m1
    have h2 : hasK (rawsU u) 2 = true := has_of m2
    have h5 : hasK (rawsU u) 5 = true := has_of m5
    rw [h1, h2, h5, if_neg (by simp), if_neg (by simp)]
theorem rawsB_put {u : Up} (he : upE u = 0) : rawsB (upB u) = some (rawsU u) := by
  obtain ⟨_, _, _, h4, h5⟩ := upE_parts he
  have hs := split_join (rawsU u) (joinE_all h4)
  unfold rawsB upB
  generalize joinB (rawsU u) = v at *
  have hb := be_len 2 (v.length : Int)
  have hl : ([0, 0] ++ (be 2 (v.length : Int) ++ v) : List Int).length = 4 + v.length := by simp [hb]; omega
  have e0 : ([0, 0] ++ (be 2 (v.length : Int) ++ v) : List Int).take 2 = [0, 0] := rfl
  have e1 : (([0, 0] ++ (be 2 (v.length : Int) ++ v) : List Int).drop (2 + 0)).take 2 = be 2 (v.length : Int) := by
    show (be 2 (v.length : Int) ++ v).take 2 = _
    rw [List.take_append_of_le_length (by omega), List.take_of_length_le (by omega)]
  have e2 : ([0, 0] ++ (be 2 (v.length : Int) ++ v) : List Int).drop (4 + 0) = v := by
    show (be 2 (v.length : Int) ++ v).drop 2 = v
    exact List.drop_left' hb
  rw [e0, show (numOf [0, 0]).toNat = 0 from rfl, hl, if_neg (by omega), if_neg (by omega), e1, be2_numW (v.length : Int) (by omega) (by omega), if_neg (by simp), e2, List.take_of_length_le (by simp)]
  exact hs
def wantU (u : Up) : Up := if u.re = [] then ⟨Att.zero, false, z16, [], u.un⟩ else u
theorem back_rd {u : Up} (hu : UpOk u) (he : upE u = 0) : upRd (upB u) = (wantU u, 0, 0, 0, []) := by
  obtain ⟨h1, h2, h3, h4, h5⟩ := upE_parts he
  have ha := rights_all hu.un h1
  have hb := rights_all hu.re h2
  unfold upRd
  rw [rawsB_put he]
  simp only [read_raws hu he]
  rw [if_neg (by decide), raws_15 ha, raws_14 hu.nl (fun h => (h3 h).1) hb]
  simp only [raws_class]
  unfold wantU upOf mx
  by_cases hre : u.re = []
  · simp [hre, sd0]
  · simp [hre]
end Go.Proofs.YtdgoeibfggjbmaaGreatDoor
namespace Go.Proofs.YtdgoeibfggjbmaaGreatDoor
open Go.RowKit
set_option maxRecDepth 100000
set_option linter.unusedSimpArgs false
set_option linter.unusedVariables false

def ft0 : List Value := [.int .i64 0, .int .i64 0, .slice none 0 0]
theorem built_ft0 : Tryz.prog.built 56 [] = some ft0.toArray := by kernel_rfl
theorem ft0_any {ops : Array Oper} {rest : List Oper} {o : Oper} {a : Act} {w : World} {Q : Exit → Act → World → Prop} (hgd : Region.wanted o (yielded ops a.tmps) = true) (ho : o.op = .build 56 #[])
    (h : wpList Tryz.prog ops Q rest (a.put o.dst (.agg #[.int .i64 0, .int .i64 0, .slice none 0 0])) w) : wpList Tryz.prog ops Q (o :: rest) a w :=
  BigFrame.wpList_want hgd fun _ hK => by
    unfold Oper.wp execOp
    simp only [ho, Sem.run_bind, run_build w _ _ _ (show Tryz.prog.built 56 ((#[] : Array (Nat × Operand)).map fun (i, x) => (i, a.eval x)).toList = some ft0.toArray by rw [no_parts]; exact built_ft0), Result.andThen_ok]
    exact hK _ _ h
theorem alike7_zero (w : World) (A : Option Addr) (c : Nat) (hr : Rd w w.heap.size A 0 []) : Calls Tryz.prog 27 #[.agg #[.int .i64 0, .int .i64 0, .slice A 0 c], .agg #[.int .i64 0, .int .i64 0, .slice none 0 0]] w fun e w' => e = .returned (.bool true) ∧ Below w.heap.size w w' := by
  have hB : Below w.heap.size w ((w.alloc (.cells #[.int .i64 0, .int .i64 0, .slice A 0 c] 56)).alloc (.cells #[.int .i64 0, .int .i64 0, .slice none 0 0] 56)) := ((Below.refl w.heap.size w).alloc (Nat.le_refl _) _).alloc (by simp) _
  have b1 : Blk ((w.alloc (.cells #[.int .i64 0, .int .i64 0, .slice A 0 c] 56)).alloc (.cells #[.int .i64 0, .int .i64 0, .slice none 0 0] 56)) w.heap.size 56 #[.int .i64 0, .int .i64 0, .slice A 0 c] := (Blk.new w 56 _).alloc _
  have b2 : Blk ((w.alloc (.cells #[.int .i64 0, .int .i64 0, .slice A 0 c] 56)).alloc (.cells #[.int .i64 0, .int .i64 0, .slice none 0 0] 56)) (w.heap.size + 1) 56 #[.int .i64 0, .int .i64 0, .slice none 0 0] := by
    have := Blk.new (w.alloc (.cells #[.int .i64 0, .int .i64 0, .slice A 0 c] 56)) 56 #[.int .i64 0, .int .i64 0, .slice none 0 0]
    simpa using this
  have HS := Lib.hid (same_is ((w.alloc (.cells #[.int .i64 0, .int .i64 0, .slice A 0 c] 56)).alloc (.cells #[.int .i64 0, .int .i64 0, .slice none 0 0] 56)) w.heap.size A none 0 0 c 0 [] [] (hr.below hB) (Rd.nil_ _) true (by decide))
  have HB := Lib.hid hB
  have x0 := b1.cell 0
  have x1 := b1.cell 1
  have x2 := b1.cell 2
  have y0 := b2.cell 0
  have y1 := b2.cell 1
  have y2 := b2.cell 2
  simp only [List.getElem?_toArray, List.getElem?_cons_zero, List.getElem?_cons_succ] at x0 x1 x2 y0 y1 y2
  clear hr hB b1 b2
  go_enter Tryz.func27, Tryz.ntmps27
  go_wp2_with fail
  refine HS.out.mono ?_
  rintro e w1 ⟨rfl, rfl⟩
  go_wp2
  go_ret
  exact ⟨rfl, HB.out⟩
theorem same7_mix (w : World) (lo : Nat) (u : Up) (ok : AtOk u.at_) (ho : Oct u.nl) (cs : List Value) (h1 : IsUp lo w cs u) (xs : List Value) (h2 : RdAt w w.heap.size xs u.at_) (hx : xs.length = 27) (A1 A2 : Option Addr) (n1 c1 n2 c2 : Nat) (h3 : UpRd w u A1 n1 A2 n2) (b1 : n1 ≤ 4611686018427387904) (b2 : n2 ≤ 4611686018427387904) :
    Calls Tryz.prog 23 #[.agg cs.toArray, .agg (upc xs u.nv u.nl (.slice A1 n1 c1) (.slice A2 n2 c2)).toArray] w fun e w' => e = .returned (.bool true) ∧ Below w.heap.size w w' := by
  obtain ⟨ys, vr, vu, rfl, ha, hr, hu⟩ := h1.ex
  obtain ⟨B1, d1, rfl, r1⟩ := hr.rd
  obtain ⟨B2, d2, rfl, r2⟩ := hu.rd
  have e1 := h3.re.len
  have e2 := h3.un.len
  subst e1 e2
  exact Same7_is w u ok h1.nl ho ys xs ha.rdAt h2 ha.len hx B1 B2 A1 A2 _ _ d1 d2 c1 c2 ⟨r1, r2⟩ h3 b1 b2
theorem put_ok {u : Up} (hu : UpOk u) (he : upE u = 0) (hre : u.re ≠ []) : AtOk u.at_ := by
  obtain ⟨_, _, h3, h4, _⟩ := upE_parts he
  have hw := (h3 hre).2
  have hr : rightAt u.at_ = true := by
    cases hh : rightAt u.at_ with
    | true => rfl
    | false => unfold writeE at hw; rw [hh] at hw; exact absurd hw (by simp)
  obtain ⟨p0, p1, p2, p3, p4, p5⟩ := pm_parts hr
  have hv : ∀ r ∈ rawsU u, r.2.2.length ≤ 65535 := fun r hm => enc_val (joinE_all h4 r hm)
  have hsub : ∀ r ∈ writeR u.at_, r ∈ rawsU u := by
    intro r hm
    rw [writeR_parts] at hm
    unfold rawsU
    rw [if_neg hre]
    rcases List.mem_append.1 hm with h | h
    · exact List.mem_append_left _ h
    · exact List.mem_append_right _ (List.mem_append_right _ (List.mem_append_right _ h))
  refine ⟨⟨p0, by omega, hu.at_.label.1, by omega, hu.at_.ip, hu.at_.oct⟩, ?_, ?_, ?_⟩
  · by_cases h : u.at_.path = []
    · rw [h]; simp
    · have := hv (rawW 64 2 (pathW u.at_.path)) (hsub _ (by unfold writeR; simp))
      simp only [rawW, pathW, if_neg h, List.length_append, encN_len] at this
      omega
  · by_cases h : u.at_.clus = []
    · rw [h]; simp
    · have := hv (rawW 128 10 (encN u.at_.clus)) (hsub _ (by unfold writeR opt; simp [h]))
      simp only [rawW, encN_len] at this
      omega
  · by_cases h : u.at_.comms = []
    · rw [h]; simp
    · have := hv (rawW 192 16 u.at_.comms.flatten) (hsub _ (by unfold writeR opt; simp [h]))
      simp only [rawW, (cmms_enc _ hu.at_.comms).2] at this
      omega
end Go.Proofs.YtdgoeibfggjbmaaGreatDoor
