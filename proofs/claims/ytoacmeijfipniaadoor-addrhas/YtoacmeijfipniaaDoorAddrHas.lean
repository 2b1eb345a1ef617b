/-
  AddrHas: the walk.
-/
import Derived.Test.YtoacmeijfipniaaDoorAdV
import Derived.Test.YtoacmeijfipniaaDoorHasM
import Derived.BigQuiet
import Derived.IntWalk
namespace Go.Proofs.YtoacmeijfipniaaDoor
open Go.RowKit
set_option linter.unusedSimpArgs false
set_option linter.unusedVariables false

theorem o0 : Oct (List.replicate 16 0) := by intro x h; have := (List.mem_replicate.1 h).2; omega
/-- What Cut hands back, in parts. -/
theorem cut_parts (w : World) (v : Bool) (l : List Int) (n : Int) (hl : l.length = 16) (ho : Oct l) (hn : I64 n) :
    Calls Tryd.prog 33 #[.agg (ipc v l).toArray, .int .i64 n] w fun e w' => ∃ pv pl pn err, e = .returned (.tuple #[.agg (pfc pv pl pn).toArray, .int .i64 err]) ∧ pl.length = 16 ∧ Oct pl ∧ I64 pn ∧
      ((cutB v l n = true ∧ err = 0 ∧ pv = v ∧ pl = firstBits l n ∧ pn = n) ∨ (err = 2 ∧ pv = false ∧ pl = List.replicate 16 0 ∧ pn = 0)) ∧ Below w.heap.size w w' := by
  refine (cut_is w v l n hl ho).mono ?_
  rintro e w' ⟨hB, he⟩
  cases hc : cutB v l n
  · rw [hc] at he
    exact ⟨false, List.replicate 16 0, 0, 2, he, rfl, o0, by unfold I64; omega, .inr ⟨rfl, rfl, rfl, rfl⟩, hB⟩
  · rw [hc] at he
    exact ⟨v, firstBits l n, n, 0, he, by rw [fb_len]; exact hl, fb_oct l n ho, hn, .inl ⟨rfl, rfl, rfl, rfl, rfl⟩, hB⟩
theorem eql_none (l : List Int) (h : l = List.replicate 16 0) (w : World) : (binOp .eql 51 (.agg (pfc false l 0).toArray) (.agg #[.bool false, .int .u8 0, .int .u8 0, .int .u8 0, .int .u8 0, .int .u8 0, .int .u8 0, .int .u8 0, .int .u8 0, .int .u8 0, .int .u8 0, .int .u8 0, .int .u8 0, .int .u8 0, .int .u8 0, .int .u8 0, .int .u8 0, .int .i64 0])).run Tryd.prog w = .ok (.bool true) w := by
  subst h
  exact pf_eql false false (List.replicate 16 0) (List.replicate 16 0) 0 0 rfl rfl o0 o0 (by unfold I64; omega) (by unfold I64; omega) true (by decide) w
/-- Where everything lies. -/
structure St (w wx : World) (b1 b3 : Nat) (A B P Q : List Value) : Prop where
  a : Blk wx w.heap.size 37 A.toArray
  b : Blk wx (w.heap.size + 1) 37 B.toArray
  p : Blk wx b1 51 P.toArray
  q : Blk wx b3 51 Q.toArray
  low : Below w.heap.size w wx
theorem St.on {w wx wy : World} {b1 b3 : Nat} {A B P Q : List Value} (h : St w wx b1 b3 A B P Q) (hb : Below wx.heap.size wx wy) : St w wy b1 b3 A B P Q :=
  ⟨h.a.below hb h.a.lt, h.b.below hb h.b.lt, h.p.below hb h.p.lt, h.q.below hb h.q.lt, h.low.trans (hb.mono h.low.size)⟩
theorem ipc_at (v : Bool) (l : List Int) (i : Nat) (hi : i < l.length) : (ipc v l).toArray[1 + i]? = some (.int .u8 (l.getD i 0)) := by
  rw [Nat.add_comm]; simp [List.getD, hi]
theorem and_one (x : Int) (h0 : 0 ≤ x) (h1 : x < 256) : bits .and .u8 x 1 = x % 2 := by
  obtain ⟨m, rfl⟩ := Int.eq_ofNat_of_zero_le h0
  have h : ∀ m : Fin 256, bits .and .u8 (m.val : Int) 1 = (m.val : Int) % 2 := by decide +kernel
  exact h ⟨m, by omega⟩
theorem bit_is (la lb : List Int) (j : Nat) (hx : 0 ≤ la.getD (j / 8) 0 ∧ la.getD (j / 8) 0 < 256) (hy : 0 ≤ lb.getD (j / 8) 0 ∧ lb.getD (j / 8) 0 < 256) :
    (bits .and .u8 (la.getD (j / 8) 0 / 2 ^ min (7 - j % 8) 8) 1 == bits .and .u8 (lb.getD (j / 8) 0 / 2 ^ min (7 - j % 8) 8) 1) = (bitAt la j == bitAt lb j) := by
  have hd : ∀ x : Int, 0 ≤ x ∧ x < 256 → 0 ≤ x / 2 ^ (7 - j % 8) ∧ x / 2 ^ (7 - j % 8) < 256 := fun x h => by
    have hp : (0 : Int) < 2 ^ (7 - j % 8) := Int.pow_pos (by decide)
    have h2 := Int.ediv_le_self (2 ^ (7 - j % 8)) h.1
    exact ⟨Int.ediv_nonneg h.1 (Int.le_of_lt hp), by omega⟩
  rw [Nat.min_eq_left (by omega)]
  rw [and_one _ (hd _ hx).1 (hd _ hx).2, and_one _ (hd _ hy).1 (hd _ hy).2]
  rfl
set_option maxHeartbeats 8000000 in
set_option maxRecDepth 100000 in
theorem addrHas_walk (w : World) (E : Env w) (va : Bool) (la : List Int) (vb : Bool) (lb : List Int) (n k : Int) (ha : la.length = 16) (oa : Oct la) (hb : lb.length = 16) (ob : Oct lb) (hn : I64 n) (hk : I64 k) :
    Calls Tryd.prog 8 #[.agg (ipc va la).toArray, .agg (ipc vb lb).toArray, .int .i64 n, .int .i64 k] w fun e w' => e = .returned (.bool true) ∧ Below w.heap.size w w' := by
  have hA := (Blk.new w 37 (ipc va la).toArray).alloc (.cells (ipc vb lb).toArray 37)
  have hBb := Blk.new (w.alloc (.cells (ipc va la).toArray 37)) 37 (ipc vb lb).toArray
  rw [show (w.alloc (.cells (ipc va la).toArray 37)).heap.size = w.heap.size + 1 by simp] at hBb
  have HA := Lib.hid hA
  have HB := Lib.hid hBb
  have HL : Hid (Below w.heap.size w ((w.alloc (.cells (ipc va la).toArray 37)).alloc (.cells (ipc vb lb).toArray 37))) := Lib.hid (((Below.refl w.heap.size w).alloc (Nat.le_refl _) _).alloc (by simp) _)
  clear hA hBb
  go_enter Tryd.func8, Tryd.ntmps8
  go_wp2_with (refine ip_fetch rfl _ rfl w.heap.size 0 va la ha rfl HA.out.range ?_)
  refine (cut_parts _ va la n ha oa hn).mono ?_
  rintro e w1 ⟨pv, pl, pn, e1, rfl, hpl, opl, hpn, hc1, hB1⟩
  have hs : ((w.alloc (.cells (ipc va la).toArray 37)).alloc (.cells (ipc vb lb).toArray 37)).heap.size = w.heap.size + 2 := by simp
  rw [hs] at hB1
  have hs1 : w.heap.size + 2 ≤ w1.heap.size := by have := hB1.size; rw [hs] at this; exact this
  have HL1 : Hid (Below w.heap.size w w1) := Lib.hid (HL.out.trans (hB1.mono (by omega)))
  have HA1 := Lib.hid (HA.out.below hB1 (by omega))
  have HB1 := Lib.hid (HB.out.below hB1 (by omega))
  have HC1 := Lib.hid hc1
  have hP2 := Blk.setRow (Blk.new w1 51 noPf.toArray) (pfc pv pl pn).toArray
  have hq2 : Below (w1.heap.size) w1 ((w1.alloc (.cells noPf.toArray 51)).setRow w1.heap.size (pfc pv pl pn).toArray) := ((Below.refl _ w1).alloc (Nat.le_refl _) _).trans (below_setRow _ _ _ (Nat.le_refl _))
  have HL2 := Lib.hid (HL1.out.trans (hq2.mono (by omega)))
  have HA2 := Lib.hid (HA1.out.below hq2 (by omega))
  have HB2 := Lib.hid (HB1.out.below hq2 (by omega))
  have HP2 := Lib.hid hP2
  clear hB1 hc1 hs HL HA HB HL1 HA1 HB1 hP2 hq2
  go_wp2_with (first
    | (refine pf_store rfl _ _ rfl w1.heap.size pv pl pn hpl rfl rfl 51 noPf.toArray (Blk.new w1 51 noPf.toArray) rfl ?_)
    | (refine ip_fetch rfl _ rfl w.heap.size 0 va la ha rfl HA2.out.range ?_))
  refine (cut_parts _ va la k ha oa hk).mono ?_
  rintro e w3 ⟨qv, ql, qn, e2, rfl, hql, oql, hqn, hc2, hB3⟩
  rw [size_sra] at hB3
  have hs3 : w1.heap.size + 1 ≤ w3.heap.size := by have := hB3.size; rw [size_sra] at this; exact this
  have HL3 := Lib.hid (HL2.out.trans (hB3.mono (by omega)))
  have HA3 := Lib.hid (HA2.out.below hB3 (by omega))
  have HB3 := Lib.hid (HB2.out.below hB3 (by omega))
  have HP3 := Lib.hid (HP2.out.below hB3 (by omega))
  have HC2 := Lib.hid hc2
  have hQ4 := Blk.setRow (Blk.new w3 51 noPf.toArray) (pfc qv ql qn).toArray
  have hq4 : Below (w3.heap.size) w3 ((w3.alloc (.cells noPf.toArray 51)).setRow w3.heap.size (pfc qv ql qn).toArray) := ((Below.refl _ w3).alloc (Nat.le_refl _) _).trans (below_setRow _ _ _ (Nat.le_refl _))
  have HL4 := Lib.hid (HL3.out.trans (hq4.mono (by omega)))
  have HA4 := Lib.hid (HA3.out.below hq4 (by omega))
  have HB4 := Lib.hid (HB3.out.below hq4 (by omega))
  have HP4 := Lib.hid (HP3.out.below hq4 (by omega))
  have HQ4 := Lib.hid hQ4
  clear hB3 hc2 HL2 HA2 HB2 HP2 HL3 HA3 HB3 HP3 hQ4 hq4
  have hs4 : w3.heap.size + 1 = ((w3.alloc (.cells noPf.toArray 51)).setRow w3.heap.size (pfc qv ql qn).toArray).heap.size := (size_sra _ _ _ _).symm
  by_cases hok : e1 = 0 ∧ e2 = 0
  · obtain ⟨rfl, rfl⟩ := hok
    have hcA : cutB va la n = true := by
      rcases HC1.out with h | h
      · exact h.1
      · exact absurd h.1 (by decide)
    have hcK : cutB va la k = true := by
      rcases HC2.out with h | h
      · exact h.1
      · exact absurd h.1 (by decide)
    obtain ⟨rfl, rfl, rfl⟩ : pv = va ∧ pl = firstBits la n ∧ pn = n := by
      rcases HC1.out with h | h
      · exact h.2.2
      · exact absurd h.1 (by decide)
    obtain ⟨rfl, rfl, rfl⟩ : qv = pv ∧ ql = firstBits la k ∧ qn = k := by
      rcases HC2.out with h | h
      · exact h.2.2
      · exact absurd h.1 (by decide)
    have HS4 : Hid (St w ((w3.alloc (.cells noPf.toArray 51)).setRow w3.heap.size (pfc qv (firstBits la qn) qn).toArray) w1.heap.size w3.heap.size (ipc qv la) (ipc vb lb) (pfc qv (firstBits la pn) pn) (pfc qv (firstBits la qn) qn)) := Lib.hid ⟨HA4.out, HB4.out, HP4.out, HQ4.out, HL4.out⟩
    have hbd := cut_bd hcA
    have T1 : Hid (hasB qv (firstBits la pn) pn qv la = true) := Lib.hid (has_own _ _ _ hcA)
    have T2 : Hid (hasB qv (firstBits la qn) qn qv la = true) := Lib.hid (has_own _ _ _ hcK)
    have T3 : Hid (pn ≤ qn → hasB qv (firstBits la pn) pn qv (firstBits la qn) = true) := Lib.hid (has_cut _ _ _ _ ha hcA hcK)
    have T4 : Hid (hasB qv (firstBits la pn) pn vb lb = sameTo qv la vb lb pn.toNat) := Lib.hid (same_has qv la pn vb lb ha hb oa ob hcA)
    clear HC1 HC2 hcA hcK HA4 HB4 HP4 HQ4 HL4
    generalize firstBits la pn = fp at *
    generalize firstBits la qn = fq at *
    go_wp2_with (first
      | (refine pf_store rfl _ _ rfl w3.heap.size qv fq qn hql rfl rfl 51 noPf.toArray (Blk.new w3 51 noPf.toArray) rfl ?_)
      | (refine pf_fetch rfl _ rfl w1.heap.size qv fp pn hpl rfl HS4.out.p.range ?_)
      | (refine ip_fetch rfl _ rfl w.heap.size 0 qv la ha rfl HS4.out.a.range ?_))
    refine (has_is _ qv fp pn qv la hpl opl ha oa hn).mono ?_
    rintro e w5 ⟨rfl, hB5⟩
    rw [T1.out]
    have HS5 := Lib.hid (HS4.out.on hB5)
    clear hB5 HS4 T1
    go_wp2_with (first
      | (refine pf_fetch rfl _ rfl w3.heap.size qv fq qn hql rfl HS5.out.q.range ?_)
      | (refine ip_fetch rfl _ rfl w.heap.size 0 qv la ha rfl HS5.out.a.range ?_))
    refine (has_is w5 qv fq qn qv la hql oql ha oa hk).mono ?_
    rintro e w6 ⟨rfl, hB6⟩
    rw [T2.out]
    have HS6 := Lib.hid (HS5.out.on hB6)
    clear hB6 HS5 T2
    by_cases hnk : pn ≤ qn
    · have H3 := Lib.hid (T3.out hnk)
      clear T3
      go_wp2_with (first
        | (refine pf_fetch rfl _ rfl w1.heap.size qv fp pn hpl rfl HS6.out.p.range ?_)
        | (refine ip_fetch rfl _ rfl w3.heap.size 0 qv fq hql rfl (range_pre HS6.out.q.range) ?_))
      refine (has_is _ qv fp pn qv fq hpl opl hql oql hn).mono ?_
      rintro e w7 ⟨rfl, hB7⟩
      rw [H3.out]
      have HS7 := Lib.hid (HS6.out.on hB7)
      clear hB7 HS6 H3
      go_wp2_with (refine ip_fetch rfl _ rfl (w.heap.size + 1) 0 vb lb hb rfl HS7.out.b.range ?_)
      refine (right_is _ vb lb hb ob).mono ?_
      rintro e w8 ⟨rfl, hB8⟩
      have HS8 := Lib.hid (HS7.out.on hB8)
      clear hB8 HS7
      have ca : w8.cell? ⟨w.heap.size, 0, none⟩ = some (.bool qv) := HS8.out.a.cell 0
      have cb : w8.cell? ⟨w.heap.size + 1, 0, none⟩ = some (.bool vb) := HS8.out.b.cell 0
      have H0 : Hid (sameTo qv la vb lb 0 = ((rightB vb lb && qv == vb) && true)) := Lib.hid rfl
      cases hr : rightB vb lb
      · rw [hr] at H0
        clear hr
        go_wp2
        go_loopw [13, 14] (fun sm i wr => ∃ j : Nat, (j : Int) ≤ pn ∧ i = .int .i64 j ∧ sm = .bool (sameTo qv la vb lb j) ∧ St w wr w1.heap.size w3.heap.size (ipc qv la) (ipc vb lb) (pfc qv fp pn) (pfc qv fq qn)) (fun _ i _ => pn.toNat - (intOf i).toNat)
        case atStart => exact ⟨0, by omega, rfl, by rw [H0.out]; first | rfl | (cases qv <;> cases vb <;> rfl), HS8.out⟩
        case round =>
          obtain ⟨j, hj, rfl, rfl, hS⟩ := hrel
          have HS := Lib.hid hS
          clear hS
          by_cases hlt : (j : Int) < pn
          · cases hsm : sameTo qv la vb lb j
            · have HF : Hid (hasB qv fp pn vb lb = false) := Lib.hid (by rw [T4.out]; exact same_false _ _ _ _ j _ hsm (by omega))
              clear hsm
              have HEx := Lib.hid (E.below HS.out.low)
              clear HS8
              go_wp2_with (first
                | (refine pf_fetch rfl _ rfl w1.heap.size qv fp pn hpl rfl HS.out.p.range ?_)
                | (refine ip_fetch rfl _ rfl (w.heap.size + 1) 0 vb lb hb rfl HS.out.b.range ?_))
              refine (has_is _ qv fp pn vb lb hpl opl hb ob hn).mono ?_
              rintro e w9 ⟨rfl, hB9⟩
              rw [HF.out]
              have HL9 := Lib.hid (HS.out.low.trans (hB9.mono HS.out.low.size))
              have HAl := Lib.hid (alive_is _ (E.below HL9.out))
              have hz9 := HL9.out.size
              clear hB9 HEx HS
              go_wp2_with fail
              refine HAl.out.mono ?_
              rintro e w10 ⟨rfl, hB10⟩
              go_wp2
              go_ret
              exact ⟨rfl, HL9.out.trans (hB10.mono hz9)⟩
            · have HSt := Lib.hid (same_step qv la vb lb j)
              rw [hsm] at HSt
              clear hsm HS8 T4
              have hj8 : j / 8 < 16 := by omega
              have c1 : wr.cell? ⟨w.heap.size, 1 + j / 8, none⟩ = some (.int .u8 (la.getD (j / 8) 0)) := by rw [HS.out.a.cell]; exact ipc_at _ _ _ (by omega)
              have c2 : wr.cell? ⟨w.heap.size + 1, 1 + j / 8, none⟩ = some (.int .u8 (lb.getD (j / 8) 0)) := by rw [HS.out.b.cell]; exact ipc_at _ _ _ (by omega)
              have d1 : (j : Int).tdiv 8 = ((j / 8 : Nat) : Int) := by rw [Int.tdiv_eq_ediv_of_nonneg (by omega)]; omega
              have d2 : (j : Int).tmod 8 = ((j % 8 : Nat) : Int) := by rw [Int.tmod_eq_emod_of_nonneg (by omega)]; omega
              have ox := oa.getD (j / 8)
              have oy := ob.getD (j / 8)
              have hr8 : j % 8 < 8 := by omega
              have HK : Hid ((bits .and .u8 (la.getD (j / 8) 0 / 2 ^ min (7 - j % 8) 8) 1 == bits .and .u8 (lb.getD (j / 8) 0 / 2 ^ min (7 - j % 8) 8) 1) = (bitAt la j == bitAt lb j)) := Lib.hid (bit_is la lb j ox oy)
              generalize la.getD (j / 8) 0 = x at *
              generalize lb.getD (j / 8) 0 = y at *
              generalize j / 8 = i at *
              generalize j % 8 = r at *
              have w1' : IntKind.i64.wrap (7 - (r : Int)) = ((7 - r : Nat) : Int) := by rw [IntWalk.i64_in _ (by omega)]; omega
              have w2' : IntKind.u64.wrap ((7 - r : Nat) : Int) = ((7 - r : Nat) : Int) := by rw [IntKind.wrap_u64]; exact Int.emod_eq_of_lt (by omega) (by omega)
              generalize 7 - r = q at *
              go_wp2
              go_quiet (fail)
              rw [HK.out]
              go_wp2
              exact ⟨⟨j + 1, by omega, by go_num, by rw [HSt.out, Bool.true_and], HS.out.on (below_drewN (Below.refl _ _) _)⟩, by simp [intOf]; omega⟩
          · obtain rfl : pn = (j : Int) := by omega
            have HF : Hid (hasB qv fp (j : Int) vb lb = sameTo qv la vb lb j) := Lib.hid T4.out
            generalize sameTo qv la vb lb j = sm at *
            cases sm
            · have HEx := Lib.hid (E.below HS.out.low)
              clear HS8
              go_wp2_with (first
                | (refine pf_fetch rfl _ rfl w1.heap.size qv fp (j : Int) hpl rfl HS.out.p.range ?_)
                | (refine ip_fetch rfl _ rfl (w.heap.size + 1) 0 vb lb hb rfl HS.out.b.range ?_))
              refine (has_is _ qv fp (j : Int) vb lb hpl opl hb ob hn).mono ?_
              rintro e w9 ⟨rfl, hB9⟩
              rw [HF.out]
              have HL9 := Lib.hid (HS.out.low.trans (hB9.mono HS.out.low.size))
              have HAl := Lib.hid (alive_is _ (E.below HL9.out))
              have hz9 := HL9.out.size
              clear hB9 HEx HS
              go_wp2_with fail
              refine HAl.out.mono ?_
              rintro e w10 ⟨rfl, hB10⟩
              go_wp2
              go_ret
              exact ⟨rfl, HL9.out.trans (hB10.mono hz9)⟩
            · have HEx := Lib.hid (E.below HS.out.low)
              clear HS8
              go_wp2_with (first
                | (refine pf_fetch rfl _ rfl w1.heap.size qv fp (j : Int) hpl rfl HS.out.p.range ?_)
                | (refine ip_fetch rfl _ rfl (w.heap.size + 1) 0 vb lb hb rfl HS.out.b.range ?_))
              refine (has_is _ qv fp (j : Int) vb lb hpl opl hb ob hn).mono ?_
              rintro e w9 ⟨rfl, hB9⟩
              rw [HF.out]
              have HL9 := Lib.hid (HS.out.low.trans (hB9.mono HS.out.low.size))
              have HAl := Lib.hid (alive_is _ (E.below HL9.out))
              have hz9 := HL9.out.size
              clear hB9 HEx HS
              go_wp2_with fail
              refine HAl.out.mono ?_
              rintro e w10 ⟨rfl, hB10⟩
              go_wp2
              go_ret
              exact ⟨rfl, HL9.out.trans (hB10.mono hz9)⟩
      · rw [hr] at H0
        clear hr
        go_wp2
        go_loopw [13, 14] (fun sm i wr => ∃ j : Nat, (j : Int) ≤ pn ∧ i = .int .i64 j ∧ sm = .bool (sameTo qv la vb lb j) ∧ St w wr w1.heap.size w3.heap.size (ipc qv la) (ipc vb lb) (pfc qv fp pn) (pfc qv fq qn)) (fun _ i _ => pn.toNat - (intOf i).toNat)
        case atStart => exact ⟨0, by omega, rfl, by rw [H0.out]; first | rfl | (cases qv <;> cases vb <;> rfl), HS8.out⟩
        case round =>
          obtain ⟨j, hj, rfl, rfl, hS⟩ := hrel
          have HS := Lib.hid hS
          clear hS
          by_cases hlt : (j : Int) < pn
          · cases hsm : sameTo qv la vb lb j
            · have HF : Hid (hasB qv fp pn vb lb = false) := Lib.hid (by rw [T4.out]; exact same_false _ _ _ _ j _ hsm (by omega))
              clear hsm
              have HEx := Lib.hid (E.below HS.out.low)
              clear HS8
              go_wp2_with (first
                | (refine pf_fetch rfl _ rfl w1.heap.size qv fp pn hpl rfl HS.out.p.range ?_)
                | (refine ip_fetch rfl _ rfl (w.heap.size + 1) 0 vb lb hb rfl HS.out.b.range ?_))
              refine (has_is _ qv fp pn vb lb hpl opl hb ob hn).mono ?_
              rintro e w9 ⟨rfl, hB9⟩
              rw [HF.out]
              have HL9 := Lib.hid (HS.out.low.trans (hB9.mono HS.out.low.size))
              have HAl := Lib.hid (alive_is _ (E.below HL9.out))
              have hz9 := HL9.out.size
              clear hB9 HEx HS
              go_wp2_with fail
              refine HAl.out.mono ?_
              rintro e w10 ⟨rfl, hB10⟩
              go_wp2
              go_ret
              exact ⟨rfl, HL9.out.trans (hB10.mono hz9)⟩
            · have HSt := Lib.hid (same_step qv la vb lb j)
              rw [hsm] at HSt
              clear hsm HS8 T4
              have hj8 : j / 8 < 16 := by omega
              have c1 : wr.cell? ⟨w.heap.size, 1 + j / 8, none⟩ = some (.int .u8 (la.getD (j / 8) 0)) := by rw [HS.out.a.cell]; exact ipc_at _ _ _ (by omega)
              have c2 : wr.cell? ⟨w.heap.size + 1, 1 + j / 8, none⟩ = some (.int .u8 (lb.getD (j / 8) 0)) := by rw [HS.out.b.cell]; exact ipc_at _ _ _ (by omega)
              have d1 : (j : Int).tdiv 8 = ((j / 8 : Nat) : Int) := by rw [Int.tdiv_eq_ediv_of_nonneg (by omega)]; omega
              have d2 : (j : Int).tmod 8 = ((j % 8 : Nat) : Int) := by rw [Int.tmod_eq_emod_of_nonneg (by omega)]; omega
              have ox := oa.getD (j / 8)
              have oy := ob.getD (j / 8)
              have hr8 : j % 8 < 8 := by omega
              have HK : Hid ((bits .and .u8 (la.getD (j / 8) 0 / 2 ^ min (7 - j % 8) 8) 1 == bits .and .u8 (lb.getD (j / 8) 0 / 2 ^ min (7 - j % 8) 8) 1) = (bitAt la j == bitAt lb j)) := Lib.hid (bit_is la lb j ox oy)
              generalize la.getD (j / 8) 0 = x at *
              generalize lb.getD (j / 8) 0 = y at *
              generalize j / 8 = i at *
              generalize j % 8 = r at *
              have w1' : IntKind.i64.wrap (7 - (r : Int)) = ((7 - r : Nat) : Int) := by rw [IntWalk.i64_in _ (by omega)]; omega
              have w2' : IntKind.u64.wrap ((7 - r : Nat) : Int) = ((7 - r : Nat) : Int) := by rw [IntKind.wrap_u64]; exact Int.emod_eq_of_lt (by omega) (by omega)
              generalize 7 - r = q at *
              go_wp2
              go_quiet (fail)
              rw [HK.out]
              go_wp2
              exact ⟨⟨j + 1, by omega, by go_num, by rw [HSt.out, Bool.true_and], HS.out.on (below_drewN (Below.refl _ _) _)⟩, by simp [intOf]; omega⟩
          · obtain rfl : pn = (j : Int) := by omega
            have HF : Hid (hasB qv fp (j : Int) vb lb = sameTo qv la vb lb j) := Lib.hid T4.out
            generalize sameTo qv la vb lb j = sm at *
            cases sm
            · have HEx := Lib.hid (E.below HS.out.low)
              clear HS8
              go_wp2_with (first
                | (refine pf_fetch rfl _ rfl w1.heap.size qv fp (j : Int) hpl rfl HS.out.p.range ?_)
                | (refine ip_fetch rfl _ rfl (w.heap.size + 1) 0 vb lb hb rfl HS.out.b.range ?_))
              refine (has_is _ qv fp (j : Int) vb lb hpl opl hb ob hn).mono ?_
              rintro e w9 ⟨rfl, hB9⟩
              rw [HF.out]
              have HL9 := Lib.hid (HS.out.low.trans (hB9.mono HS.out.low.size))
              have HAl := Lib.hid (alive_is _ (E.below HL9.out))
              have hz9 := HL9.out.size
              clear hB9 HEx HS
              go_wp2_with fail
              refine HAl.out.mono ?_
              rintro e w10 ⟨rfl, hB10⟩
              go_wp2
              go_ret
              exact ⟨rfl, HL9.out.trans (hB10.mono hz9)⟩
            · have HEx := Lib.hid (E.below HS.out.low)
              clear HS8
              go_wp2_with (first
                | (refine pf_fetch rfl _ rfl w1.heap.size qv fp (j : Int) hpl rfl HS.out.p.range ?_)
                | (refine ip_fetch rfl _ rfl (w.heap.size + 1) 0 vb lb hb rfl HS.out.b.range ?_))
              refine (has_is _ qv fp (j : Int) vb lb hpl opl hb ob hn).mono ?_
              rintro e w9 ⟨rfl, hB9⟩
              rw [HF.out]
              have HL9 := Lib.hid (HS.out.low.trans (hB9.mono HS.out.low.size))
              have HAl := Lib.hid (alive_is _ (E.below HL9.out))
              have hz9 := HL9.out.size
              clear hB9 HEx HS
              go_wp2_with fail
              refine HAl.out.mono ?_
              rintro e w10 ⟨rfl, hB10⟩
              go_wp2
              go_ret
              exact ⟨rfl, HL9.out.trans (hB10.mono hz9)⟩
    · have HS7 := Lib.hid HS6.out
      clear T3 HS6
      go_wp2_with (refine ip_fetch rfl _ rfl (w.heap.size + 1) 0 vb lb hb rfl HS7.out.b.range ?_)
      refine (right_is _ vb lb hb ob).mono ?_
      rintro e w8 ⟨rfl, hB8⟩
      have HS8 := Lib.hid (HS7.out.on hB8)
      clear hB8 HS7
      have ca : w8.cell? ⟨w.heap.size, 0, none⟩ = some (.bool qv) := HS8.out.a.cell 0
      have cb : w8.cell? ⟨w.heap.size + 1, 0, none⟩ = some (.bool vb) := HS8.out.b.cell 0
      have H0 : Hid (sameTo qv la vb lb 0 = ((rightB vb lb && qv == vb) && true)) := Lib.hid rfl
      cases hr : rightB vb lb
      · rw [hr] at H0
        clear hr
        go_wp2
        go_loopw [13, 14] (fun sm i wr => ∃ j : Nat, (j : Int) ≤ pn ∧ i = .int .i64 j ∧ sm = .bool (sameTo qv la vb lb j) ∧ St w wr w1.heap.size w3.heap.size (ipc qv la) (ipc vb lb) (pfc qv fp pn) (pfc qv fq qn)) (fun _ i _ => pn.toNat - (intOf i).toNat)
        case atStart => exact ⟨0, by omega, rfl, by rw [H0.out]; first | rfl | (cases qv <;> cases vb <;> rfl), HS8.out⟩
        case round =>
          obtain ⟨j, hj, rfl, rfl, hS⟩ := hrel
          have HS := Lib.hid hS
          clear hS
          by_cases hlt : (j : Int) < pn
          · cases hsm : sameTo qv la vb lb j
            · have HF : Hid (hasB qv fp pn vb lb = false) := Lib.hid (by rw [T4.out]; exact same_false _ _ _ _ j _ hsm (by omega))
              clear hsm
              have HEx := Lib.hid (E.below HS.out.low)
              clear HS8
              go_wp2_with (first
                | (refine pf_fetch rfl _ rfl w1.heap.size qv fp pn hpl rfl HS.out.p.range ?_)
                | (refine ip_fetch rfl _ rfl (w.heap.size + 1) 0 vb lb hb rfl HS.out.b.range ?_))
              refine (has_is _ qv fp pn vb lb hpl opl hb ob hn).mono ?_
              rintro e w9 ⟨rfl, hB9⟩
              rw [HF.out]
              have HL9 := Lib.hid (HS.out.low.trans (hB9.mono HS.out.low.size))
              have HAl := Lib.hid (alive_is _ (E.below HL9.out))
              have hz9 := HL9.out.size
              clear hB9 HEx HS
              go_wp2_with fail
              refine HAl.out.mono ?_
              rintro e w10 ⟨rfl, hB10⟩
              go_wp2
              go_ret
              exact ⟨rfl, HL9.out.trans (hB10.mono hz9)⟩
            · have HSt := Lib.hid (same_step qv la vb lb j)
              rw [hsm] at HSt
              clear hsm HS8 T4
              have hj8 : j / 8 < 16 := by omega
              have c1 : wr.cell? ⟨w.heap.size, 1 + j / 8, none⟩ = some (.int .u8 (la.getD (j / 8) 0)) := by rw [HS.out.a.cell]; exact ipc_at _ _ _ (by omega)
              have c2 : wr.cell? ⟨w.heap.size + 1, 1 + j / 8, none⟩ = some (.int .u8 (lb.getD (j / 8) 0)) := by rw [HS.out.b.cell]; exact ipc_at _ _ _ (by omega)
              have d1 : (j : Int).tdiv 8 = ((j / 8 : Nat) : Int) := by rw [Int.tdiv_eq_ediv_of_nonneg (by omega)]; omega
              have d2 : (j : Int).tmod 8 = ((j % 8 : Nat) : Int) := by rw [Int.tmod_eq_emod_of_nonneg (by omega)]; omega
              have ox := oa.getD (j / 8)
              have oy := ob.getD (j / 8)
              have hr8 : j % 8 < 8 := by omega
              have HK : Hid ((bits .and .u8 (la.getD (j / 8) 0 / 2 ^ min (7 - j % 8) 8) 1 == bits .and .u8 (lb.getD (j / 8) 0 / 2 ^ min (7 - j % 8) 8) 1) = (bitAt la j == bitAt lb j)) := Lib.hid (bit_is la lb j ox oy)
              generalize la.getD (j / 8) 0 = x at *
              generalize lb.getD (j / 8) 0 = y at *
              generalize j / 8 = i at *
              generalize j % 8 = r at *
              have w1' : IntKind.i64.wrap (7 - (r : Int)) = ((7 - r : Nat) : Int) := by rw [IntWalk.i64_in _ (by omega)]; omega
              have w2' : IntKind.u64.wrap ((7 - r : Nat) : Int) = ((7 - r : Nat) : Int) := by rw [IntKind.wrap_u64]; exact Int.emod_eq_of_lt (by omega) (by omega)
              generalize 7 - r = q at *
              go_wp2
              go_quiet (fail)
              rw [HK.out]
              go_wp2
              exact ⟨⟨j + 1, by omega, by go_num, by rw [HSt.out, Bool.true_and], HS.out.on (below_drewN (Below.refl _ _) _)⟩, by simp [intOf]; omega⟩
          · obtain rfl : pn = (j : Int) := by omega
            have HF : Hid (hasB qv fp (j : Int) vb lb = sameTo qv la vb lb j) := Lib.hid T4.out
            generalize sameTo qv la vb lb j = sm at *
            cases sm
            · have HEx := Lib.hid (E.below HS.out.low)
              clear HS8
              go_wp2_with (first
                | (refine pf_fetch rfl _ rfl w1.heap.size qv fp (j : Int) hpl rfl HS.out.p.range ?_)
                | (refine ip_fetch rfl _ rfl (w.heap.size + 1) 0 vb lb hb rfl HS.out.b.range ?_))
              refine (has_is _ qv fp (j : Int) vb lb hpl opl hb ob hn).mono ?_
              rintro e w9 ⟨rfl, hB9⟩
              rw [HF.out]
              have HL9 := Lib.hid (HS.out.low.trans (hB9.mono HS.out.low.size))
              have HAl := Lib.hid (alive_is _ (E.below HL9.out))
              have hz9 := HL9.out.size
              clear hB9 HEx HS
              go_wp2_with fail
              refine HAl.out.mono ?_
              rintro e w10 ⟨rfl, hB10⟩
              go_wp2
              go_ret
              exact ⟨rfl, HL9.out.trans (hB10.mono hz9)⟩
            · have HEx := Lib.hid (E.below HS.out.low)
              clear HS8
              go_wp2_with (first
                | (refine pf_fetch rfl _ rfl w1.heap.size qv fp (j : Int) hpl rfl HS.out.p.range ?_)
                | (refine ip_fetch rfl _ rfl (w.heap.size + 1) 0 vb lb hb rfl HS.out.b.range ?_))
              refine (has_is _ qv fp (j : Int) vb lb hpl opl hb ob hn).mono ?_
              rintro e w9 ⟨rfl, hB9⟩
              rw [HF.out]
              have HL9 := Lib.hid (HS.out.low.trans (hB9.mono HS.out.low.size))
              have HAl := Lib.hid (alive_is _ (E.below HL9.out))
              have hz9 := HL9.out.size
              clear hB9 HEx HS
              go_wp2_with fail
              refine HAl.out.mono ?_
              rintro e w10 ⟨rfl, hB10⟩
              go_wp2
              go_ret
              exact ⟨rfl, HL9.out.trans (hB10.mono hz9)⟩
      · rw [hr] at H0
        clear hr
        go_wp2
        go_loopw [13, 14] (fun sm i wr => ∃ j : Nat, (j : Int) ≤ pn ∧ i = .int .i64 j ∧ sm = .bool (sameTo qv la vb lb j) ∧ St w wr w1.heap.size w3.heap.size (ipc qv la) (ipc vb lb) (pfc qv fp pn) (pfc qv fq qn)) (fun _ i _ => pn.toNat - (intOf i).toNat)
        case atStart => exact ⟨0, by omega, rfl, by rw [H0.out]; first | rfl | (cases qv <;> cases vb <;> rfl), HS8.out⟩
        case round =>
          obtain ⟨j, hj, rfl, rfl, hS⟩ := hrel
          have HS := Lib.hid hS
          clear hS
          by_cases hlt : (j : Int) < pn
          · cases hsm : sameTo qv la vb lb j
            · have HF : Hid (hasB qv fp pn vb lb = false) := Lib.hid (by rw [T4.out]; exact same_false _ _ _ _ j _ hsm (by omega))
              clear hsm
              have HEx := Lib.hid (E.below HS.out.low)
              clear HS8
              go_wp2_with (first
                | (refine pf_fetch rfl _ rfl w1.heap.size qv fp pn hpl rfl HS.out.p.range ?_)
                | (refine ip_fetch rfl _ rfl (w.heap.size + 1) 0 vb lb hb rfl HS.out.b.range ?_))
              refine (has_is _ qv fp pn vb lb hpl opl hb ob hn).mono ?_
              rintro e w9 ⟨rfl, hB9⟩
              rw [HF.out]
              have HL9 := Lib.hid (HS.out.low.trans (hB9.mono HS.out.low.size))
              have HAl := Lib.hid (alive_is _ (E.below HL9.out))
              have hz9 := HL9.out.size
              clear hB9 HEx HS
              go_wp2_with fail
              refine HAl.out.mono ?_
              rintro e w10 ⟨rfl, hB10⟩
              go_wp2
              go_ret
              exact ⟨rfl, HL9.out.trans (hB10.mono hz9)⟩
            · have HSt := Lib.hid (same_step qv la vb lb j)
              rw [hsm] at HSt
              clear hsm HS8 T4
              have hj8 : j / 8 < 16 := by omega
              have c1 : wr.cell? ⟨w.heap.size, 1 + j / 8, none⟩ = some (.int .u8 (la.getD (j / 8) 0)) := by rw [HS.out.a.cell]; exact ipc_at _ _ _ (by omega)
              have c2 : wr.cell? ⟨w.heap.size + 1, 1 + j / 8, none⟩ = some (.int .u8 (lb.getD (j / 8) 0)) := by rw [HS.out.b.cell]; exact ipc_at _ _ _ (by omega)
              have d1 : (j : Int).tdiv 8 = ((j / 8 : Nat) : Int) := by rw [Int.tdiv_eq_ediv_of_nonneg (by omega)]; omega
              have d2 : (j : Int).tmod 8 = ((j % 8 : Nat) : Int) := by rw [Int.tmod_eq_emod_of_nonneg (by omega)]; omega
              have ox := oa.getD (j / 8)
              have oy := ob.getD (j / 8)
              have hr8 : j % 8 < 8 := by omega
              have HK : Hid ((bits .and .u8 (la.getD (j / 8) 0 / 2 ^ min (7 - j % 8) 8) 1 == bits .and .u8 (lb.getD (j / 8) 0 / 2 ^ min (7 - j % 8) 8) 1) = (bitAt la j == bitAt lb j)) := Lib.hid (bit_is la lb j ox oy)
              generalize la.getD (j / 8) 0 = x at *
              generalize lb.getD (j / 8) 0 = y at *
              generalize j / 8 = i at *
              generalize j % 8 = r at *
              have w1' : IntKind.i64.wrap (7 - (r : Int)) = ((7 - r : Nat) : Int) := by rw [IntWalk.i64_in _ (by omega)]; omega
              have w2' : IntKind.u64.wrap ((7 - r : Nat) : Int) = ((7 - r : Nat) : Int) := by rw [IntKind.wrap_u64]; exact Int.emod_eq_of_lt (by omega) (by omega)
              generalize 7 - r = q at *
              go_wp2
              go_quiet (fail)
              rw [HK.out]
              go_wp2
              exact ⟨⟨j + 1, by omega, by go_num, by rw [HSt.out, Bool.true_and], HS.out.on (below_drewN (Below.refl _ _) _)⟩, by simp [intOf]; omega⟩
          · obtain rfl : pn = (j : Int) := by omega
            have HF : Hid (hasB qv fp (j : Int) vb lb = sameTo qv la vb lb j) := Lib.hid T4.out
            generalize sameTo qv la vb lb j = sm at *
            cases sm
            · have HEx := Lib.hid (E.below HS.out.low)
              clear HS8
              go_wp2_with (first
                | (refine pf_fetch rfl _ rfl w1.heap.size qv fp (j : Int) hpl rfl HS.out.p.range ?_)
                | (refine ip_fetch rfl _ rfl (w.heap.size + 1) 0 vb lb hb rfl HS.out.b.range ?_))
              refine (has_is _ qv fp (j : Int) vb lb hpl opl hb ob hn).mono ?_
              rintro e w9 ⟨rfl, hB9⟩
              rw [HF.out]
              have HL9 := Lib.hid (HS.out.low.trans (hB9.mono HS.out.low.size))
              have HAl := Lib.hid (alive_is _ (E.below HL9.out))
              have hz9 := HL9.out.size
              clear hB9 HEx HS
              go_wp2_with fail
              refine HAl.out.mono ?_
              rintro e w10 ⟨rfl, hB10⟩
              go_wp2
              go_ret
              exact ⟨rfl, HL9.out.trans (hB10.mono hz9)⟩
            · have HEx := Lib.hid (E.below HS.out.low)
              clear HS8
              go_wp2_with (first
                | (refine pf_fetch rfl _ rfl w1.heap.size qv fp (j : Int) hpl rfl HS.out.p.range ?_)
                | (refine ip_fetch rfl _ rfl (w.heap.size + 1) 0 vb lb hb rfl HS.out.b.range ?_))
              refine (has_is _ qv fp (j : Int) vb lb hpl opl hb ob hn).mono ?_
              rintro e w9 ⟨rfl, hB9⟩
              rw [HF.out]
              have HL9 := Lib.hid (HS.out.low.trans (hB9.mono HS.out.low.size))
              have HAl := Lib.hid (alive_is _ (E.below HL9.out))
              have hz9 := HL9.out.size
              clear hB9 HEx HS
              go_wp2_with fail
              refine HAl.out.mono ?_
              rintro e w10 ⟨rfl, hB10⟩
              go_wp2
              go_ret
              exact ⟨rfl, HL9.out.trans (hB10.mono hz9)⟩
  · have hone : (e1 = 2 ∧ pv = false ∧ pl = List.replicate 16 0 ∧ pn = 0) ∨ (e1 = 0 ∧ e2 = 2 ∧ qv = false ∧ ql = List.replicate 16 0 ∧ qn = 0) := by
      rcases HC1.out with h | h
      · rcases HC2.out with h2 | h2
        · exact absurd ⟨h.2.1, h2.2.1⟩ hok
        · exact .inr ⟨h.2.1, h2⟩
      · exact .inl h
    have HE := Lib.hid (E.below HL4.out)
    have HAl := Lib.hid (alive_is _ HE.out)
    have hsz := HL4.out.size
    rcases hone with ⟨rfl, rfl, hz1, rfl⟩ | ⟨rfl, rfl, rfl, hz2, rfl⟩
    · have Z1 := eql_none pl hz1
      have hcase : (e2 = 0) ∨ (e2 = 2 ∧ qv = false ∧ ql = List.replicate 16 0 ∧ qn = 0) := by
        rcases HC2.out with h | h
        · exact .inl h.2.1
        · exact .inr h
      clear HC1 HC2 hok HE HA4 HB4 hz1
      rcases hcase with rfl | ⟨rfl, rfl, hz2, rfl⟩
      · go_wp2_with (first
          | (refine pf_store rfl _ _ rfl w3.heap.size qv ql qn hql rfl rfl 51 noPf.toArray (Blk.new w3 51 noPf.toArray) rfl ?_)
          | (refine pf_fetch rfl _ rfl w1.heap.size false pl 0 hpl rfl HP4.out.range ?_))
        refine HAl.out.mono ?_
        rintro e w5 ⟨rfl, hB5⟩
        go_wp2
        go_ret
        exact ⟨rfl, HL4.out.trans (hB5.mono (by omega))⟩
      · have Z2 := eql_none ql hz2
        clear hz2
        go_wp2_with (first
          | (refine pf_store rfl _ _ rfl w3.heap.size false ql 0 hql rfl rfl 51 noPf.toArray (Blk.new w3 51 noPf.toArray) rfl ?_)
          | (refine pf_fetch rfl _ rfl w1.heap.size false pl 0 hpl rfl HP4.out.range ?_)
          | (refine pf_fetch rfl _ rfl w3.heap.size false ql 0 hql rfl HQ4.out.range ?_))
        refine HAl.out.mono ?_
        rintro e w5 ⟨rfl, hB5⟩
        go_wp2
        go_ret
        exact ⟨rfl, HL4.out.trans (hB5.mono (by omega))⟩
    · have Z2 := eql_none ql hz2
      clear HC1 HC2 hok HE HA4 HB4 hz2
      go_wp2_with (first
          | (refine pf_store rfl _ _ rfl w3.heap.size false ql 0 hql rfl rfl 51 noPf.toArray (Blk.new w3 51 noPf.toArray) rfl ?_)
          | (refine pf_fetch rfl _ rfl w3.heap.size false ql 0 hql rfl HQ4.out.range ?_))
      refine HAl.out.mono ?_
      rintro e w5 ⟨rfl, hB5⟩
      go_wp2
      go_ret
      exact ⟨rfl, HL4.out.trans (hB5.mono (by omega))⟩
end Go.Proofs.YtoacmeijfipniaaDoor
