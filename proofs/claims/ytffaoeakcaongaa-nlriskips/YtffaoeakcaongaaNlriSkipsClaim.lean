/-
  NlriSkips: for every input the law returns true, and each argument reads behind the call as it read before. No condition.
-/
import Derived.Test.YtffaoeakcaongaaMV
import Derived.Test.YtffaoeakcaongaaMR
import Derived.Test.YtffaoeakcaongaaRows
import Derived.Test.YtffaoeakcaongaaMX
import Derived.WalkKit
import Derived.ProofKit
import Derived.OpenShut
import Derived.ShutString
import Derived.ChangeOld
import Derived.SizedLaws
import Derived.Below
import Derived.Deep.CondSized
namespace Go.Proofs.Ytffaoeakcaongaa
open Go.RowKit
set_option maxRecDepth 100000
set_option linter.unusedSimpArgs false
set_option linter.unusedVariables false

/-- append of bytes that are read, onto bytes of the call's own. -/
theorem app_bs2 {ops : Array Oper} {rest : List Oper} {o : Oper} {a : Act} {Q : Exit → Act → World → Prop} (hgd : o.guard = none) (s x : Operand)
    (ho : o.op = .call { callee := .builtin .append, args := #[s, x], argTypes := #[22, 22] }) {lo : Nat} {w : World} {v : Value} {P : List Int} (h : OwnB lo w v P) (hlo : lo ≤ w.heap.size)
    {A : Option Addr} {m c : Nat} {news : List Int} (hr : Rd w w.heap.size A m news) (hlen : P.length + m ≤ 140737488355328) (hs : a.eval s = v) (hx : a.eval x = .slice A m c)
    (hk : ∀ v' w', OwnB lo w' v' (P ++ news) → Below lo w w' → w.grownBy w' v.ownBlock → (v'.ownBlock = v.ownBlock ∨ v'.ownBlock = some w.heap.size) → wpList Try.prog ops Q rest (a.put o.dst v') w') :
    wpList Try.prog ops Q (o :: rest) a w := by
  obtain ⟨i, hi, hz0, hz1, hz2⟩ := info_parts info_byte
  have hlm := hr.len
  cases A with
  | none =>
    have hm0 : m = 0 := by
      rcases Nat.eq_zero_or_pos m with h0 | h0
      · exact h0
      · obtain ⟨_, _, e, _⟩ := hr.at_ h0
        cases e
    subst hm0
    have hn : news = [] := List.eq_nil_of_length_eq_zero hlm
    subst hn
    have hrun : (Builtin.append_ #[22, 22] o.type #[v, .slice none 0 c]).run Try.prog w = .ok v w := by
      rcases h.own.2 with ⟨rfl, hn⟩ | ⟨g, cap, cur, rfl, _, _, hnc, _⟩
      · simp [Builtin.append_, run_underlying Try.underlying22, sizeOf, typeInfo, hi, Builtin.lenOf, Builtin.firstCells]
      · simp [Builtin.append_, run_underlying Try.underlying22, sizeOf, typeInfo, hi, Builtin.lenOf, Builtin.firstCells, hnc, storeCells]
    refine wpList_plain hgd fun _ hK => ?_
    unfold Oper.wp execOp
    simp only [ho, resolve, invoke, builtin, Sem.run_bind, Sem.run_pure, Result.andThen_ok, List.map_toArray, List.map_cons, List.map_nil, hs, hx, hrun]
    exact hK _ _ (hk v w (by rw [List.append_nil]; exact h) (Below.refl _ _) (only_refl _ _) (.inl rfl))
  | some ad =>
    have hsrc : ∀ j y, (u8s news)[j]? = some y → w.cell? (ad.add j) = some y := by
      rcases Nat.eq_zero_or_pos m with h0 | h0
      · intro j y hy
        have := (List.getElem?_eq_some_iff.1 hy).1
        simp at this
        omega
      · obtain ⟨b, off, e, _, hc⟩ := hr.at_ h0
        injection e with e
        subst e
        exact src_u8 hlm hc
    refine wpList_append_own_at _ hgd s x 22 ho lo 5 i _ 1 1 Try.underlying22 hi hz0 hz1 hz2 rfl (by decide) v P.length (u8s P) hs h.own ad m c (u8s news) hx (by simp [hlm]) hsrc (one_u8 news) (by unfold maxLen; omega) (by omega) hlo ?_
    intro v' w' hown hgr _ hloc
    refine hk v' w' ⟨?_, fun y hy => (List.mem_append.1 hy).elim (h.oct y) (hr.oct y)⟩ ((Below.refl lo w).grown hgr hlo (fun i e => (h.own.lt i e).1)) hgr hloc
    rw [List.length_append, hlm, show u8s (P ++ news) = u8s P ++ u8s news from List.map_append]
    exact hown


/-- The bytes l read as the routes rs, whatever stands behind. -/
def Sem (l : List Int) (rs : List Rt) : Prop := ∀ rest, readAll (l ++ rest) = pre2 rs 0 (readAll rest)
theorem Sem.nil_ : Sem [] [] := fun rest => by rw [pre2_nil]; rfl
theorem Sem.put {l : List Int} {rs : List Rt} (h : Sem l rs) {r : Rt} (hr : RtOk r) (hR : rightR r = true) : Sem (l ++ putR r) (rs ++ [r]) := fun rest => by rw [List.append_assoc, h, read_put hr hR, pre2_pre2]
theorem Sem.unk {l : List Int} {rs : List Rt} (h : Sem l rs) (k : Int) (body : List Int) (hk : ¬ (1 ≤ k ∧ k ≤ 5)) : Sem (l ++ [k, (body.length : Int)] ++ body) rs := fun rest => by
  rw [List.append_assoc, List.append_assoc, h]
  show pre2 rs 0 (readAll (k :: (body.length : Int) :: (body ++ rest))) = _
  rw [readAll_cons, if_neg (by simp; omega), Int.toNat_natCast, List.take_left, List.drop_left]
  cases readAll rest with
  | none => rfl
  | some x =>
    obtain ⟨a, b⟩ := x
    simp only [addR]
    rw [if_neg hk]
theorem Sem.all {l : List Int} {rs : List Rt} (h : Sem l rs) : readAll l = some (rs, 0) := by
  have := h []
  rw [List.append_nil, readAll_nil] at this
  rw [this]
  simp [pre2]
theorem own_lt {lo : Nat} {w : World} {v : Value} {l : List Int} (h : OwnB lo w v l) {i : Nat} (hi : v.ownBlock = some i) : lo ≤ i ∧ i < w.heap.size := by
  obtain ⟨c, hc⟩ := own_heap h.own hi
  exact ⟨(h.own.lt i hi).1, (Array.getElem?_eq_some_iff.1 hc).1⟩
/-- The memory of NlriSkips between two routes. -/
structure SkW (w W : World) (v9 v10 v11 : Value) (acc : List Rt) (pl mo : List Int) : Prop where
  plain : OwnB w.heap.size W v9 pl
  more : OwnB w.heap.size W v10 mo
  apart : ∀ i, v9.ownBlock = some i → v10.ownBlock ≠ some i
  want : OwnRt w.heap.size W v11 acc
  low : Below w.heap.size w W
section
variable {w W W' W2 W3 : World} {v9 v10 v11 v9' v10' v11' : Value} {acc : List Rt} {pl mo : List Int}
theorem SkW.below (h : SkW w W v9 v10 v11 acc pl mo) (hB : Below W.heap.size W W') : SkW w W' v9 v10 v11 acc pl mo :=
  ⟨⟨own_below h.plain.own hB, h.plain.oct⟩, ⟨own_below h.more.own hB, h.more.oct⟩, h.apart, ⟨own_below h.want.own hB, h.want.ok⟩, h.low.trans (hB.mono h.low.size)⟩
/-- Behind an append to the second bytes. -/
theorem SkW.grow (h : SkW w W v9 v10 v11 acc pl mo) {mo' : List Int} (ho : OwnB w.heap.size W' v10' mo') (hg : W.grownBy W' v10.ownBlock) (hB : Below w.heap.size W W') (hloc : v10'.ownBlock = v10.ownBlock ∨ v10'.ownBlock = some W.heap.size) :
    SkW w W' v9 v10' v11 acc pl mo' := by
  refine ⟨h.plain.keep fun i c hi _ hv => hg.block i (own_lt h.plain hv).2 (fun e => h.apart i hv e.symm), ho, fun i hi => ?_, ⟨own_other (by decide) h.want.own h.more.own hg, h.want.ok⟩, h.low.trans hB⟩
  rcases hloc with e | e
  · rw [e]; exact h.apart i hi
  · rw [e]
    intro e2
    injection e2 with e2
    have := (own_lt h.plain hi).2
    omega
/-- Behind both Puts and the append to the routes. -/
theorem SkW.step (h : SkW w W v9 v10 v11 acc pl mo) {r : Rt} (h9 : OwnB W.heap.size W2 v9' (pl ++ putR r)) (hB2 : Below W.heap.size W W2) (h10 : OwnB W2.heap.size W3 v10' (mo ++ putR r)) (hB3 : Below W2.heap.size W2 W3)
    (h11 : OwnRt w.heap.size W' v11' (acc ++ [r])) (hg : W3.grownBy W' v11.ownBlock) (hB : Below w.heap.size W3 W') : SkW w W' v9' v10' v11' (acc ++ [r]) (pl ++ putR r) (mo ++ putR r) := by
  have hw3 : OwnRt w.heap.size W3 v11 acc := ⟨own_below (own_below h.want.own hB2) hB3, h.want.ok⟩
  have hs : w.heap.size ≤ W.heap.size := h.low.size
  have h93 : OwnB W.heap.size W3 v9' (pl ++ putR r) := ⟨own_below h9.own hB3, h9.oct⟩
  refine ⟨⟨own_other (by decide) (h93.low hs).own hw3.own hg, h9.oct⟩, ⟨own_other (by decide) (h10.low (Nat.le_trans hs hB2.size)).own hw3.own hg, h10.oct⟩, fun i hi e => ?_, h11, (h.low.trans (hB2.mono hs)).trans ((hB3.mono (Nat.le_trans hs hB2.size)).trans hB)⟩
  have a1 := (own_lt h9 hi).2
  have a2 := (own_lt h10 e).1
  omega
end
theorem OwnB.rd_of {lo : Nat} {w : World} {A : Option Addr} {n c : Nat} {l : List Int} (h : OwnB lo w (.slice A n c) l) : l.length = n ∧ Rd w w.heap.size A n l := by
  obtain ⟨A', c', e, _, hR, _⟩ := h.at_
  injection e with e1 e2 _
  subst e1 e2
  exact ⟨rfl, hR⟩
theorem readSem_is (w : World) (A : Option Addr) (n c : Nat) (l : List Int) (rs : List Rt) (hr : Rd w w.heap.size A n l) (hm : n ≤ 1000000000000) (hs : Sem l rs) :
    Calls Try.prog 19 #[.slice A n c] w fun e w' => ∃ A' c', e = .returned (.tuple #[.slice A' rs.length c', .int .i64 0, .int .i64 0]) ∧ RdRt w' w'.heap.size A' rs.length rs ∧ Below w.heap.size w w' := by
  refine (read_is w A n c l hr hm).mono ?_
  rintro e w' ⟨v, rfl, hO, hB⟩
  obtain ⟨q1, q2, q3⟩ := read_some hs.all
  rw [q1] at hO
  obtain ⟨A', c', rfl, hRd⟩ := hO.rd
  exact ⟨A', c', by rw [q2, q3]; rfl, hRd, hB⟩
end Go.Proofs.Ytffaoeakcaongaa
namespace Go.Proofs.Ytffaoeakcaongaa
open Go.RowKit
set_option maxRecDepth 100000
set_option linter.unusedSimpArgs false
set_option linter.unusedVariables false

theorem OwnRt.rdc {lo : Nat} {w : World} {v : Value} {rs : List Rt} (h : OwnRt lo w v rs) : ∃ A c, v = .slice A rs.length c ∧ rs.length ≤ c ∧ RdRt w w.heap.size A rs.length rs := by
  obtain ⟨A, c, rfl, hr⟩ := h.rd
  refine ⟨A, c, rfl, ?_, hr⟩
  rcases h.own.2 with ⟨e, hn⟩ | ⟨g, cap, cur, e, _, _, hnc, _⟩
  · rw [hn]; exact Nat.zero_le _
  · injection e with _ _ e; omega
theorem okRs_len (rs : List Rt) (m : Nat) : (okRs (rs.take m)).length ≤ m := by
  unfold okRs
  have h1 := List.length_filter_le rightR (rs.take m)
  have h2 : (rs.take m).length ≤ m := by simp; omega
  omega
set_option maxHeartbeats 4000000 in
theorem nlriSkips_walk (w : World) (A : Option Addr) (n cp : Nat) (rs : List Rt) (at_ kind : Int) (Ab : Option Addr) (m cb : Nat) (body : List Int) (hr : RdRt w w.heap.size A n rs) (hcp : n ≤ cp) (hn : n ≤ 1400000000000)
    (hat : (Lit.int .i64 at_).wf = true) (hkd : (Lit.int .i64 kind).wf = true) (hb : Rd w w.heap.size Ab m body) (hm : m ≤ 140737488351232) :
    Calls Try.prog 8 #[.slice A n cp, .int .i64 at_, .int .i64 kind, .slice Ab m cb] w fun e w' => e = .returned (.bool true) ∧ Below w.heap.size w w' := by
  have HR := Lib.hid hr
  have HLen := Lib.hid hr.len
  have HAt := Lib.hid (wf_i64 hat)
  have HKn := Lib.hid (wf_i64 hkd)
  have HBody := Lib.hid hb
  have HAlv := Lib.hid aliveN_is
  have H0 : Hid (SkW w w (.slice none 0 0) (.slice none 0 0) (.slice none 0 0) [] [] []) := Lib.hid ⟨OwnB.nil_ _ _, OwnB.nil_ _ _, (fun i h => by cases h), OwnRt.nil_ _ _, Below.refl _ _⟩
  clear hr hat hkd hb
  go_enter Try.func8, Try.ntmps8
  go_wp2_with fail
  refine (count_is _ kind 256 (by omega) (by omega) HKn.out).mono ?_
  rintro e w1 ⟨kd, hkd, rfl, rfl⟩
  rcases (show (1 ≤ kd ∧ kd ≤ 5) ∨ (kd < 1 ∧ 255 < m) ∨ (1 ≤ kd ∧ ¬ kd ≤ 5 ∧ 255 < m) ∨ (kd < 1 ∧ m ≤ 255) ∨ (1 ≤ kd ∧ ¬ kd ≤ 5 ∧ m ≤ 255) by omega) with ⟨k1, k2⟩ | ⟨k1, k2⟩ | ⟨k1, k2, k3⟩ | ⟨k1, k2⟩ | ⟨k1, k2, k3⟩
  iterate 3
    · go_wp2_with fail
      refine (HAlv.out _).mono ?_
      rintro e w9 ⟨rfl, hB9⟩
      have HB9 := Lib.hid hB9
      clear hB9
      go_wp2
      go_ret
      exact ⟨rfl, HB9.out⟩
  all_goals
    have HKd : Hid (¬ (1 ≤ (kd : Int) ∧ (kd : Int) ≤ 5)) := Lib.hid (by omega)
    have hm255 : m ≤ 255 := by omega
    go_wp2_with fail
    refine (count_is _ at_ ((n : Int) + 1) (by omega) (by omega) HAt.out).mono ?_
    rintro e w2 ⟨c, hc, rfl, rfl⟩
    go_wp2
    go_loopw [9, 10, 11, 12] (fun v9 v10 v11 i wr => ∃ j : Nat, j ≤ n + 1 ∧ j ≤ 200 ∧ i = .int .i64 j ∧ ∃ pl mo, SkW w2 wr v9 v10 v11 (okRs (rs.take j)) pl mo ∧ Sem pl (okRs (rs.take j)) ∧ Sem mo (okRs (rs.take j)) ∧ pl.length ≤ j * 110 ∧ mo.length ≤ j * 400) (fun _ _ _ i _ => 200 - (intOf i).toNat)
    case atStart => exact ⟨0, Nat.zero_le _, Nat.zero_le _, rfl, [], [], H0.out, Sem.nil_, Sem.nil_, Nat.zero_le _, Nat.zero_le _⟩
    case round =>
      obtain ⟨i, hi, hi2, rfl, pl, mo, hW, hsp, hsm, hlp, hlm⟩ := hrel
      have HW := Lib.hid hW
      have HSp := Lib.hid hsp
      have HSm := Lib.hid hsm
      have hacc := okRs_len rs i
      obtain ⟨A9, c9, rfl, hc9, _, _⟩ := HW.out.plain.at_
      clear hW hsp hsm
      rcases (show ((i ≤ n ∧ i < 200) ∧ i = c ∧ i < n) ∨ ((i ≤ n ∧ i < 200) ∧ i = c ∧ ¬ i < n) ∨ ((i ≤ n ∧ i < 200) ∧ ¬ i = c ∧ i < n) ∨ ((i ≤ n ∧ i < 200) ∧ ¬ i = c ∧ ¬ i < n) ∨ ((i ≤ n ∧ ¬ i < 200) ∨ ¬ i ≤ n) by omega) with ⟨⟨h1, h2⟩, hic, hlt⟩ | ⟨⟨h1, h2⟩, hic, hlt⟩ | ⟨⟨h1, h2⟩, hic, hlt⟩ | ⟨⟨h1, h2⟩, hic, hlt⟩ | hx
      · subst hic
        obtain ⟨mo2, hmo2⟩ : ∃ mo2, mo ++ [(kd : Int), (m : Int)] ++ body = mo2 := ⟨_, rfl⟩
        have HMo := Lib.hid hmo2
        have HSm' : Hid (Sem mo2 (okRs (rs.take i))) := Lib.hid (by have := HSm.out.unk (kd : Int) body HKd.out; rw [HBody.out.len, hmo2] at this; exact this)
        have HLm : Hid (mo2.length ≤ i * 400 + 257) := Lib.hid (by rw [← hmo2]; simp [HBody.out.len]; omega)
        clear hmo2
        have HWa := Lib.hid (fun o => HW.out.below (bl_one wr o))
        have hsa : w2.heap.size ≤ (wr.alloc (.cells #[.int .u8 (kd : Int), .int .u8 (m : Int)] 5)).heap.size := (HWa.out _).low.size
        have HB2 := Lib.hid (byt2_rd wr (kd : Int) (m : Int) (fun y hy => by
          simp only [List.mem_cons, List.mem_nil_iff, or_false] at hy
          rcases hy with rfl | rfl <;> omega))
        have hil : i < rs.length := by have := HLen.out; omega
        obtain ⟨b, off, rfl, hb, hrng, ok⟩ := HR.out.get hil
        have HStep := Lib.hid (okRs_step hil)
        have HRng0 := Lib.hid hrng
        have HOx := Lib.hid ok
        generalize rs[i] = x at *
        generalize okRs (rs.take i) = acc at *
        have hi0 : (0 : Int) ≤ (i : Int) := by omega
        have hi1 : (i : Int) < (n : Int) := by omega
        have HRngA : Hid (∀ W, Below w2.heap.size w2 W → W.rangeAt b (off + i * 63) (rtc x)) := Lib.hid (fun W hB => range_below HRng0.out hB hb)
        clear hrng ok HRng0
        go_wp2_with (first
          | (refine part_fetch rfl 36 _ rfl b (off + i * 63) (rtc x) _ rfl (HRngA.out _ HWc.out.low) Try.underlying36 rfl (by rw [rt_size, rtc_len HOx.out]) ?_)
          | (at_builtin; refine app_bs2 rfl _ _ rfl (HWa.out _).more hsa HB2.out (by omega) rfl rfl ?_; intro v10a w3 ho3 hB3 hg3 hloc3; have HW3 := Lib.hid ((HWa.out _).grow ho3 hg3 hB3 hloc3); have hs3 : w2.heap.size ≤ w3.heap.size := HW3.out.low.size; have HRb := Lib.hid ((HBody.out.below HW3.out.low).more hs3); clear ho3 hg3 hB3 hloc3)
          | (at_builtin; refine app_bs2 rfl _ _ rfl HW3.out.more hs3 HRb.out (by simp; omega) rfl rfl ?_; intro v10b w4 ho4 hB4 hg4 hloc4; have HWc := Lib.hid (HW3.out.grow (mo' := mo2) (by rw [← HMo.out]; exact ho4) hg4 hB4 hloc4); obtain ⟨A10, c10, rfl, hc10, _, _⟩ := HWc.out.more.at_; clear ho4 hg4 hB4 hloc4)
          | fail)
        have HRng := Lib.hid (HRngA.out _ HWc.out.low)
        refine (rightRt_is _ x HOx.out).mono ?_
        rintro e w5 ⟨rfl, hB5⟩
        have HW5 := Lib.hid (HWc.out.below hB5)
        have HRng := Lib.hid (HRngA.out _ HW5.out.low)
        clear hB5 HWc
        obtain ⟨hl9, hR9'⟩ := HW5.out.plain.rd_of
        obtain ⟨hl10, hR10'⟩ := HW5.out.more.rd_of
        have HR9 := Lib.hid hR9'
        have HR10 := Lib.hid hR10'
        have hlm := HLm.out
        clear hl9 hR9' hl10 hR10'
        cases hxr : rightR x
        · rw [show errR x = 2 from by unfold errR; rw [hxr]; rfl]
          rw [hxr] at HStep
          have HSt : Hid (okRs (rs.take (i + 1)) = acc) := Lib.hid HStep.out
          clear HStep hxr
          go_wp2
          exact ⟨⟨i + 1, by omega, by omega, by go_num, pl, mo2, by rw [HSt.out]; exact HW5.out, by rw [HSt.out]; exact HSp.out, by rw [HSt.out]; exact HSm'.out, by omega, by omega⟩, by simp [intOf]; omega⟩
        · rw [show errR x = 0 from by unfold errR; rw [hxr]; rfl]
          have HE0 : Hid (errR x = 0) := Lib.hid (by unfold errR; rw [hxr]; rfl)
          have HXR := Lib.hid hxr
          rw [hxr] at HStep
          have HSt : Hid (okRs (rs.take (i + 1)) = acc ++ [x]) := Lib.hid HStep.out
          clear HStep hxr
          go_wp2_with (first | (refine part_fetch rfl 36 _ rfl b (off + i * 63) (rtc x) _ rfl HRng.out Try.underlying36 rfl (by rw [rt_size, rtc_len HOx.out]) ?_) | fail)
          refine (putNl_is _ A9 _ c9 pl x HOx.out HR9.out (by omega)).mono ?_
          rintro e w6 ⟨v9', rfl, hO6, hB6⟩
          rw [HXR.out, if_pos rfl] at hO6
          rw [HE0.out]
          have HO6 := Lib.hid hO6
          have HB6 := Lib.hid hB6
          have HR10 := Lib.hid ((HR10.out.below hB6).more hB6.size)
          have HRng := Lib.hid (range_below HRng.out hB6 (Nat.lt_of_lt_of_le hb HW5.out.low.size))
          clear hO6 hB6
          go_wp2_with (first | (refine part_fetch rfl 36 _ rfl b (off + i * 63) (rtc x) _ rfl HRng.out Try.underlying36 rfl (by rw [rt_size, rtc_len HOx.out]) ?_) | fail)
          refine (putNl_is _ A10 _ c10 (mo2) x HOx.out HR10.out (by omega)).mono ?_
          rintro e w7 ⟨v10', rfl, hO7, hB7⟩
          rw [HXR.out, if_pos rfl] at hO7
          rw [HE0.out]
          have HO7 := Lib.hid hO7
          have HB7 := Lib.hid hB7
          have hw67 : w2.heap.size ≤ w6.heap.size := Nat.le_trans HW5.out.low.size HB6.out.size
          have hw7 : w2.heap.size ≤ w7.heap.size := Nat.le_trans hw67 hB7.size
          have HRng := Lib.hid (range_below HRng.out hB7 (Nat.lt_of_lt_of_le hb hw67))
          have HWant : Hid (OwnRt w2.heap.size w7 _ acc) := Lib.hid ⟨own_below (own_below HW5.out.want.own HB6.out) HB7.out, HW5.out.want.ok⟩
          have hpx := bodyR_le HOx.out
          have HPL := Lib.hid (putR_len x)
          clear hO7 hB7
          go_wp2_with (first
            | (refine part_fetch rfl 36 _ rfl b (off + i * 63) (rtc x) _ rfl HRng.out Try.underlying36 rfl (by rw [rt_size, rtc_len HOx.out]) ?_)
            | (refine wpList_slice1 rfl 46 36 _ rfl (rtc x) rfl Try.underlying46 (by rw [rt_size, rtc_len HOx.out]) zero_route (by rw [rtc_len HOx.out]; omega) (by rw [rtc_len HOx.out]; omega) ?_)
            | (at_builtin; refine app_rt rfl _ _ rfl HWant.out hw7 (by omega) x HOx.out rfl rfl ?_; intro v11' w8 ho8 hg8 hB8; have HW8 := Lib.hid (HW5.out.step HO6.out HB6.out HO7.out HB7.out ho8 hg8 hB8); clear ho8 hg8 hB8)
            | fail)
          exact ⟨⟨i + 1, by omega, by omega, by go_num, _, _, by rw [HSt.out]; exact HW8.out, by rw [HSt.out]; exact HSp.out.put HOx.out HXR.out, by rw [HSt.out]; exact HSm'.out.put HOx.out HXR.out, by rw [List.length_append, HPL.out]; omega, by rw [List.length_append, HPL.out]; omega⟩, by simp [intOf]; omega⟩
      · subst hic
        obtain ⟨mo2, hmo2⟩ : ∃ mo2, mo ++ [(kd : Int), (m : Int)] ++ body = mo2 := ⟨_, rfl⟩
        have HMo := Lib.hid hmo2
        have HSm' : Hid (Sem mo2 (okRs (rs.take i))) := Lib.hid (by have := HSm.out.unk (kd : Int) body HKd.out; rw [HBody.out.len, hmo2] at this; exact this)
        have HLm : Hid (mo2.length ≤ i * 400 + 257) := Lib.hid (by rw [← hmo2]; simp [HBody.out.len]; omega)
        clear hmo2
        have HWa := Lib.hid (fun o => HW.out.below (bl_one wr o))
        have hsa : w2.heap.size ≤ (wr.alloc (.cells #[.int .u8 (kd : Int), .int .u8 (m : Int)] 5)).heap.size := (HWa.out _).low.size
        have HB2 := Lib.hid (byt2_rd wr (kd : Int) (m : Int) (fun y hy => by
          simp only [List.mem_cons, List.mem_nil_iff, or_false] at hy
          rcases hy with rfl | rfl <;> omega))
        have HStep : Hid (okRs (rs.take (i + 1)) = okRs (rs.take i)) := Lib.hid (by rw [List.take_of_length_le (by have := HLen.out; omega), List.take_of_length_le (by have := HLen.out; omega)])
        generalize okRs (rs.take i) = acc at *
        go_wp2_with (first
          | (at_builtin; refine app_bs2 rfl _ _ rfl (HWa.out _).more hsa HB2.out (by omega) rfl rfl ?_; intro v10a w3 ho3 hB3 hg3 hloc3; have HW3 := Lib.hid ((HWa.out _).grow ho3 hg3 hB3 hloc3); have hs3 : w2.heap.size ≤ w3.heap.size := HW3.out.low.size; have HRb := Lib.hid ((HBody.out.below HW3.out.low).more hs3); clear ho3 hg3 hB3 hloc3)
          | (at_builtin; refine app_bs2 rfl _ _ rfl HW3.out.more hs3 HRb.out (by simp; omega) rfl rfl ?_; intro v10b w4 ho4 hB4 hg4 hloc4; have HWc := Lib.hid (HW3.out.grow (mo' := mo2) (by rw [← HMo.out]; exact ho4) hg4 hB4 hloc4); obtain ⟨A10, c10, rfl, hc10, _, _⟩ := HWc.out.more.at_; clear ho4 hg4 hB4 hloc4)
          | fail)
        have hlm := HLm.out
        exact ⟨⟨i + 1, by omega, by omega, by go_num, pl, mo2, by rw [HStep.out]; exact HWc.out, by rw [HStep.out]; exact HSp.out, by rw [HStep.out]; exact HSm'.out, by omega, by omega⟩, by simp [intOf]; omega⟩
      · have HSm' := HSm
        have HLm : Hid (mo.length ≤ i * 400 + 257) := Lib.hid (by omega)
        have HWc := HW
        obtain ⟨A10, c10, rfl, hc10, _, _⟩ := HWc.out.more.at_
        have hil : i < rs.length := by have := HLen.out; omega
        obtain ⟨b, off, rfl, hb, hrng, ok⟩ := HR.out.get hil
        have HStep := Lib.hid (okRs_step hil)
        have HRng0 := Lib.hid hrng
        have HOx := Lib.hid ok
        generalize rs[i] = x at *
        generalize okRs (rs.take i) = acc at *
        have hi0 : (0 : Int) ≤ (i : Int) := by omega
        have hi1 : (i : Int) < (n : Int) := by omega
        have HRngA : Hid (∀ W, Below w2.heap.size w2 W → W.rangeAt b (off + i * 63) (rtc x)) := Lib.hid (fun W hB => range_below HRng0.out hB hb)
        clear hrng ok HRng0
        go_wp2_with (first
          | (refine part_fetch rfl 36 _ rfl b (off + i * 63) (rtc x) _ rfl (HRngA.out _ HWc.out.low) Try.underlying36 rfl (by rw [rt_size, rtc_len HOx.out]) ?_)
          | fail)
        have HRng := Lib.hid (HRngA.out _ HWc.out.low)
        refine (rightRt_is _ x HOx.out).mono ?_
        rintro e w5 ⟨rfl, hB5⟩
        have HW5 := Lib.hid (HWc.out.below hB5)
        have HRng := Lib.hid (HRngA.out _ HW5.out.low)
        clear hB5 HWc
        obtain ⟨hl9, hR9'⟩ := HW5.out.plain.rd_of
        obtain ⟨hl10, hR10'⟩ := HW5.out.more.rd_of
        have HR9 := Lib.hid hR9'
        have HR10 := Lib.hid hR10'
        have hlm := HLm.out
        clear hl9 hR9' hl10 hR10'
        cases hxr : rightR x
        · rw [show errR x = 2 from by unfold errR; rw [hxr]; rfl]
          rw [hxr] at HStep
          have HSt : Hid (okRs (rs.take (i + 1)) = acc) := Lib.hid HStep.out
          clear HStep hxr
          go_wp2
          exact ⟨⟨i + 1, by omega, by omega, by go_num, pl, mo, by rw [HSt.out]; exact HW5.out, by rw [HSt.out]; exact HSp.out, by rw [HSt.out]; exact HSm'.out, by omega, by omega⟩, by simp [intOf]; omega⟩
        · rw [show errR x = 0 from by unfold errR; rw [hxr]; rfl]
          have HE0 : Hid (errR x = 0) := Lib.hid (by unfold errR; rw [hxr]; rfl)
          have HXR := Lib.hid hxr
          rw [hxr] at HStep
          have HSt : Hid (okRs (rs.take (i + 1)) = acc ++ [x]) := Lib.hid HStep.out
          clear HStep hxr
          go_wp2_with (first | (refine part_fetch rfl 36 _ rfl b (off + i * 63) (rtc x) _ rfl HRng.out Try.underlying36 rfl (by rw [rt_size, rtc_len HOx.out]) ?_) | fail)
          refine (putNl_is _ A9 _ c9 pl x HOx.out HR9.out (by omega)).mono ?_
          rintro e w6 ⟨v9', rfl, hO6, hB6⟩
          rw [HXR.out, if_pos rfl] at hO6
          rw [HE0.out]
          have HO6 := Lib.hid hO6
          have HB6 := Lib.hid hB6
          have HR10 := Lib.hid ((HR10.out.below hB6).more hB6.size)
          have HRng := Lib.hid (range_below HRng.out hB6 (Nat.lt_of_lt_of_le hb HW5.out.low.size))
          clear hO6 hB6
          go_wp2_with (first | (refine part_fetch rfl 36 _ rfl b (off + i * 63) (rtc x) _ rfl HRng.out Try.underlying36 rfl (by rw [rt_size, rtc_len HOx.out]) ?_) | fail)
          refine (putNl_is _ A10 _ c10 (mo) x HOx.out HR10.out (by omega)).mono ?_
          rintro e w7 ⟨v10', rfl, hO7, hB7⟩
          rw [HXR.out, if_pos rfl] at hO7
          rw [HE0.out]
          have HO7 := Lib.hid hO7
          have HB7 := Lib.hid hB7
          have hw67 : w2.heap.size ≤ w6.heap.size := Nat.le_trans HW5.out.low.size HB6.out.size
          have hw7 : w2.heap.size ≤ w7.heap.size := Nat.le_trans hw67 hB7.size
          have HRng := Lib.hid (range_below HRng.out hB7 (Nat.lt_of_lt_of_le hb hw67))
          have HWant : Hid (OwnRt w2.heap.size w7 _ acc) := Lib.hid ⟨own_below (own_below HW5.out.want.own HB6.out) HB7.out, HW5.out.want.ok⟩
          have hpx := bodyR_le HOx.out
          have HPL := Lib.hid (putR_len x)
          clear hO7 hB7
          go_wp2_with (first
            | (refine part_fetch rfl 36 _ rfl b (off + i * 63) (rtc x) _ rfl HRng.out Try.underlying36 rfl (by rw [rt_size, rtc_len HOx.out]) ?_)
            | (refine wpList_slice1 rfl 46 36 _ rfl (rtc x) rfl Try.underlying46 (by rw [rt_size, rtc_len HOx.out]) zero_route (by rw [rtc_len HOx.out]; omega) (by rw [rtc_len HOx.out]; omega) ?_)
            | (at_builtin; refine app_rt rfl _ _ rfl HWant.out hw7 (by omega) x HOx.out rfl rfl ?_; intro v11' w8 ho8 hg8 hB8; have HW8 := Lib.hid (HW5.out.step HO6.out HB6.out HO7.out HB7.out ho8 hg8 hB8); clear ho8 hg8 hB8)
            | fail)
          exact ⟨⟨i + 1, by omega, by omega, by go_num, _, _, by rw [HSt.out]; exact HW8.out, by rw [HSt.out]; exact HSp.out.put HOx.out HXR.out, by rw [HSt.out]; exact HSm'.out.put HOx.out HXR.out, by rw [List.length_append, HPL.out]; omega, by rw [List.length_append, HPL.out]; omega⟩, by simp [intOf]; omega⟩
      · have HSm' := HSm
        have HLm : Hid (mo.length ≤ i * 400 + 257) := Lib.hid (by omega)
        have HWc := HW
        obtain ⟨A10, c10, rfl, hc10, _, _⟩ := HWc.out.more.at_
        have HStep : Hid (okRs (rs.take (i + 1)) = okRs (rs.take i)) := Lib.hid (by rw [List.take_of_length_le (by have := HLen.out; omega), List.take_of_length_le (by have := HLen.out; omega)])
        generalize okRs (rs.take i) = acc at *
        go_wp2
        have hlm := HLm.out
        exact ⟨⟨i + 1, by omega, by omega, by go_num, pl, mo, by rw [HStep.out]; exact HWc.out, by rw [HStep.out]; exact HSp.out, by rw [HStep.out]; exact HSm'.out, by omega, by omega⟩, by simp [intOf]; omega⟩
      · generalize okRs (rs.take i) = acc at *
        obtain ⟨A10, c10, rfl, hc10, hR10, _⟩ := HW.out.more.at_
        obtain ⟨A11, c11, rfl, hc11, hR11⟩ := HW.out.want.rdc
        have HR9 := Lib.hid HW.out.plain.rd_of.2
        have HR10 := Lib.hid hR10
        have HR11 := Lib.hid hR11
        have HLow := Lib.hid HW.out.low
        clear hR10 hR11 HW
        rcases hx with ⟨h1, h2⟩ | h1
        all_goals
          go_wp2_with fail
          refine (readSem_is _ A9 _ c9 pl acc HR9.out (by omega) HSp.out).mono ?_
          rintro e w5 ⟨A5, c5, rfl, hR5, hB5⟩
          have HR5 := Lib.hid hR5
          have HL5 := Lib.hid (HLow.out.trans (hB5.mono HLow.out.size))
          have HR10 := Lib.hid ((HR10.out.below hB5).more hB5.size)
          have HR11 := Lib.hid ((HR11.out.below hB5).more hB5.size)
          clear hR5 hB5
          go_wp2_with fail
          refine (readSem_is _ A10 _ c10 mo acc HR10.out (by omega) HSm.out).mono ?_
          rintro e w6 ⟨A6, c6, rfl, hR6, hB6⟩
          have HR6 := Lib.hid hR6
          have HL6 := Lib.hid (HL5.out.trans (hB6.mono HL5.out.size))
          have HR5 := Lib.hid ((HR5.out.below hB6).more hB6.size)
          have HR11 := Lib.hid ((HR11.out.below hB6).more hB6.size)
          clear hR6 hB6
          go_wp2_with fail
          refine (sameN_is _ A5 A11 _ _ c5 c11 acc acc HR5.out HR11.out (by omega)).mono ?_
          rintro e w7 ⟨rfl, hB7⟩
          rw [decide_eq_true (show acc = acc from rfl)]
          have HL7 := Lib.hid (HL6.out.trans (hB7.mono HL6.out.size))
          have HR6 := Lib.hid ((HR6.out.below hB7).more hB7.size)
          have HR11 := Lib.hid ((HR11.out.below hB7).more hB7.size)
          clear hB7
          go_wp2_with fail
          refine (sameN_is _ A6 A11 _ _ c6 c11 acc acc HR6.out HR11.out (by omega)).mono ?_
          rintro e w8 ⟨rfl, hB8⟩
          rw [decide_eq_true (show acc = acc from rfl)]
          have HL8 := Lib.hid (HL7.out.trans (hB8.mono HL7.out.size))
          clear hB8
          go_wp2_with fail
          refine (HAlv.out _).mono ?_
          rintro e w9 ⟨rfl, hB9⟩
          have HL9 := Lib.hid (HL8.out.trans (hB9.mono HL8.out.size))
          clear hB9
          go_wp2
          go_ret
          exact ⟨rfl, HL9.out⟩
end Go.Proofs.Ytffaoeakcaongaa
namespace Go.Proofs.Ytffaoeakcaongaa.nlriSkips
open Go.ChangeShapes Go.WideShapes Go.ChangeAt Go.RowKit
open Go.ChangeMaps (open_string shut_string)
set_option linter.unusedVariables false

theorem own : ownKnob Try.prog.godebug = none := by kernel_rfl
theorem laidOut : laidOutB Try.prog = true := by kernel_rfl

set_option maxRecDepth 100000 in
theorem lifted (os : Os) (started : os.Started) (H : Type) (enc : TypeId × Value → H) :
    ReturnsInHanded {} Try.checked os 8 .any (Rows.nlriSkipsSpec.pre6 enc Try.prog Try.f8 Rows.nlriSkipsRow.domain false) (Rows.nlriSkipsSpec.post enc Try.prog Try.f8 false true false false) := by
  refine returnsInHanded_of_change_sized (C := Try.checked) own started (by kernel_rfl) Try.func8
    (ChangeSpec.witness6 (enc := enc) (C := Try.checked) false ⟨#[], #[.slice none 0 0, .int .i64 0, .int .i64 0, .slice none 0 0], []⟩ 8 (by kernel_rfl) (by kernel_rfl) (by kernel_rfl) (by kernel_rfl)) ?_
  intro W base args ds gs before hval0 hW hcnd hsz0 _
  have hval : ∀ (j : Nat) t v, Try.f8.params[j]? = some t → args[j]? = some v → Value.okWide Try.prog W .any base t v := hval0
  have hsz : (DataW.weightsEach Try.prog (Try.f8.params.toList ++ Rows.nlriSkipsSpec.plain.varTypes Try.prog) (ds ++ gs)).all (· ≤ reachBytes) = true := hsz0
  have hW' := hW
  obtain ⟨p, q, hA0, hV, rfl, hfz, hnd⟩ := hW
  have hA : DataW.TrodAll enc Try.prog W 0 (fun _ => true) true Try.f8.params.toList args.toList ds p := hA0
  rw [Try.params8] at hA hval hsz
  obtain ⟨v0, vs0, d0, ds0, p0, q0, hargs, rfl, rfl, h0, r0⟩ := trodAll_cons hA
  obtain ⟨v1, vs1, d1, ds1, p1, q1, rfl, rfl, rfl, h1, r1⟩ := trodAll_cons r0
  obtain ⟨v2, vs2, d2, ds2, p2, q2, rfl, rfl, rfl, h2, r2⟩ := trodAll_cons r1
  obtain ⟨v3, vs3, d3, ds3, p3, q3, rfl, rfl, rfl, h3, r3⟩ := trodAll_cons r2
  obtain ⟨rfl, rfl, rfl⟩ := trodAll_nil r3
  obtain rfl : args = #[v0, v1, v2, v3] := by cases args; simp_all
  obtain ⟨rfl, rfl⟩ := trodVars_none hV
  obtain ⟨a0, len0, cap0, rfl⟩ := okWide_slice Try.underlying46 (hval 0 46 v0 rfl rfl)
  have lt0 : ∀ x ∈ p0, x.block < W.heap.size := by obtain ⟨m, hm⟩ := h0; exact DataW.trod_lt m _ _ _ hm
  obtain ⟨l0, rd0, lc0, sz0⟩ := open_routes Try.underlying46 h0 hsz (j := 0) rfl rfl
  obtain ⟨a1, rfl, rfl, rfl, w1⟩ := open_int Try.underlying3 (hval 1 3 v1 rfl rfl) h1
  obtain ⟨a2, rfl, rfl, rfl, w2⟩ := open_int Try.underlying3 (hval 2 3 v2 rfl rfl) h2
  obtain ⟨a3, len3, cap3, rfl⟩ := okWide_slice Try.underlying22 (hval 3 22 v3 rfl rfl)
  have lt3 : ∀ x ∈ p3, x.block < W.heap.size := by obtain ⟨m, hm⟩ := h3; exact DataW.trod_lt m _ _ _ hm
  obtain ⟨l3, rd3, sz3⟩ := open_bytes Try.underlying22 Try.underlying5 (by kernel_rfl) (by kernel_rfl) h3 hsz (j := 3) rfl rfl
  clear hA0 hval0 hsz hsz0
  refine (nlriSkips_walk W a0 len0 cap0 l0 a1 a2 a3 len3 cap3 l3 rd0 lc0 sz0 w1 w2 rd3 sz3).mono fun e W' ⟨he, bel⟩ => ?_
  subst he
  exact ⟨_, rfl, _, _, _, [], _, [], hW', trodAll_mk1 (shut_bool Try.underlying4 _), (trodAll_cons_mk (Below.trod laidOut (by kernel_rfl) (of_decide_eq_true (by kernel_rfl)) h0 bel lt0) (trodAll_cons_mk (shut_int Try.underlying3 w1) (trodAll_cons_mk (shut_int Try.underlying3 w2) (trodAll_cons_mk (Below.trod laidOut (by kernel_rfl) (of_decide_eq_true (by kernel_rfl)) h3 bel lt3) trodAll_mk0)))), rfl, bel.frame _, fun h => by cases h⟩

theorem over : Rows.nlriSkipsRow.holds Try.pinned (OpenSpec.ofChange Rows.nlriSkipsSpec) :=
  OpenClaim.holds_of_wide 8 Try.f8 rfl rfl rfl rfl rfl rfl rfl ⟨rfl, rfl, rfl, rfl, rfl⟩ rfl rfl rfl rfl rfl (by kernel_rfl) Try.func8 (by kernel_rfl)
    (of_decide_eq_true (by kernel_rfl)) (by unfold Func.isWrapper; first | (rw [if_pos (by decide +kernel)]; kernel_rfl) | (rw [if_neg (by decide +kernel)]; exact ⟨rfl, rfl⟩))
    (fun os started H enc _ => lifted os started H enc)

theorem proved : Rows.NlriSkipsSaid := over
#print axioms proved
end Go.Proofs.Ytffaoeakcaongaa.nlriSkips
