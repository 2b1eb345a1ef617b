/-
  Put together: NlN NlF NlO NlP NlPb NlPc NlQ NlT NlW UpA.
-/
import Derived.Test.YtdgoeibfggjbmaaGreatDoorMD
import Derived.OwnWalk
import Derived.Deep.CutRange
import Derived.Deep.DeepCutAuto
import Derived.Test.YtdgoeibfggjbmaaGreatDoorMC
namespace Go.Proofs.YtdgoeibfggjbmaaGreatDoor
open Go.RowKit
set_option maxRecDepth 100000
set_option linter.unusedSimpArgs false
set_option linter.unusedVariables false

def ReadPost (w : World) (l : List Int) (e : Ending) (w' : World) : Prop := ∃ v, e = .returned (.tuple #[v, .int .i64 (readMN l), .int .i64 (readE l)]) ∧ OwnRt w.heap.size w' v (readRs l) ∧ Below w.heap.size w w'
theorem read_none {l : List Int} (h : readAll l = none) : readRs l = [] ∧ readMN l = 0 ∧ readE l = 3 := by unfold readRs readMN readE; rw [h]; exact ⟨rfl, rfl, rfl⟩
theorem read_some {l : List Int} {rs : List Rt} {m : Nat} (h : readAll l = some (rs, m)) : readRs l = rs ∧ readMN l = m ∧ readE l = 0 := by unfold readRs readMN readE; rw [h]; exact ⟨rfl, rfl, rfl⟩
theorem rt_store_r {ops : Array Oper} {rest : List Oper} {o : Oper} {a : Act} {w : World} {Q : Exit → Act → World → Prop} (hgd : o.guard = none) (x y : Operand) (ho : o.op = .store 53 x y) (g : Nat) (r : Rt) (hr : RtOk r)
    (hx : a.eval x = .pointer (some ⟨g, 0, none⟩)) (hy : a.eval y = .agg (rtc r).toArray) (t : TypeId) (old : Array Value) (hg : Blk w g t old) (hold : old.size = 63) (I : World → Prop) (hI : ∀ W, Blk W g t (rtc r).toArray → Below g w W → I W)
    (h : ∀ W, I W → wpList Tryz.prog ops Q rest (a.put o.dst undef) W) : wpList Tryz.prog ops Q (o :: rest) a w := rt_store hgd x y ho g r hr hx hy t old hg hold (h _ (hI _ (hg.setRow _) (below_setRow _ _ _ (Nat.le_refl _))))

/-- The memory of Read between two routes. -/
structure RdW (A0 : Option Addr) (c0 : Nat) (w W : World) (g lo : Nat) (l : List Int) (s : CS) (v : Value) (rs : List Rt) : Prop where
  cu : CurS A0 c0 W g l s
  out : OwnRt lo W v rs
  low : Below w.heap.size w W
  gl : g < lo
  ll : lo ≤ W.heap.size
  wl : w.heap.size ≤ g
section
variable {A0 : Option Addr} {c0 : Nat} {w W W' : World} {g lo : Nat} {l : List Int} {s s' : CS} {v v' : Value} {rs rs' : List Rt}
theorem RdW.step (h : RdW A0 c0 w W g lo l s v rs) (hc : CurS A0 c0 W' g l s') (hg : W.grownBy W' (some g)) : RdW A0 c0 w W' g lo l s' v rs :=
  ⟨hc, h.out.grown hg h.gl, h.low.trans (below_grown hg (Nat.le_trans h.wl (Nat.le_refl _)) h.low.size), h.gl, Nat.le_trans h.ll hg.size, h.wl⟩
theorem RdW.above (h : RdW A0 c0 w W g lo l s v rs) (hB : Below W.heap.size W W') : RdW A0 c0 w W' g lo l s v rs :=
  ⟨h.cu.above hB (Nat.lt_of_lt_of_le h.gl h.ll), h.out.below hB, h.low.trans (hB.mono h.low.size), h.gl, Nat.le_trans h.ll hB.size, h.wl⟩
theorem RdW.more (h : RdW A0 c0 w W g lo l s v rs) (ho : OwnRt lo W' v' rs') (hB : Below lo W W') : RdW A0 c0 w W' g lo l s v' rs' :=
  ⟨h.cu.above hB h.gl, ho, h.low.trans (hB.mono (Nat.le_trans h.wl (Nat.le_of_lt h.gl))), h.gl, Nat.le_trans h.ll hB.size, h.wl⟩
end
theorem hdR_ok {r : Rt} {l : List Int} (hr : RtOk r) (ho : Oct l) : RtOk (hdR r l) where
  k := hr.k
  rd := fillV_len _ _ _
  ord := fillV_oct ho _ _
  es := by unfold hdR; simp only; split; exact hr.es; exact fillV_len _ _ _
  oes := by unfold hdR; simp only; split; exact hr.oes; exact fillV_oct ho _ _
  tg := by unfold hdR; simp only; split; exact hr.tg; exact u32_nV4 ho _
  mc := hr.mc
  omc := hr.omc
  pl := hr.pl
  opl := hr.opl
  pn := hr.pn
  gl := hr.gl
  ogl := hr.ogl
  lb := hr.lb
  l2 := hr.l2
theorem macR_ok {r : Rt} {l : List Int} (hr : RtOk r) (ho : Oct l) (s : CS) : RtOk (macR r l s) where
  k := hr.k
  rd := hr.rd
  ord := hr.ord
  es := hr.es
  oes := hr.oes
  tg := hr.tg
  mc := fillV_len _ _ _
  omc := fillV_oct ho _ _
  pl := (wholeV_ok ho _).1
  opl := (wholeV_ok ho _).2.1
  pn := (wholeV_ok ho _).2.2
  gl := hr.gl
  ogl := hr.ogl
  lb := u32_nV3 ho _
  l2 := by unfold macR; simp only; split; exact u32_nV3 ho _; exact hr.l2
theorem preR_ok {r : Rt} {l : List Int} (hr : RtOk r) (ho : Oct l) (six : Bool) (s : CS) : RtOk (preR six r l s) where
  k := hr.k
  rd := hr.rd
  ord := hr.ord
  es := hr.es
  oes := hr.oes
  tg := hr.tg
  mc := hr.mc
  omc := hr.omc
  pl := ipP_len _ _ _
  opl := ipP_oct ho _ _
  pn := ⟨by have := byte_nV1 ho s; show _ ≤ nV l s 1; omega, by have := byte_nV1 ho s; show nV l s 1 < _; omega⟩
  gl := ipP_len _ _ _
  ogl := ipP_oct ho _ _
  lb := u32_nV3 ho _
  l2 := hr.l2
theorem fdR_Ok {r : Rt} {l : List Int} (hr : RtOk r) (ho : Oct l) : RtOk (fdR r l) := by
  have h := hdR_ok hr ho
  unfold fdR
  split
  · exact { h with lb := u32_nV3 ho _ }
  · split
    · exact macR_ok h ho _
    · split
      · exact preR_ok h ho _ _
      · exact { h with pl := (wholeV_ok ho _).1, opl := (wholeV_ok ho _).2.1, pn := (wholeV_ok ho _).2.2 }
theorem oneR_ok {k : Int} {l : List Int} (ho : Oct l) (hk : 1 ≤ k ∧ k ≤ 5) {r : Rt} (h : oneR k l = some r) : RtOk r := by
  unfold oneR at h
  split at h
  · injection h with h
    subst h
    exact fdR_Ok (z8_ok k ⟨by omega, by omega⟩) ho
  · cases h
def posOf (w : World) (g : Nat) : Nat := match w.cell? ⟨g, 1, none⟩ with
  | some (.int _ n) => n.toNat
  | _ => 0
theorem posOf_cur {A0 : Option Addr} {c0 : Nat} {w : World} {g : Nat} {l : List Int} {s : CS} (h : CurS A0 c0 w g l s) : posOf w g = s.1 := by
  obtain ⟨A, c, h0, _⟩ := h.ex
  have h1 : w.cell? ⟨g, 1, none⟩ = some (.int .i64 s.1) := Blk.cell h0 1
  unfold posOf
  rw [h1]
  simp
theorem pre2_add (rs : List Rt) (m : Nat) (k : Int) (body : List Int) (o : Option (List Rt × Nat)) : pre2 rs m (addR k body o) = if 1 ≤ k ∧ k ≤ 5 then (match oneR k body with | some r => pre2 (rs ++ [r]) m o | none => pre2 rs (m + 1) o) else pre2 rs m o := by
  cases o with
  | none =>
    simp only [addR, pre2_none]
    repeat' split
    all_goals rfl
  | some x =>
    obtain ⟨a, b⟩ := x
    simp only [addR]
    split
    · cases oneR k body with
      | none => simp [pre2]; omega
      | some r => simp [pre2]
    · rfl
set_option maxHeartbeats 1000000 in
theorem readNl_is (w : World) (A : Option Addr) (n c : Nat) (l : List Int) (hr : Rd w w.heap.size A n l) (hm : n ≤ 1000000000000) : Calls Tryz.prog 175 #[.slice A n c] w (ReadPost w l) := by
  have HR := Lib.hid hr
  have HO := Lib.hid hr.oct
  have hln : l.length = n := hr.len
  have HN := Lib.hid (read_none (l := l))
  have HSm := Lib.hid (fun rs m => read_some (l := l) (rs := rs) (m := m))
  clear hr
  go_enter Tryz.func175, Tryz.ntmps175
  go_wp2_with fail
  refine (new_isX _ A n c l HR.out (by omega)).mono ?_
  rintro e w1 ⟨g, A0, c0, rfl, hg, hcx, _, hB1⟩
  have H1 : Hid (RdW A0 c0 w w1 g w1.heap.size l (0, 0) (.slice none 0 0) []) := Lib.hid ⟨hcx, OwnRt.nil_ _ _, hB1, hcx.toIsCurT.lt, Nat.le_refl _, hg⟩
  clear hcx hB1 HR
  generalize w1.heap.size = lo at *
  go_wp2_with fail
  go_loopw [5, 6, 8, 9, 10, 11, 12] (fun v m _ _ _ _ _ wr => ∃ (p k : Nat) (rs : List Rt), p ≤ l.length ∧ m = .int .i64 k ∧ RdW A0 c0 w wr g lo l (p, 0) v rs ∧ rs.length ≤ p ∧ k ≤ p ∧ readAll l = pre2 rs k (readAll (l.drop p))) (fun _ _ _ _ _ _ _ wr => l.length - posOf wr g)
  case atStart => exact ⟨0, 0, [], Nat.zero_le _, rfl, H1.out, Nat.zero_le _, Nat.zero_le _, by rw [pre2_nil]; rfl⟩
  case round =>
    obtain ⟨p, k, rs, hp, rfl, hW, hrs, hk, hread⟩ := hrel
    have HW := Lib.hid hW
    have HRead := Lib.hid hread
    clear hW hread
    go_wp2_with fail
    refine (leftC_is _ g l _ _ HW.out.cu.toIsCurT).mono ?_
    rintro e w2 ⟨rfl, k2, rfl⟩
    have HW2 := Lib.hid (HW.out.above (below_drewN (Below.refl _ _) k2))
    have hpos := posOf_cur HW.out.cu
    clear HW
    by_cases hlt : p < l.length
    · have HSt := Lib.hid (readStep HO.out hlt)
      go_wp2_with fail
      generalize wr.drewN k2 = W2 at *
      refine (numS _ g l _ 1 HW2.out.cu).mono ?_
      rintro e w3 ⟨rfl, hC, hG⟩
      have HW3 := Lib.hid (HW2.out.step hC hG)
      have hb1 := byte_nV1 HO.out (p, 0)
      clear hC hG HW2
      generalize nV l (p, 0) 1 = kd at *
      generalize nS l (p, 0) 1 = s1 at *
      obtain ⟨hb1a, hb1b⟩ := hb1
      go_wp2_with fail
      refine (numS _ g l _ 1 HW3.out.cu).mono ?_
      rintro e w4 ⟨rfl, hC, hG⟩
      have HW4 := Lib.hid (HW3.out.step hC hG)
      have hb2 := byte_nV1 HO.out s1
      clear hC hG HW3
      generalize nV l s1 1 = bn at *
      generalize nS l s1 1 = s2 at *
      obtain ⟨hb2a, hb2b⟩ := hb2
      go_wp2_with fail
      refine (takeS _ g l s2 bn HW4.out.cu).mono ?_
      rintro e w5 ⟨A5, rfl, hN5, hC, hG⟩
      have HW5 := Lib.hid (HW4.out.step hC hG)
      have HR5 := Lib.hid hN5.rd
      have HO5 := Lib.hid hN5.1
      have hl5 : (tV l s2 bn).length ≤ l.length := stepTook_len _ _ _ _
      clear hC hG HW4 hN5
      generalize tV l s2 bn = body at *
      generalize tS l s2 bn = s3 at *
      go_wp2_with fail
      refine (err_is _ g l _ _ HW5.out.cu.toIsCurT).mono ?_
      rintro e w6 ⟨rfl, rfl⟩
      rcases HSt.out with ⟨he, hno⟩ | ⟨he, h1, h2, hadd⟩
      · have hall := HRead.out
        rw [hno, pre2_none] at hall
        obtain ⟨q1, q2, q3⟩ := HN.out hall
        have HQ := Lib.hid (show readRs l = [] ∧ readMN l = 0 ∧ readE l = 3 from ⟨q1, q2, q3⟩)
        clear q1 q2 q3 hall hno HSt
        rw [he]
        go_wp2
        go_ret3
        exact ⟨.slice none 0 0, by rw [HQ.out.2.1, HQ.out.2.2]; rfl, by rw [HQ.out.1]; exact OwnRt.nil_ _ _, HW5.out.low⟩
      · have hall := HRead.out
        rw [hadd, pre2_add] at hall
        have HAll := Lib.hid hall
        clear hall hadd HSt HRead
        rw [he]
        go_wp2_with fail
        refine (isKind_is _ kd).mono ?_
        rintro e w6 ⟨rfl, rfl⟩
        have hle5 := HW5.out.cu.le
        have HM : Hid (s3 = (s3.1, 0)) := Lib.hid (by rw [← he])
        by_cases hkd : 1 ≤ kd ∧ kd ≤ 5
        · simp only [if_pos hkd] at HAll
          rw [decide_eq_true hkd]
          go_wp2_with fail
          refine (rroute_is _ kd A5 _ _ body hkd HR5.out (by omega)).mono ?_
          rintro e w7 ⟨rfl, hB7⟩
          have HW7 := Lib.hid (HW5.out.above hB7)
          clear hB7 HW5 HR5
          cases hone : oneR kd body with
          | none =>
            rw [hone] at HAll
            simp only at HAll
            have HBn := Lib.hid (fun Z => Blk.new w7 53 Z)
            have HZ0 := Lib.hid (z8_ok 0 i64_0)
            have HI := Lib.hid (fun Z W (hB : Below w7.heap.size (w7.alloc (.cells Z 53)) W) => HW7.out.above ((bl_one w7 (.cells Z 53)).trans hB))
            clear HW7 hone
            unfold oneT
            go_wp2_with (first
              | (refine rt_store_r rfl _ _ rfl w7.heap.size (rtZ 0 z8) HZ0.out rfl rfl 53 _ (HBn.out _) rfl (fun W => RdW A0 c0 w W g lo l s3 _ rs) (fun W _ hB => HI.out _ _ hB) ?_; intro W8 hW8; have HW8 := Lib.hid hW8; clear hW8)
              | fail)
            rw [HM.out] at HW8
            refine ⟨⟨s3.1, k + 1, rs, h2, by go_num, HW8.out, by omega, by omega, HAll.out⟩, ?_⟩
            rw [posOf_cur HW8.out.cu, hpos]
            simp only
            omega
          | some r =>
            rw [hone] at HAll
            simp only at HAll
            have hrok : RtOk r := oneR_ok HO5.out hkd hone
            have HBn := Lib.hid (fun Z => Blk.new w7 53 Z)
            have HI : Hid (∀ Z W, Blk W w7.heap.size 53 (rtc r).toArray → Below w7.heap.size (w7.alloc (.cells Z 53)) W → RdW A0 c0 w W g lo l s3 _ rs ∧ Blk W w7.heap.size 53 (rtc r).toArray) := Lib.hid (fun Z W hb hB => ⟨HW7.out.above ((bl_one w7 (.cells Z 53)).trans hB), hb⟩)
            have HRK := Lib.hid hrok
            clear HW7 hone hrok
            unfold oneT
            go_wp2_with (first
              | (refine rt_store_r rfl _ _ rfl w7.heap.size r HRK.out rfl rfl 53 _ (HBn.out _) rfl (fun W => RdW A0 c0 w W g lo l s3 _ rs ∧ Blk W w7.heap.size 53 (rtc r).toArray) (fun W hb hB => HI.out _ _ hb hB) ?_; intro W8 hW8; have HW8 := Lib.hid hW8; clear hW8)
              | (refine rt_fetch rfl _ rfl w7.heap.size r HRK.out rfl ⟨blk_range HW8.out.2, blk_there HW8.out.2 0 63 (by rw [rtc_len HRK.out]; omega)⟩ ?_)
              | (refine wpList_slice1 rfl 32 53 _ rfl (rtc r) rfl Tryz.underlying32 (by rw [rt_size, rtc_len HRK.out]) zero_route (by rw [rtc_len HRK.out]; omega) (by rw [rtc_len HRK.out]; omega) ?_)
              | (at_builtin; refine app_rt rfl _ _ rfl HW8.out.1.out HW8.out.1.ll (by omega) r HRK.out rfl rfl ?_; intro v9 w9 hO9 _ hB9; have HW9 := Lib.hid (HW8.out.1.more hO9 hB9); clear hO9 hB9)
              | fail)
            rw [HM.out] at HW9
            refine ⟨⟨s3.1, k, rs ++ [r], h2, by go_num, HW9.out, by simp; omega, by omega, HAll.out⟩, ?_⟩
            rw [posOf_cur HW9.out.cu, hpos]
            simp only
            omega
        · simp only [if_neg hkd] at HAll
          rw [decide_eq_false hkd]
          go_wp2
          rw [HM.out] at HW5
          refine ⟨⟨s3.1, k, rs, h2, by go_num, HW5.out, by omega, by omega, HAll.out⟩, ?_⟩
          rw [posOf_cur HW5.out.cu, hpos]
          simp only
          omega
    · obtain rfl : p = l.length := by omega
      have hall := HRead.out
      rw [List.drop_length, readAll_nil] at hall
      obtain ⟨q1, q2, q3⟩ := HSm.out (rs ++ []) (k + 0) hall
      have HQ := Lib.hid (show readRs l = rs ∧ readMN l = k ∧ readE l = 0 from ⟨by rw [q1, List.append_nil], q2, q3⟩)
      have hgw : w.heap.size ≤ lo := Nat.le_trans HW2.out.wl (Nat.le_of_lt HW2.out.gl)
      clear q1 q2 q3 hall HRead
      go_wp2
      go_ret3
      exact ⟨_, by rw [HQ.out.2.1, HQ.out.2.2]; rfl, by rw [HQ.out.1]; exact HW2.out.out.low hgw, HW2.out.low⟩
end Go.Proofs.YtdgoeibfggjbmaaGreatDoor
namespace Go.Proofs.YtdgoeibfggjbmaaGreatDoor
open Go.RowKit
set_option maxRecDepth 100000
set_option linter.unusedSimpArgs false
set_option linter.unusedVariables false

theorem rd_of_range {W : World} {b o B : Nat} {l : List Int} (h : W.rangeAt b o (u8s l)) (ho : Oct l) (hB : b < B) : Rd W B (some ⟨b, o, none⟩) l.length l :=
  ⟨rfl, ho, fun _ => ⟨b, o, rfl, hB, fun i hi => h i _ (by simp [List.getD, hi])⟩⟩
section
variable {W : World} {g B : Nat} {r : Rt} (h : RtAt W g r) (hr : RtOk r) (hB : g < B)
include h hr hB
theorem RtAt.sRd : Rd W B (some ⟨g, 1, none⟩) 8 r.rd := by have := rd_of_range h.rRd hr.ord hB; rwa [hr.rd] at this
theorem RtAt.sEs : Rd W B (some ⟨g, 9, none⟩) 10 r.es := by have := rd_of_range (h.rEs hr) hr.oes hB; rwa [hr.es] at this
theorem RtAt.sMc : Rd W B (some ⟨g, 20, none⟩) 6 r.mc := by have := rd_of_range (h.rMc hr) hr.omc hB; rwa [hr.mc] at this
end
theorem be4_fit {n : Int} (h : U32 n) : n < 256 ^ 4 := by have := h.2; omega

def bodyR (r : Rt) : List Int :=
  if r.k = 1 then r.rd ++ (r.es ++ (be 4 r.tg ++ be 3 r.lb))
  else if r.k = 2 then r.rd ++ (r.es ++ (be 4 r.tg ++ ([48] ++ (r.mc ++ ([r.pn % 256] ++ (r.pl.take (r.pn / 8).toNat ++ (be 3 r.lb ++ sec r.l2)))))))
  else if r.k = 3 then r.rd ++ (be 4 r.tg ++ ([r.pn % 256] ++ r.pl.take (nb r.v6)))
  else if r.k = 4 then r.rd ++ (r.es ++ ([r.pn % 256] ++ r.pl.take (nb r.v6)))
  else r.rd ++ (r.es ++ (be 4 r.tg ++ ([r.pn % 256] ++ (r.pl.take (nb r.v6) ++ (r.gl.take (nb r.gv) ++ be 3 r.lb)))))

/-- The memory of bodyOf: the route, and the bytes that are laid ready. -/
structure BdA (w W : World) (r : Rt) (A5 A6 : Option Addr) : Prop where
  src : RtAt W w.heap.size r
  low : Below w.heap.size w W
  r5 : Rd W W.heap.size A5 4 (be 4 r.tg)
  r6 : Rd W W.heap.size A6 3 (be 3 r.lb)
structure BdB (w W : World) (r : Rt) (A5 A6 A7 A8 : Option Addr) : Prop extends BdA w W r A5 A6 where
  r7 : Rd W W.heap.size A7 1 [r.pn % 256]
  r8 : Rd W W.heap.size A8 (nb r.v6) (r.pl.take (nb r.v6))
section
variable {w W W' : World} {r : Rt} {A5 A6 A7 A8 : Option Addr}
theorem BdA.below (h : BdA w W r A5 A6) (hB : Below W.heap.size W W') : BdA w W' r A5 A6 := ⟨h.src.below hB h.src.lt, h.low.trans (hB.mono h.low.size), (h.r5.below hB).more hB.size, (h.r6.below hB).more hB.size⟩
theorem BdB.below (h : BdB w W r A5 A6 A7 A8) (hB : Below W.heap.size W W') : BdB w W' r A5 A6 A7 A8 := ⟨h.toBdA.below hB, (h.r7.below hB).more hB.size, (h.r8.below hB).more hB.size⟩
end
def CutA (w : World) (r : Rt) (s5 s6 : Value) (W : World) : Prop := ∃ A5 c5 A6 c6, s5 = .slice A5 4 c5 ∧ s6 = .slice A6 3 c6 ∧ BdA w W r A5 A6
def CutB (w : World) (r : Rt) (A5 A6 : Option Addr) (s7 s8 : Value) (W : World) : Prop := ∃ A7 c7 A8, s7 = .slice A7 1 c7 ∧ s8 = .slice A8 (nb r.v6) 16 ∧ BdB w W r A5 A6 A7 A8
theorem byt1_rd (W : World) (x : Int) (h0 : 0 ≤ x) (h1 : x < 256) : Rd (W.alloc (.cells #[.int .u8 x] 5)) (W.alloc (.cells #[.int .u8 x] 5)).heap.size (some ⟨W.heap.size, 0, none⟩) 1 [x] := by
  have hb : Byt (W.alloc (.cells #[.int .u8 x] 5)) W.heap.size 5 [x] := Blk.new W 5 #[.int .u8 x]
  exact hb.rd_all (fun y hy => by rw [List.mem_singleton] at hy; subst hy; exact ⟨h0, h1⟩) (by simp)
theorem below_one (W : World) (o : Obj) : Below W.heap.size W (W.alloc o) := (Below.refl _ _).alloc (Nat.le_refl _) _
theorem below_drew (W : World) : Below W.heap.size W W.drew := below_drewN (Below.refl _ _) 1

/-- What a right route's fields hold. -/
structure RightF (r : Rt) : Prop where
  lb : 0 ≤ r.lb ∧ r.lb ≤ 16777215
  l2 : 0 ≤ r.l2 ∧ r.l2 ≤ 16777215
  k : 1 ≤ r.k ∧ r.k ≤ 5
  two : r.k = 2 → (r.pn = 0 ∧ r.v6 = false) ∨ (r.pn = 32 ∧ r.v6 = false) ∨ (r.pn = 128 ∧ r.v6 = true)
theorem rightF {r : Rt} (hr : RtOk r) (h : rightR r = true) : RightF r := by
  unfold rightR at h
  simp only [Bool.and_eq_true, decide_eq_true_eq] at h
  obtain ⟨hk, _, hl, ha⟩ := h
  unfold labelsB at hl
  simp only [Bool.and_eq_true, decide_eq_true_eq] at hl
  refine ⟨⟨hr.lb.1, hl.1⟩, ⟨hr.l2.1, hl.2⟩, hk, fun h2 => ?_⟩
  unfold addrsB at ha
  rw [if_pos h2, Bool.or_eq_true] at ha
  rcases ha with ha | ha
  · unfold zeroPf at ha
    rw [decide_eq_true_eq] at ha
    exact .inl ⟨ha.2.2, ha.1⟩
  · unfold wholeB at ha
    rw [Bool.and_eq_true, decide_eq_true_eq] at ha
    have hb := ha.2
    cases hv : r.v6
    · rw [hv] at hb
      exact .inr (.inl ⟨hb, rfl⟩)
    · rw [hv] at hb
      exact .inr (.inr ⟨hb, rfl⟩)
theorem addr_at (W : World) (v : Bool) (l : List Int) (hl : l.length = 16) (ho : Oct l) : Calls Tryz.prog 221 #[.agg (ipc v l).toArray] W fun e W' => ∃ A, e = .returned (.slice A (nb v) 16) ∧ Rd W' W'.heap.size A (nb v) (l.take (nb v)) ∧ Below W.heap.size W W' := address_at W v l hl ho

set_option maxHeartbeats 4000000 in
set_option maxRecDepth 100000 in
theorem body_1 (w : World) (r : Rt) (hr : RtOk r) (hf : RightF r) (hk : r.k = 1) : Calls Tryz.prog 196 #[.agg (rtc r).toArray] w fun e w' => ∃ v, e = .returned v ∧ OwnB w.heap.size w' v (bodyR r) ∧ Below w.heap.size w w' := by
  have HR := Lib.hid hr
  have H1 := Lib.hid ((RtAt.new w r hr 53).keep (w' := (w.alloc (.cells (rtc r).toArray 53)).drew) rfl)
  have HB1 := Lib.hid (below_drewN ((Below.refl w.heap.size w).alloc (Nat.le_refl _) (.cells (rtc r).toArray 53)) 1)
  have HN4 : Hid (∀ W, Calls Tryz.prog 220 #[.int .u32 r.tg, .int .i64 4] W fun e W' => ∃ A c, e = .returned (.slice A 4 c) ∧ Rd W' W'.heap.size A 4 (be 4 r.tg) ∧ Below W.heap.size W W') := Lib.hid (fun W => (numb_is W r.tg 4 hr.tg (by omega) (by omega) (be4_fit hr.tg)).mono (by
    rintro e W' ⟨A, c, rfl, _, h2, h3⟩
    exact ⟨A, c, rfl, h2, h3⟩))
  have HN3 : Hid (∀ W, Calls Tryz.prog 220 #[.int .u32 r.lb, .int .i64 3] W fun e W' => ∃ A c, e = .returned (.slice A 3 c) ∧ Rd W' W'.heap.size A 3 (be 3 r.lb) ∧ Below W.heap.size W W') := Lib.hid (fun W => (numb_is W r.lb 3 hr.lb (by omega) (by omega) (by have := hf.lb.2; omega)).mono (by
    rintro e W' ⟨A, c, rfl, _, h2, h3⟩
    exact ⟨A, c, rfl, h2, h3⟩))
  have HAd : Hid (∀ W, Calls Tryz.prog 221 #[.agg (ipc r.v6 r.pl).toArray] W fun e W' => ∃ A, e = .returned (.slice A (nb r.v6) 16) ∧ Rd W' W'.heap.size A (nb r.v6) (r.pl.take (nb r.v6)) ∧ Below W.heap.size W W') := Lib.hid (fun W => addr_at W r.v6 r.pl hr.pl hr.opl)
  have hs8 : ∀ W, (Instr.sliceAt 45 (.pointer (some ⟨w.heap.size, 1, none⟩)) none none none).run Tryz.prog W = .ok (.slice (some ⟨w.heap.size, 1, none⟩) 8 8) W := fun W => by go_simp
  have hs10 : ∀ W, (Instr.sliceAt 47 (.pointer (some ⟨w.heap.size, 9, none⟩)) none none none).run Tryz.prog W = .ok (.slice (some ⟨w.heap.size, 9, none⟩) 10 10) W := fun W => by go_simp
  have HF : Hid (([r.rd, r.es, be 4 r.tg, be 3 r.lb] : List (List Int)).flatten = bodyR r) := Lib.hid (by unfold bodyR; rw [if_pos hk]; simp)
  have HLen : Hid ((bodyR r).length ≤ 140737488355328) := Lib.hid (by unfold bodyR; rw [if_pos hk]; simp [be_len, hr.rd, hr.es, hr.pl, hr.gl] <;> omega)
  have e1 : (r.k == 1) = true := by rw [beq_iff_eq]; omega
  clear hk
  clear hr hf
  go_enter Tryz.func196, Tryz.ntmps196
  go_wp2
  refine wp_region_held_drew (S := fun W => RtAt W w.heap.size r) (by kernel_rfl) (H1.out) (fun hS => ?_)
  refine wpAnyH_take (i := 0) (oi := ⟨some 9, _, _, _, _, _⟩) (v := ?_) rfl (by kernel_rfl) (by kernel_rfl) (by kernel_rfl) (fun _ _ _ h => h) (Or.inl ⟨by rfl, ?_⟩) hS ?_
  rotate_left
  · intro wq hq
    first | (go_simp; done) | (go_simp; rfl)
  try simp only [Act.put, List.setIfInBounds_toArray, List.set_cons_zero, List.set_cons_succ]
  refine wpAnyH_take (i := 1) (oi := ⟨some 10, _, _, _, _, _⟩) (v := ?_) rfl (by kernel_rfl) (by kernel_rfl) (by kernel_rfl) (fun _ _ _ h => h) (Or.inl ⟨by rfl, ?_⟩) hS ?_
  rotate_left
  · intro wq hq
    first | (go_simp; done) | (go_simp; rfl)
  try simp only [Act.put, List.setIfInBounds_toArray, List.set_cons_zero, List.set_cons_succ]
  refine wpAnyH_take (i := 2) (oi := ⟨some 11, _, _, _, _, _⟩) (v := ?_) rfl (by kernel_rfl) (by kernel_rfl) (by kernel_rfl) (fun _ _ _ h => h) (Or.inl ⟨by rfl, ?_⟩) hS ?_
  rotate_left
  · intro wq hq
    first | (go_simp; done) | (go_simp; rfl)
  try simp only [Act.put, List.setIfInBounds_toArray, List.set_cons_zero, List.set_cons_succ]
  refine wpAnyH_take (i := 3) (oi := ⟨some 12, _, _, _, _, _⟩) (v := ?_) rfl (by kernel_rfl) (by kernel_rfl) (by kernel_rfl) (fun _ _ _ h => h) (Or.inl ⟨by rfl, ?_⟩) hS ?_
  rotate_left
  · intro wq hq
    first | (go_simp; done) | (go_simp; rfl)
  try simp only [Act.put, List.setIfInBounds_toArray, List.set_cons_zero, List.set_cons_succ]
  refine wpAnyH_take (i := 4) (oi := ⟨some 3, _, _, _, _, _⟩) (v := ?_) rfl (by kernel_rfl) (by kernel_rfl) (by kernel_rfl) (fun _ _ _ h => h) (Or.inl ⟨by rfl, ?_⟩) hS ?_
  rotate_left
  · intro wq hq
    first | (go_simp; done) | (go_simp; rfl)
  try simp only [Act.put, List.setIfInBounds_toArray, List.set_cons_zero, List.set_cons_succ]
  refine wpAnyH_take (i := 5) (oi := ⟨some 4, _, _, _, _, _⟩) (v := ?_) rfl (by kernel_rfl) (by kernel_rfl) (by kernel_rfl) (fun _ _ _ h => h) (Or.inl ⟨by rfl, ?_⟩) hS ?_
  rotate_left
  · intro wq hq
    first | (go_simp; done) | (go_simp; rfl)
  try simp only [Act.put, List.setIfInBounds_toArray, List.set_cons_zero, List.set_cons_succ]
  refine wpAnyH_done (by kernel_rfl) ?_ _
  clear hS hs8 hs10
  go_wp2_with fail
  have HW1 := Lib.hid (show RtAt ((w.alloc (.cells (rtc r).toArray 53)).drew) w.heap.size r ∧ Below w.heap.size w ((w.alloc (.cells (rtc r).toArray 53)).drew) from ⟨H1.out, HB1.out⟩)
  clear H1 HB1
  generalize (w.alloc (.cells (rtc r).toArray 53)).drew = W1 at *
  go_cut [5, 6] (fun s5 s6 wx => CutA w r s5 s6 wx)
  case first =>
    refine wp_region_held_drew (S := fun W => RtAt W w.heap.size r ∧ Below w.heap.size w W) (by kernel_rfl) (⟨HW1.out.1.keep rfl, below_drewN HW1.out.2 1⟩) (fun hS => ?_)
    refine wpAnyH_take (i := 0) (oi := ⟨some 13, _, _, _, _, _⟩) (v := ?_) rfl (by kernel_rfl) (by kernel_rfl) (by kernel_rfl) (fun _ _ _ h => h) (Or.inl ⟨by rfl, ?_⟩) hS ?_
    rotate_left
    · intro wq hq
      first | (go_simp; done) | (go_simp; rfl)
    try simp only [Act.put, List.setIfInBounds_toArray, List.set_cons_zero, List.set_cons_succ]
    refine wpAnyH_take (i := 1) (oi := ⟨some 14, _, _, _, _, _⟩) (v := ?_) rfl (by kernel_rfl) (by kernel_rfl) (by kernel_rfl) (fun _ _ _ h => h) (Or.inl ⟨by rfl, ?_⟩) hS ?_
    rotate_left
    · intro wq hq
      have hc := hq.1.cTg HR.out
      first | (go_simp; done) | (go_simp; rfl)
    try simp only [Act.put, List.setIfInBounds_toArray, List.set_cons_zero, List.set_cons_succ]
    refine wpAnyH_take (i := 3) (oi := ⟨some 16, _, _, _, _, _⟩) (v := ?_) rfl (by kernel_rfl) (by kernel_rfl) (by kernel_rfl) (fun _ _ _ h => h) (Or.inl ⟨by rfl, ?_⟩) hS ?_
    rotate_left
    · intro wq hq
      first | (go_simp; done) | (go_simp; rfl)
    try simp only [Act.put, List.setIfInBounds_toArray, List.set_cons_zero, List.set_cons_succ]
    refine wpAnyH_take (i := 4) (oi := ⟨some 17, _, _, _, _, _⟩) (v := ?_) rfl (by kernel_rfl) (by kernel_rfl) (by kernel_rfl) (fun _ _ _ h => h) (Or.inl ⟨by rfl, ?_⟩) hS ?_
    rotate_left
    · intro wq hq
      have hc := hq.1.cLb HR.out
      first | (go_simp; done) | (go_simp; rfl)
    try simp only [Act.put, List.setIfInBounds_toArray, List.set_cons_zero, List.set_cons_succ]
    refine wpAnyH_ready (rs := [2]) (by kernel_rfl) (by simp) ?_
    refine AllReadyH.cons (o := ⟨some 15, _, _, _, _, _⟩) rfl (fun K hK => ?_) AllReadyH.nil
    rw [if_pos (by rfl)]
    go_wp2_with fail
    refine (HN4.out _).mono ?_
    rintro e w2 ⟨A5, c5, rfl, hr5, hB5⟩
    have hS2 : RtAt w2 w.heap.size r ∧ Below w.heap.size w w2 := ⟨hS.1.below hB5 hS.1.lt, hS.2.trans (hB5.mono hS.2.size)⟩
    refine hK.out _ _ (hS2) (fun hS => ?_)
    clear hK K
    try simp only [Act.put, List.setIfInBounds_toArray, List.set_cons_zero, List.set_cons_succ]
    refine wpAnyH_ready (rs := [5]) (by kernel_rfl) (by simp) ?_
    refine AllReadyH.cons (o := ⟨some 18, _, _, _, _, _⟩) rfl (fun K hK => ?_) AllReadyH.nil
    rw [if_pos (by rfl)]
    go_wp2_with fail
    refine (HN3.out _).mono ?_
    rintro e w3 ⟨A6, c6, rfl, hr6, hB6⟩
    have hS3 : RtAt w3 w.heap.size r ∧ Below w.heap.size w w3 := ⟨hS.1.below hB6 hS.1.lt, hS.2.trans (hB6.mono hS.2.size)⟩
    refine hK.out _ _ (hS3) (fun hS => ?_)
    clear hK K
    try simp only [Act.put, List.setIfInBounds_toArray, List.set_cons_zero, List.set_cons_succ]
    refine wpAnyH_take (i := 6) (oi := ⟨some 5, _, _, _, _, _⟩) (v := ?_) rfl (by kernel_rfl) (by kernel_rfl) (by kernel_rfl) (fun _ _ _ h => h) (Or.inl ⟨by rfl, ?_⟩) hS ?_
    rotate_left
    · intro wq hq
      first | (go_simp; done) | (go_simp; rfl)
    try simp only [Act.put, List.setIfInBounds_toArray, List.set_cons_zero, List.set_cons_succ]
    refine wpAnyH_take (i := 7) (oi := ⟨some 6, _, _, _, _, _⟩) (v := ?_) rfl (by kernel_rfl) (by kernel_rfl) (by kernel_rfl) (fun _ _ _ h => h) (Or.inl ⟨by rfl, ?_⟩) hS ?_
    rotate_left
    · intro wq hq
      first | (go_simp; done) | (go_simp; rfl)
    try simp only [Act.put, List.setIfInBounds_toArray, List.set_cons_zero, List.set_cons_succ]
    refine wpAnyH_done (by kernel_rfl) ?_ _
    go_wp2_with fail
    go_meet
    exact ⟨A5, c5, A6, c6, rfl, rfl, hS3.1, hS3.2, (hr5.below hB6).more hB6.size, hr6⟩
  case rest =>
    obtain ⟨A5, c5, A6, c6, rfl, rfl, hA⟩ := hcut
    have HA := Lib.hid (show BdA w wc.drew r A5 A6 from hA.below (below_drew wc))
    clear hA
    go_wp2_with fail
    go_cut [7, 8] (fun s7 s8 wx => CutB w r A5 A6 s7 s8 wx)
    case first =>
      refine wp_region_held_drew (S := fun W => BdA w W r A5 A6) (by kernel_rfl) (HA.out) (fun hS => ?_)
      refine wpAnyH_take (i := 0) (oi := ⟨some 19, _, _, _, _, _⟩) (v := ?_) rfl (by kernel_rfl) (by kernel_rfl) (by kernel_rfl) (fun _ _ _ h => h) (Or.inl ⟨by rfl, ?_⟩) hS ?_
      rotate_left
      · intro wq hq
        first | (go_simp; done) | (go_simp; rfl)
      try simp only [Act.put, List.setIfInBounds_toArray, List.set_cons_zero, List.set_cons_succ]
      refine wpAnyH_take (i := 1) (oi := ⟨some 20, _, _, _, _, _⟩) (v := ?_) rfl (by kernel_rfl) (by kernel_rfl) (by kernel_rfl) (fun _ _ _ h => h) (Or.inl ⟨by rfl, ?_⟩) hS ?_
      rotate_left
      · intro wq hq
        first | (go_simp; done) | (go_simp; rfl)
      try simp only [Act.put, List.setIfInBounds_toArray, List.set_cons_zero, List.set_cons_succ]
      refine wpAnyH_take (i := 2) (oi := ⟨some 21, _, _, _, _, _⟩) (v := ?_) rfl (by kernel_rfl) (by kernel_rfl) (by kernel_rfl) (fun _ _ _ h => h) (Or.inl ⟨by rfl, ?_⟩) hS ?_
      rotate_left
      · intro wq hq
        have hc := hq.src.cPn HR.out
        first | (go_simp; done) | (go_simp; rfl)
      try simp only [Act.put, List.setIfInBounds_toArray, List.set_cons_zero, List.set_cons_succ]
      refine wpAnyH_take (i := 3) (oi := ⟨some 22, _, _, _, _, _⟩) (v := ?_) rfl (by kernel_rfl) (by kernel_rfl) (by kernel_rfl) (fun _ _ _ h => h) (Or.inl ⟨by rfl, ?_⟩) hS ?_
      rotate_left
      · intro wq hq
        first | (go_simp; done) | (go_simp; rfl)
      try simp only [Act.put, List.setIfInBounds_toArray, List.set_cons_zero, List.set_cons_succ]
      refine wpAnyH_take (i := 5) (oi := ⟨some 24, _, _, _, _, _⟩) (v := ?_) rfl (by kernel_rfl) (by kernel_rfl) (by kernel_rfl) (fun _ _ _ h => h) (Or.inl ⟨by rfl, ?_⟩) hS ?_
      rotate_left
      · intro wq hq
        first | (go_simp; done) | (go_simp; rfl)
      try simp only [Act.put, List.setIfInBounds_toArray, List.set_cons_zero, List.set_cons_succ]
      refine wpAnyH_take (i := 6) (oi := ⟨some 25, _, _, _, _, _⟩) (v := ?_) rfl (by kernel_rfl) (by kernel_rfl) (by kernel_rfl) (fun _ _ _ h => h) (Or.inl ⟨by rfl, ?_⟩) hS ?_
      rotate_left
      · intro wq hq
        first | (go_simp; done) | (go_simp; rfl)
      try simp only [Act.put, List.setIfInBounds_toArray, List.set_cons_zero, List.set_cons_succ]
      refine wpAnyH_take (i := 7) (oi := ⟨some 26, _, _, _, _, _⟩) rfl (by kernel_rfl) (by kernel_rfl) (by kernel_rfl) (fun _ _ _ h => h) (yieldsIf_load_mid (by rfl) 27 _ rfl _ _ rfl (ipc r.v6 r.pl) _ (fun wq hq => hq.src.rIp HR.out) Tryz.underlying27 rfl (sz_ip HR.out)) hS ?_
      try simp only [Act.put, List.setIfInBounds_toArray, List.set_cons_zero, List.set_cons_succ]
      refine wpAnyH_ready (rs := [4, 8]) (by kernel_rfl) (by simp) ?_
      refine AllReadyH.cons (o := ⟨some 23, _, _, _, _, _⟩) rfl (fun K hK => ?_) (AllReadyH.cons (o := ⟨some 27, _, _, _, _, _⟩) rfl (fun K hK => ?_) AllReadyH.nil)
      · rw [if_pos (by rfl)]
        go_wp2
        have h7 := byt1_rd wc.drew (r.pn % 256) (Int.emod_nonneg _ (by decide)) (Int.emod_lt_of_pos _ (by decide))
        have hS2 := hS.below (below_one wc.drew (.cells #[.int .u8 (r.pn % 256)] 5))
        refine hK.out _ _ (hS2) (fun hS => ?_)
        clear hK K
        try simp only [Act.put, List.setIfInBounds_toArray, List.set_cons_zero, List.set_cons_succ]
        refine wpAnyH_ready (rs := [8]) (by kernel_rfl) (by simp) ?_
        refine AllReadyH.cons (o := ⟨some 27, _, _, _, _, _⟩) rfl (fun K hK => ?_) AllReadyH.nil
        rw [if_pos (by rfl)]
        go_wp2_with fail
        refine (HAd.out _).mono ?_
        rintro e w3 ⟨A8, rfl, hr8, hB8⟩
        have hS3 := hS.below hB8
        refine hK.out _ _ (hS3) (fun hS => ?_)
        clear hK K
        try simp only [Act.put, List.setIfInBounds_toArray, List.set_cons_zero, List.set_cons_succ]
        refine wpAnyH_take (i := 9) (oi := ⟨some 7, _, _, _, _, _⟩) (v := ?_) rfl (by kernel_rfl) (by kernel_rfl) (by kernel_rfl) (fun _ _ _ h => h) (Or.inl ⟨by rfl, ?_⟩) hS ?_
        rotate_left
        · intro wq hq
          first | (go_simp; done) | (go_simp; rfl)
        try simp only [Act.put, List.setIfInBounds_toArray, List.set_cons_zero, List.set_cons_succ]
        refine wpAnyH_take (i := 10) (oi := ⟨some 8, _, _, _, _, _⟩) (v := ?_) rfl (by kernel_rfl) (by kernel_rfl) (by kernel_rfl) (fun _ _ _ h => h) (Or.inl ⟨by rfl, ?_⟩) hS ?_
        rotate_left
        · intro wq hq
          first | (go_simp; done) | (go_simp; rfl)
        try simp only [Act.put, List.setIfInBounds_toArray, List.set_cons_zero, List.set_cons_succ]
        refine wpAnyH_done (by kernel_rfl) ?_ _
        go_wp2_with fail
        go_meet
        exact ⟨_, _, A8, rfl, rfl, hS3, (h7.below hB8).more hB8.size, hr8⟩
      · rw [if_pos (by rfl)]
        go_wp2_with fail
        refine (HAd.out _).mono ?_
        rintro e w2 ⟨A8, rfl, hr8, hB8⟩
        have hS2 := hS.below hB8
        refine hK.out _ _ (hS2) (fun hS => ?_)
        clear hK K
        try simp only [Act.put, List.setIfInBounds_toArray, List.set_cons_zero, List.set_cons_succ]
        refine wpAnyH_ready (rs := [4]) (by kernel_rfl) (by simp) ?_
        refine AllReadyH.cons (o := ⟨some 23, _, _, _, _, _⟩) rfl (fun K hK => ?_) AllReadyH.nil
        rw [if_pos (by rfl)]
        go_wp2
        have h7 := byt1_rd w2 (r.pn % 256) (Int.emod_nonneg _ (by decide)) (Int.emod_lt_of_pos _ (by decide))
        have hb1 := below_one w2 (.cells #[.int .u8 (r.pn % 256)] 5)
        have hS3 := hS.below hb1
        refine hK.out _ _ (hS3) (fun hS => ?_)
        clear hK K
        try simp only [Act.put, List.setIfInBounds_toArray, List.set_cons_zero, List.set_cons_succ]
        refine wpAnyH_take (i := 9) (oi := ⟨some 7, _, _, _, _, _⟩) (v := ?_) rfl (by kernel_rfl) (by kernel_rfl) (by kernel_rfl) (fun _ _ _ h => h) (Or.inl ⟨by rfl, ?_⟩) hS ?_
        rotate_left
        · intro wq hq
          first | (go_simp; done) | (go_simp; rfl)
        try simp only [Act.put, List.setIfInBounds_toArray, List.set_cons_zero, List.set_cons_succ]
        refine wpAnyH_take (i := 10) (oi := ⟨some 8, _, _, _, _, _⟩) (v := ?_) rfl (by kernel_rfl) (by kernel_rfl) (by kernel_rfl) (fun _ _ _ h => h) (Or.inl ⟨by rfl, ?_⟩) hS ?_
        rotate_left
        · intro wq hq
          first | (go_simp; done) | (go_simp; rfl)
        try simp only [Act.put, List.setIfInBounds_toArray, List.set_cons_zero, List.set_cons_succ]
        refine wpAnyH_done (by kernel_rfl) ?_ _
        go_wp2_with fail
        go_meet
        exact ⟨_, _, A8, rfl, rfl, hS3, h7, (hr8.below hb1).more hb1.size⟩
    case rest =>
      obtain ⟨A7, c7, A8, rfl, rfl, hB⟩ := hcut
      have cK := hB.src.cK
      have HBd := Lib.hid hB
      clear hB
      have HL : Hid (RdL (wc.alloc (.cells (([(some ⟨w.heap.size, 1, none⟩, 8, 8), (some ⟨w.heap.size, 9, none⟩, 10, 10), (A5, 4, c5), (A6, 3, c6)] : List (Option Addr × Nat × Nat)).map fun v => Value.slice v.1 v.2.1 v.2.2).toArray 38)) (wc.alloc (.cells (([(some ⟨w.heap.size, 1, none⟩, 8, 8), (some ⟨w.heap.size, 9, none⟩, 10, 10), (A5, 4, c5), (A6, 3, c6)] : List (Option Addr × Nat × Nat)).map fun v => Value.slice v.1 v.2.1 v.2.2).toArray 38)).heap.size (some ⟨wc.heap.size, 0, none⟩) 4 [r.rd, r.es, be 4 r.tg, be 3 r.lb]) := Lib.hid (rdl_new (W := wc) (vs := [(some ⟨w.heap.size, 1, none⟩, 8, 8), (some ⟨w.heap.size, 9, none⟩, 10, 10), (A5, 4, c5), (A6, 3, c6)]) (ls := [r.rd, r.es, be 4 r.tg, be 3 r.lb]) ⟨HBd.out.src.sRd HR.out HBd.out.src.lt, HBd.out.src.sEs HR.out HBd.out.src.lt, HBd.out.r5, HBd.out.r6, trivial⟩ 38 _ rfl)
      have HLow := Lib.hid HBd.out.low
      clear HBd
      go_wp2_with fail
      refine (concat_is _ _ 4 4 _ HL.out (by omega) (by rw [HF.out]; exact HLen.out)).mono ?_
      rintro e w9 ⟨v, rfl, hO, hB9⟩
      have HEnd := Lib.hid (show OwnB w.heap.size w9 v (bodyR r) ∧ Below w.heap.size w w9 from ⟨by rw [← HF.out]; exact hO.low (by have := HLow.out.size; simp; omega), (HLow.out.trans ((below_one wc _).mono HLow.out.size)).trans (hB9.mono (by have := HLow.out.size; simp; omega))⟩)
      clear hO hB9
      go_wp2
      go_ret
      exact ⟨v, rfl, HEnd.out.1, HEnd.out.2⟩

set_option maxHeartbeats 4000000 in
set_option maxRecDepth 100000 in
theorem body_3 (w : World) (r : Rt) (hr : RtOk r) (hf : RightF r) (hk : r.k = 3) : Calls Tryz.prog 196 #[.agg (rtc r).toArray] w fun e w' => ∃ v, e = .returned v ∧ OwnB w.heap.size w' v (bodyR r) ∧ Below w.heap.size w w' := by
  have HR := Lib.hid hr
  have H1 := Lib.hid ((RtAt.new w r hr 53).keep (w' := (w.alloc (.cells (rtc r).toArray 53)).drew) rfl)
  have HB1 := Lib.hid (below_drewN ((Below.refl w.heap.size w).alloc (Nat.le_refl _) (.cells (rtc r).toArray 53)) 1)
  have HN4 : Hid (∀ W, Calls Tryz.prog 220 #[.int .u32 r.tg, .int .i64 4] W fun e W' => ∃ A c, e = .returned (.slice A 4 c) ∧ Rd W' W'.heap.size A 4 (be 4 r.tg) ∧ Below W.heap.size W W') := Lib.hid (fun W => (numb_is W r.tg 4 hr.tg (by omega) (by omega) (be4_fit hr.tg)).mono (by
    rintro e W' ⟨A, c, rfl, _, h2, h3⟩
    exact ⟨A, c, rfl, h2, h3⟩))
  have HN3 : Hid (∀ W, Calls Tryz.prog 220 #[.int .u32 r.lb, .int .i64 3] W fun e W' => ∃ A c, e = .returned (.slice A 3 c) ∧ Rd W' W'.heap.size A 3 (be 3 r.lb) ∧ Below W.heap.size W W') := Lib.hid (fun W => (numb_is W r.lb 3 hr.lb (by omega) (by omega) (by have := hf.lb.2; omega)).mono (by
    rintro e W' ⟨A, c, rfl, _, h2, h3⟩
    exact ⟨A, c, rfl, h2, h3⟩))
  have HAd : Hid (∀ W, Calls Tryz.prog 221 #[.agg (ipc r.v6 r.pl).toArray] W fun e W' => ∃ A, e = .returned (.slice A (nb r.v6) 16) ∧ Rd W' W'.heap.size A (nb r.v6) (r.pl.take (nb r.v6)) ∧ Below W.heap.size W W') := Lib.hid (fun W => addr_at W r.v6 r.pl hr.pl hr.opl)
  have hs8 : ∀ W, (Instr.sliceAt 45 (.pointer (some ⟨w.heap.size, 1, none⟩)) none none none).run Tryz.prog W = .ok (.slice (some ⟨w.heap.size, 1, none⟩) 8 8) W := fun W => by go_simp
  have hs10 : ∀ W, (Instr.sliceAt 47 (.pointer (some ⟨w.heap.size, 9, none⟩)) none none none).run Tryz.prog W = .ok (.slice (some ⟨w.heap.size, 9, none⟩) 10 10) W := fun W => by go_simp
  have HF : Hid (([r.rd, be 4 r.tg, [r.pn % 256], r.pl.take (nb r.v6)] : List (List Int)).flatten = bodyR r) := Lib.hid (by unfold bodyR; rw [if_neg (by omega)]; rw [if_neg (by omega)]; rw [if_pos hk]; simp)
  have HLen : Hid ((bodyR r).length ≤ 140737488355328) := Lib.hid (by unfold bodyR; rw [if_neg (by omega)]; rw [if_neg (by omega)]; rw [if_pos hk]; simp [be_len, hr.rd, hr.es, hr.pl, hr.gl] <;> omega)
  have e1 : (r.k == 1) = false := by rw [beq_eq_false_iff_ne]; omega
  have e2 : (r.k == 2) = false := by rw [beq_eq_false_iff_ne]; omega
  have e3 : (r.k == 3) = true := by rw [beq_iff_eq]; omega
  clear hk
  clear hr hf
  go_enter Tryz.func196, Tryz.ntmps196
  go_wp2
  refine wp_region_held_drew (S := fun W => RtAt W w.heap.size r) (by kernel_rfl) (H1.out) (fun hS => ?_)
  refine wpAnyH_take (i := 0) (oi := ⟨some 9, _, _, _, _, _⟩) (v := ?_) rfl (by kernel_rfl) (by kernel_rfl) (by kernel_rfl) (fun _ _ _ h => h) (Or.inl ⟨by rfl, ?_⟩) hS ?_
  rotate_left
  · intro wq hq
    first | (go_simp; done) | (go_simp; rfl)
  try simp only [Act.put, List.setIfInBounds_toArray, List.set_cons_zero, List.set_cons_succ]
  refine wpAnyH_take (i := 1) (oi := ⟨some 10, _, _, _, _, _⟩) (v := ?_) rfl (by kernel_rfl) (by kernel_rfl) (by kernel_rfl) (fun _ _ _ h => h) (Or.inl ⟨by rfl, ?_⟩) hS ?_
  rotate_left
  · intro wq hq
    first | (go_simp; done) | (go_simp; rfl)
  try simp only [Act.put, List.setIfInBounds_toArray, List.set_cons_zero, List.set_cons_succ]
  refine wpAnyH_take (i := 2) (oi := ⟨some 11, _, _, _, _, _⟩) (v := ?_) rfl (by kernel_rfl) (by kernel_rfl) (by kernel_rfl) (fun _ _ _ h => h) (Or.inl ⟨by rfl, ?_⟩) hS ?_
  rotate_left
  · intro wq hq
    first | (go_simp; done) | (go_simp; rfl)
  try simp only [Act.put, List.setIfInBounds_toArray, List.set_cons_zero, List.set_cons_succ]
  refine wpAnyH_take (i := 3) (oi := ⟨some 12, _, _, _, _, _⟩) (v := ?_) rfl (by kernel_rfl) (by kernel_rfl) (by kernel_rfl) (fun _ _ _ h => h) (Or.inl ⟨by rfl, ?_⟩) hS ?_
  rotate_left
  · intro wq hq
    first | (go_simp; done) | (go_simp; rfl)
  try simp only [Act.put, List.setIfInBounds_toArray, List.set_cons_zero, List.set_cons_succ]
  refine wpAnyH_take (i := 4) (oi := ⟨some 3, _, _, _, _, _⟩) (v := ?_) rfl (by kernel_rfl) (by kernel_rfl) (by kernel_rfl) (fun _ _ _ h => h) (Or.inl ⟨by rfl, ?_⟩) hS ?_
  rotate_left
  · intro wq hq
    first | (go_simp; done) | (go_simp; rfl)
  try simp only [Act.put, List.setIfInBounds_toArray, List.set_cons_zero, List.set_cons_succ]
  refine wpAnyH_take (i := 5) (oi := ⟨some 4, _, _, _, _, _⟩) (v := ?_) rfl (by kernel_rfl) (by kernel_rfl) (by kernel_rfl) (fun _ _ _ h => h) (Or.inl ⟨by rfl, ?_⟩) hS ?_
  rotate_left
  · intro wq hq
    first | (go_simp; done) | (go_simp; rfl)
  try simp only [Act.put, List.setIfInBounds_toArray, List.set_cons_zero, List.set_cons_succ]
  refine wpAnyH_done (by kernel_rfl) ?_ _
  clear hS hs8 hs10
  go_wp2_with fail
  have HW1 := Lib.hid (show RtAt ((w.alloc (.cells (rtc r).toArray 53)).drew) w.heap.size r ∧ Below w.heap.size w ((w.alloc (.cells (rtc r).toArray 53)).drew) from ⟨H1.out, HB1.out⟩)
  clear H1 HB1
  generalize (w.alloc (.cells (rtc r).toArray 53)).drew = W1 at *
  go_cut [5, 6] (fun s5 s6 wx => CutA w r s5 s6 wx)
  case first =>
    refine wp_region_held_drew (S := fun W => RtAt W w.heap.size r ∧ Below w.heap.size w W) (by kernel_rfl) (⟨HW1.out.1.keep rfl, below_drewN HW1.out.2 1⟩) (fun hS => ?_)
    refine wpAnyH_take (i := 0) (oi := ⟨some 13, _, _, _, _, _⟩) (v := ?_) rfl (by kernel_rfl) (by kernel_rfl) (by kernel_rfl) (fun _ _ _ h => h) (Or.inl ⟨by rfl, ?_⟩) hS ?_
    rotate_left
    · intro wq hq
      first | (go_simp; done) | (go_simp; rfl)
    try simp only [Act.put, List.setIfInBounds_toArray, List.set_cons_zero, List.set_cons_succ]
    refine wpAnyH_take (i := 1) (oi := ⟨some 14, _, _, _, _, _⟩) (v := ?_) rfl (by kernel_rfl) (by kernel_rfl) (by kernel_rfl) (fun _ _ _ h => h) (Or.inl ⟨by rfl, ?_⟩) hS ?_
    rotate_left
    · intro wq hq
      have hc := hq.1.cTg HR.out
      first | (go_simp; done) | (go_simp; rfl)
    try simp only [Act.put, List.setIfInBounds_toArray, List.set_cons_zero, List.set_cons_succ]
    refine wpAnyH_take (i := 3) (oi := ⟨some 16, _, _, _, _, _⟩) (v := ?_) rfl (by kernel_rfl) (by kernel_rfl) (by kernel_rfl) (fun _ _ _ h => h) (Or.inl ⟨by rfl, ?_⟩) hS ?_
    rotate_left
    · intro wq hq
      first | (go_simp; done) | (go_simp; rfl)
    try simp only [Act.put, List.setIfInBounds_toArray, List.set_cons_zero, List.set_cons_succ]
    refine wpAnyH_take (i := 4) (oi := ⟨some 17, _, _, _, _, _⟩) (v := ?_) rfl (by kernel_rfl) (by kernel_rfl) (by kernel_rfl) (fun _ _ _ h => h) (Or.inl ⟨by rfl, ?_⟩) hS ?_
    rotate_left
    · intro wq hq
      have hc := hq.1.cLb HR.out
      first | (go_simp; done) | (go_simp; rfl)
    try simp only [Act.put, List.setIfInBounds_toArray, List.set_cons_zero, List.set_cons_succ]
    refine wpAnyH_ready (rs := [2]) (by kernel_rfl) (by simp) ?_
    refine AllReadyH.cons (o := ⟨some 15, _, _, _, _, _⟩) rfl (fun K hK => ?_) AllReadyH.nil
    rw [if_pos (by rfl)]
    go_wp2_with fail
    refine (HN4.out _).mono ?_
    rintro e w2 ⟨A5, c5, rfl, hr5, hB5⟩
    have hS2 : RtAt w2 w.heap.size r ∧ Below w.heap.size w w2 := ⟨hS.1.below hB5 hS.1.lt, hS.2.trans (hB5.mono hS.2.size)⟩
    refine hK.out _ _ (hS2) (fun hS => ?_)
    clear hK K
    try simp only [Act.put, List.setIfInBounds_toArray, List.set_cons_zero, List.set_cons_succ]
    refine wpAnyH_ready (rs := [5]) (by kernel_rfl) (by simp) ?_
    refine AllReadyH.cons (o := ⟨some 18, _, _, _, _, _⟩) rfl (fun K hK => ?_) AllReadyH.nil
    rw [if_pos (by rfl)]
    go_wp2_with fail
    refine (HN3.out _).mono ?_
    rintro e w3 ⟨A6, c6, rfl, hr6, hB6⟩
    have hS3 : RtAt w3 w.heap.size r ∧ Below w.heap.size w w3 := ⟨hS.1.below hB6 hS.1.lt, hS.2.trans (hB6.mono hS.2.size)⟩
    refine hK.out _ _ (hS3) (fun hS => ?_)
    clear hK K
    try simp only [Act.put, List.setIfInBounds_toArray, List.set_cons_zero, List.set_cons_succ]
    refine wpAnyH_take (i := 6) (oi := ⟨some 5, _, _, _, _, _⟩) (v := ?_) rfl (by kernel_rfl) (by kernel_rfl) (by kernel_rfl) (fun _ _ _ h => h) (Or.inl ⟨by rfl, ?_⟩) hS ?_
    rotate_left
    · intro wq hq
      first | (go_simp; done) | (go_simp; rfl)
    try simp only [Act.put, List.setIfInBounds_toArray, List.set_cons_zero, List.set_cons_succ]
    refine wpAnyH_take (i := 7) (oi := ⟨some 6, _, _, _, _, _⟩) (v := ?_) rfl (by kernel_rfl) (by kernel_rfl) (by kernel_rfl) (fun _ _ _ h => h) (Or.inl ⟨by rfl, ?_⟩) hS ?_
    rotate_left
    · intro wq hq
      first | (go_simp; done) | (go_simp; rfl)
    try simp only [Act.put, List.setIfInBounds_toArray, List.set_cons_zero, List.set_cons_succ]
    refine wpAnyH_done (by kernel_rfl) ?_ _
    go_wp2_with fail
    go_meet
    exact ⟨A5, c5, A6, c6, rfl, rfl, hS3.1, hS3.2, (hr5.below hB6).more hB6.size, hr6⟩
  case rest =>
    obtain ⟨A5, c5, A6, c6, rfl, rfl, hA⟩ := hcut
    have HA := Lib.hid (show BdA w wc.drew r A5 A6 from hA.below (below_drew wc))
    clear hA
    go_wp2_with fail
    go_cut [7, 8] (fun s7 s8 wx => CutB w r A5 A6 s7 s8 wx)
    case first =>
      refine wp_region_held_drew (S := fun W => BdA w W r A5 A6) (by kernel_rfl) (HA.out) (fun hS => ?_)
      refine wpAnyH_take (i := 0) (oi := ⟨some 19, _, _, _, _, _⟩) (v := ?_) rfl (by kernel_rfl) (by kernel_rfl) (by kernel_rfl) (fun _ _ _ h => h) (Or.inl ⟨by rfl, ?_⟩) hS ?_
      rotate_left
      · intro wq hq
        first | (go_simp; done) | (go_simp; rfl)
      try simp only [Act.put, List.setIfInBounds_toArray, List.set_cons_zero, List.set_cons_succ]
      refine wpAnyH_take (i := 1) (oi := ⟨some 20, _, _, _, _, _⟩) (v := ?_) rfl (by kernel_rfl) (by kernel_rfl) (by kernel_rfl) (fun _ _ _ h => h) (Or.inl ⟨by rfl, ?_⟩) hS ?_
      rotate_left
      · intro wq hq
        first | (go_simp; done) | (go_simp; rfl)
      try simp only [Act.put, List.setIfInBounds_toArray, List.set_cons_zero, List.set_cons_succ]
      refine wpAnyH_take (i := 2) (oi := ⟨some 21, _, _, _, _, _⟩) (v := ?_) rfl (by kernel_rfl) (by kernel_rfl) (by kernel_rfl) (fun _ _ _ h => h) (Or.inl ⟨by rfl, ?_⟩) hS ?_
      rotate_left
      · intro wq hq
        have hc := hq.src.cPn HR.out
        first | (go_simp; done) | (go_simp; rfl)
      try simp only [Act.put, List.setIfInBounds_toArray, List.set_cons_zero, List.set_cons_succ]
      refine wpAnyH_take (i := 3) (oi := ⟨some 22, _, _, _, _, _⟩) (v := ?_) rfl (by kernel_rfl) (by kernel_rfl) (by kernel_rfl) (fun _ _ _ h => h) (Or.inl ⟨by rfl, ?_⟩) hS ?_
      rotate_left
      · intro wq hq
        first | (go_simp; done) | (go_simp; rfl)
      try simp only [Act.put, List.setIfInBounds_toArray, List.set_cons_zero, List.set_cons_succ]
      refine wpAnyH_take (i := 5) (oi := ⟨some 24, _, _, _, _, _⟩) (v := ?_) rfl (by kernel_rfl) (by kernel_rfl) (by kernel_rfl) (fun _ _ _ h => h) (Or.inl ⟨by rfl, ?_⟩) hS ?_
      rotate_left
      · intro wq hq
        first | (go_simp; done) | (go_simp; rfl)
      try simp only [Act.put, List.setIfInBounds_toArray, List.set_cons_zero, List.set_cons_succ]
      refine wpAnyH_take (i := 6) (oi := ⟨some 25, _, _, _, _, _⟩) (v := ?_) rfl (by kernel_rfl) (by kernel_rfl) (by kernel_rfl) (fun _ _ _ h => h) (Or.inl ⟨by rfl, ?_⟩) hS ?_
      rotate_left
      · intro wq hq
        first | (go_simp; done) | (go_simp; rfl)
      try simp only [Act.put, List.setIfInBounds_toArray, List.set_cons_zero, List.set_cons_succ]
      refine wpAnyH_take (i := 7) (oi := ⟨some 26, _, _, _, _, _⟩) rfl (by kernel_rfl) (by kernel_rfl) (by kernel_rfl) (fun _ _ _ h => h) (yieldsIf_load_mid (by rfl) 27 _ rfl _ _ rfl (ipc r.v6 r.pl) _ (fun wq hq => hq.src.rIp HR.out) Tryz.underlying27 rfl (sz_ip HR.out)) hS ?_
      try simp only [Act.put, List.setIfInBounds_toArray, List.set_cons_zero, List.set_cons_succ]
      refine wpAnyH_ready (rs := [4, 8]) (by kernel_rfl) (by simp) ?_
      refine AllReadyH.cons (o := ⟨some 23, _, _, _, _, _⟩) rfl (fun K hK => ?_) (AllReadyH.cons (o := ⟨some 27, _, _, _, _, _⟩) rfl (fun K hK => ?_) AllReadyH.nil)
      · rw [if_pos (by rfl)]
        go_wp2
        have h7 := byt1_rd wc.drew (r.pn % 256) (Int.emod_nonneg _ (by decide)) (Int.emod_lt_of_pos _ (by decide))
        have hS2 := hS.below (below_one wc.drew (.cells #[.int .u8 (r.pn % 256)] 5))
        refine hK.out _ _ (hS2) (fun hS => ?_)
        clear hK K
        try simp only [Act.put, List.setIfInBounds_toArray, List.set_cons_zero, List.set_cons_succ]
        refine wpAnyH_ready (rs := [8]) (by kernel_rfl) (by simp) ?_
        refine AllReadyH.cons (o := ⟨some 27, _, _, _, _, _⟩) rfl (fun K hK => ?_) AllReadyH.nil
        rw [if_pos (by rfl)]
        go_wp2_with fail
        refine (HAd.out _).mono ?_
        rintro e w3 ⟨A8, rfl, hr8, hB8⟩
        have hS3 := hS.below hB8
        refine hK.out _ _ (hS3) (fun hS => ?_)
        clear hK K
        try simp only [Act.put, List.setIfInBounds_toArray, List.set_cons_zero, List.set_cons_succ]
        refine wpAnyH_take (i := 9) (oi := ⟨some 7, _, _, _, _, _⟩) (v := ?_) rfl (by kernel_rfl) (by kernel_rfl) (by kernel_rfl) (fun _ _ _ h => h) (Or.inl ⟨by rfl, ?_⟩) hS ?_
        rotate_left
        · intro wq hq
          first | (go_simp; done) | (go_simp; rfl)
        try simp only [Act.put, List.setIfInBounds_toArray, List.set_cons_zero, List.set_cons_succ]
        refine wpAnyH_take (i := 10) (oi := ⟨some 8, _, _, _, _, _⟩) (v := ?_) rfl (by kernel_rfl) (by kernel_rfl) (by kernel_rfl) (fun _ _ _ h => h) (Or.inl ⟨by rfl, ?_⟩) hS ?_
        rotate_left
        · intro wq hq
          first | (go_simp; done) | (go_simp; rfl)
        try simp only [Act.put, List.setIfInBounds_toArray, List.set_cons_zero, List.set_cons_succ]
        refine wpAnyH_done (by kernel_rfl) ?_ _
        go_wp2_with fail
        go_meet
        exact ⟨_, _, A8, rfl, rfl, hS3, (h7.below hB8).more hB8.size, hr8⟩
      · rw [if_pos (by rfl)]
        go_wp2_with fail
        refine (HAd.out _).mono ?_
        rintro e w2 ⟨A8, rfl, hr8, hB8⟩
        have hS2 := hS.below hB8
        refine hK.out _ _ (hS2) (fun hS => ?_)
        clear hK K
        try simp only [Act.put, List.setIfInBounds_toArray, List.set_cons_zero, List.set_cons_succ]
        refine wpAnyH_ready (rs := [4]) (by kernel_rfl) (by simp) ?_
        refine AllReadyH.cons (o := ⟨some 23, _, _, _, _, _⟩) rfl (fun K hK => ?_) AllReadyH.nil
        rw [if_pos (by rfl)]
        go_wp2
        have h7 := byt1_rd w2 (r.pn % 256) (Int.emod_nonneg _ (by decide)) (Int.emod_lt_of_pos _ (by decide))
        have hb1 := below_one w2 (.cells #[.int .u8 (r.pn % 256)] 5)
        have hS3 := hS.below hb1
        refine hK.out _ _ (hS3) (fun hS => ?_)
        clear hK K
        try simp only [Act.put, List.setIfInBounds_toArray, List.set_cons_zero, List.set_cons_succ]
        refine wpAnyH_take (i := 9) (oi := ⟨some 7, _, _, _, _, _⟩) (v := ?_) rfl (by kernel_rfl) (by kernel_rfl) (by kernel_rfl) (fun _ _ _ h => h) (Or.inl ⟨by rfl, ?_⟩) hS ?_
        rotate_left
        · intro wq hq
          first | (go_simp; done) | (go_simp; rfl)
        try simp only [Act.put, List.setIfInBounds_toArray, List.set_cons_zero, List.set_cons_succ]
        refine wpAnyH_take (i := 10) (oi := ⟨some 8, _, _, _, _, _⟩) (v := ?_) rfl (by kernel_rfl) (by kernel_rfl) (by kernel_rfl) (fun _ _ _ h => h) (Or.inl ⟨by rfl, ?_⟩) hS ?_
        rotate_left
        · intro wq hq
          first | (go_simp; done) | (go_simp; rfl)
        try simp only [Act.put, List.setIfInBounds_toArray, List.set_cons_zero, List.set_cons_succ]
        refine wpAnyH_done (by kernel_rfl) ?_ _
        go_wp2_with fail
        go_meet
        exact ⟨_, _, A8, rfl, rfl, hS3, h7, (hr8.below hb1).more hb1.size⟩
    case rest =>
      obtain ⟨A7, c7, A8, rfl, rfl, hB⟩ := hcut
      have cK := hB.src.cK
      have HBd := Lib.hid hB
      clear hB
      have HL : Hid (RdL (wc.alloc (.cells (([(some ⟨w.heap.size, 1, none⟩, 8, 8), (A5, 4, c5), (A7, 1, c7), (A8, nb r.v6, 16)] : List (Option Addr × Nat × Nat)).map fun v => Value.slice v.1 v.2.1 v.2.2).toArray 38)) (wc.alloc (.cells (([(some ⟨w.heap.size, 1, none⟩, 8, 8), (A5, 4, c5), (A7, 1, c7), (A8, nb r.v6, 16)] : List (Option Addr × Nat × Nat)).map fun v => Value.slice v.1 v.2.1 v.2.2).toArray 38)).heap.size (some ⟨wc.heap.size, 0, none⟩) 4 [r.rd, be 4 r.tg, [r.pn % 256], r.pl.take (nb r.v6)]) := Lib.hid (rdl_new (W := wc) (vs := [(some ⟨w.heap.size, 1, none⟩, 8, 8), (A5, 4, c5), (A7, 1, c7), (A8, nb r.v6, 16)]) (ls := [r.rd, be 4 r.tg, [r.pn % 256], r.pl.take (nb r.v6)]) ⟨HBd.out.src.sRd HR.out HBd.out.src.lt, HBd.out.r5, HBd.out.r7, HBd.out.r8, trivial⟩ 38 _ rfl)
      have HLow := Lib.hid HBd.out.low
      clear HBd
      go_wp2_with fail
      refine (concat_is _ _ 4 4 _ HL.out (by omega) (by rw [HF.out]; exact HLen.out)).mono ?_
      rintro e w9 ⟨v, rfl, hO, hB9⟩
      have HEnd := Lib.hid (show OwnB w.heap.size w9 v (bodyR r) ∧ Below w.heap.size w w9 from ⟨by rw [← HF.out]; exact hO.low (by have := HLow.out.size; simp; omega), (HLow.out.trans ((below_one wc _).mono HLow.out.size)).trans (hB9.mono (by have := HLow.out.size; simp; omega))⟩)
      clear hO hB9
      go_wp2
      go_ret
      exact ⟨v, rfl, HEnd.out.1, HEnd.out.2⟩

set_option maxHeartbeats 4000000 in
set_option maxRecDepth 100000 in
theorem body_4 (w : World) (r : Rt) (hr : RtOk r) (hf : RightF r) (hk : r.k = 4) : Calls Tryz.prog 196 #[.agg (rtc r).toArray] w fun e w' => ∃ v, e = .returned v ∧ OwnB w.heap.size w' v (bodyR r) ∧ Below w.heap.size w w' := by
  have HR := Lib.hid hr
  have H1 := Lib.hid ((RtAt.new w r hr 53).keep (w' := (w.alloc (.cells (rtc r).toArray 53)).drew) rfl)
  have HB1 := Lib.hid (below_drewN ((Below.refl w.heap.size w).alloc (Nat.le_refl _) (.cells (rtc r).toArray 53)) 1)
  have HN4 : Hid (∀ W, Calls Tryz.prog 220 #[.int .u32 r.tg, .int .i64 4] W fun e W' => ∃ A c, e = .returned (.slice A 4 c) ∧ Rd W' W'.heap.size A 4 (be 4 r.tg) ∧ Below W.heap.size W W') := Lib.hid (fun W => (numb_is W r.tg 4 hr.tg (by omega) (by omega) (be4_fit hr.tg)).mono (by
    rintro e W' ⟨A, c, rfl, _, h2, h3⟩
    exact ⟨A, c, rfl, h2, h3⟩))
  have HN3 : Hid (∀ W, Calls Tryz.prog 220 #[.int .u32 r.lb, .int .i64 3] W fun e W' => ∃ A c, e = .returned (.slice A 3 c) ∧ Rd W' W'.heap.size A 3 (be 3 r.lb) ∧ Below W.heap.size W W') := Lib.hid (fun W => (numb_is W r.lb 3 hr.lb (by omega) (by omega) (by have := hf.lb.2; omega)).mono (by
    rintro e W' ⟨A, c, rfl, _, h2, h3⟩
    exact ⟨A, c, rfl, h2, h3⟩))
  have HAd : Hid (∀ W, Calls Tryz.prog 221 #[.agg (ipc r.v6 r.pl).toArray] W fun e W' => ∃ A, e = .returned (.slice A (nb r.v6) 16) ∧ Rd W' W'.heap.size A (nb r.v6) (r.pl.take (nb r.v6)) ∧ Below W.heap.size W W') := Lib.hid (fun W => addr_at W r.v6 r.pl hr.pl hr.opl)
  have hs8 : ∀ W, (Instr.sliceAt 45 (.pointer (some ⟨w.heap.size, 1, none⟩)) none none none).run Tryz.prog W = .ok (.slice (some ⟨w.heap.size, 1, none⟩) 8 8) W := fun W => by go_simp
  have hs10 : ∀ W, (Instr.sliceAt 47 (.pointer (some ⟨w.heap.size, 9, none⟩)) none none none).run Tryz.prog W = .ok (.slice (some ⟨w.heap.size, 9, none⟩) 10 10) W := fun W => by go_simp
  have HF : Hid (([r.rd, r.es, [r.pn % 256], r.pl.take (nb r.v6)] : List (List Int)).flatten = bodyR r) := Lib.hid (by unfold bodyR; rw [if_neg (by omega)]; rw [if_neg (by omega)]; rw [if_neg (by omega)]; rw [if_pos hk]; simp)
  have HLen : Hid ((bodyR r).length ≤ 140737488355328) := Lib.hid (by unfold bodyR; rw [if_neg (by omega)]; rw [if_neg (by omega)]; rw [if_neg (by omega)]; rw [if_pos hk]; simp [be_len, hr.rd, hr.es, hr.pl, hr.gl] <;> omega)
  have e1 : (r.k == 1) = false := by rw [beq_eq_false_iff_ne]; omega
  have e2 : (r.k == 2) = false := by rw [beq_eq_false_iff_ne]; omega
  have e3 : (r.k == 3) = false := by rw [beq_eq_false_iff_ne]; omega
  have e4 : (r.k == 4) = true := by rw [beq_iff_eq]; omega
  clear hk
  clear hr hf
  go_enter Tryz.func196, Tryz.ntmps196
  go_wp2
  refine wp_region_held_drew (S := fun W => RtAt W w.heap.size r) (by kernel_rfl) (H1.out) (fun hS => ?_)
  refine wpAnyH_take (i := 0) (oi := ⟨some 9, _, _, _, _, _⟩) (v := ?_) rfl (by kernel_rfl) (by kernel_rfl) (by kernel_rfl) (fun _ _ _ h => h) (Or.inl ⟨by rfl, ?_⟩) hS ?_
  rotate_left
  · intro wq hq
    first | (go_simp; done) | (go_simp; rfl)
  try simp only [Act.put, List.setIfInBounds_toArray, List.set_cons_zero, List.set_cons_succ]
  refine wpAnyH_take (i := 1) (oi := ⟨some 10, _, _, _, _, _⟩) (v := ?_) rfl (by kernel_rfl) (by kernel_rfl) (by kernel_rfl) (fun _ _ _ h => h) (Or.inl ⟨by rfl, ?_⟩) hS ?_
  rotate_left
  · intro wq hq
    first | (go_simp; done) | (go_simp; rfl)
  try simp only [Act.put, List.setIfInBounds_toArray, List.set_cons_zero, List.set_cons_succ]
  refine wpAnyH_take (i := 2) (oi := ⟨some 11, _, _, _, _, _⟩) (v := ?_) rfl (by kernel_rfl) (by kernel_rfl) (by kernel_rfl) (fun _ _ _ h => h) (Or.inl ⟨by rfl, ?_⟩) hS ?_
  rotate_left
  · intro wq hq
    first | (go_simp; done) | (go_simp; rfl)
  try simp only [Act.put, List.setIfInBounds_toArray, List.set_cons_zero, List.set_cons_succ]
  refine wpAnyH_take (i := 3) (oi := ⟨some 12, _, _, _, _, _⟩) (v := ?_) rfl (by kernel_rfl) (by kernel_rfl) (by kernel_rfl) (fun _ _ _ h => h) (Or.inl ⟨by rfl, ?_⟩) hS ?_
  rotate_left
  · intro wq hq
    first | (go_simp; done) | (go_simp; rfl)
  try simp only [Act.put, List.setIfInBounds_toArray, List.set_cons_zero, List.set_cons_succ]
  refine wpAnyH_take (i := 4) (oi := ⟨some 3, _, _, _, _, _⟩) (v := ?_) rfl (by kernel_rfl) (by kernel_rfl) (by kernel_rfl) (fun _ _ _ h => h) (Or.inl ⟨by rfl, ?_⟩) hS ?_
  rotate_left
  · intro wq hq
    first | (go_simp; done) | (go_simp; rfl)
  try simp only [Act.put, List.setIfInBounds_toArray, List.set_cons_zero, List.set_cons_succ]
  refine wpAnyH_take (i := 5) (oi := ⟨some 4, _, _, _, _, _⟩) (v := ?_) rfl (by kernel_rfl) (by kernel_rfl) (by kernel_rfl) (fun _ _ _ h => h) (Or.inl ⟨by rfl, ?_⟩) hS ?_
  rotate_left
  · intro wq hq
    first | (go_simp; done) | (go_simp; rfl)
  try simp only [Act.put, List.setIfInBounds_toArray, List.set_cons_zero, List.set_cons_succ]
  refine wpAnyH_done (by kernel_rfl) ?_ _
  clear hS hs8 hs10
  go_wp2_with fail
  have HW1 := Lib.hid (show RtAt ((w.alloc (.cells (rtc r).toArray 53)).drew) w.heap.size r ∧ Below w.heap.size w ((w.alloc (.cells (rtc r).toArray 53)).drew) from ⟨H1.out, HB1.out⟩)
  clear H1 HB1
  generalize (w.alloc (.cells (rtc r).toArray 53)).drew = W1 at *
  go_cut [5, 6] (fun s5 s6 wx => CutA w r s5 s6 wx)
  case first =>
    refine wp_region_held_drew (S := fun W => RtAt W w.heap.size r ∧ Below w.heap.size w W) (by kernel_rfl) (⟨HW1.out.1.keep rfl, below_drewN HW1.out.2 1⟩) (fun hS => ?_)
    refine wpAnyH_take (i := 0) (oi := ⟨some 13, _, _, _, _, _⟩) (v := ?_) rfl (by kernel_rfl) (by kernel_rfl) (by kernel_rfl) (fun _ _ _ h => h) (Or.inl ⟨by rfl, ?_⟩) hS ?_
    rotate_left
    · intro wq hq
      first | (go_simp; done) | (go_simp; rfl)
    try simp only [Act.put, List.setIfInBounds_toArray, List.set_cons_zero, List.set_cons_succ]
    refine wpAnyH_take (i := 1) (oi := ⟨some 14, _, _, _, _, _⟩) (v := ?_) rfl (by kernel_rfl) (by kernel_rfl) (by kernel_rfl) (fun _ _ _ h => h) (Or.inl ⟨by rfl, ?_⟩) hS ?_
    rotate_left
    · intro wq hq
      have hc := hq.1.cTg HR.out
      first | (go_simp; done) | (go_simp; rfl)
    try simp only [Act.put, List.setIfInBounds_toArray, List.set_cons_zero, List.set_cons_succ]
    refine wpAnyH_take (i := 3) (oi := ⟨some 16, _, _, _, _, _⟩) (v := ?_) rfl (by kernel_rfl) (by kernel_rfl) (by kernel_rfl) (fun _ _ _ h => h) (Or.inl ⟨by rfl, ?_⟩) hS ?_
    rotate_left
    · intro wq hq
      first | (go_simp; done) | (go_simp; rfl)
    try simp only [Act.put, List.setIfInBounds_toArray, List.set_cons_zero, List.set_cons_succ]
    refine wpAnyH_take (i := 4) (oi := ⟨some 17, _, _, _, _, _⟩) (v := ?_) rfl (by kernel_rfl) (by kernel_rfl) (by kernel_rfl) (fun _ _ _ h => h) (Or.inl ⟨by rfl, ?_⟩) hS ?_
    rotate_left
    · intro wq hq
      have hc := hq.1.cLb HR.out
      first | (go_simp; done) | (go_simp; rfl)
    try simp only [Act.put, List.setIfInBounds_toArray, List.set_cons_zero, List.set_cons_succ]
    refine wpAnyH_ready (rs := [2]) (by kernel_rfl) (by simp) ?_
    refine AllReadyH.cons (o := ⟨some 15, _, _, _, _, _⟩) rfl (fun K hK => ?_) AllReadyH.nil
    rw [if_pos (by rfl)]
    go_wp2_with fail
    refine (HN4.out _).mono ?_
    rintro e w2 ⟨A5, c5, rfl, hr5, hB5⟩
    have hS2 : RtAt w2 w.heap.size r ∧ Below w.heap.size w w2 := ⟨hS.1.below hB5 hS.1.lt, hS.2.trans (hB5.mono hS.2.size)⟩
    refine hK.out _ _ (hS2) (fun hS => ?_)
    clear hK K
    try simp only [Act.put, List.setIfInBounds_toArray, List.set_cons_zero, List.set_cons_succ]
    refine wpAnyH_ready (rs := [5]) (by kernel_rfl) (by simp) ?_
    refine AllReadyH.cons (o := ⟨some 18, _, _, _, _, _⟩) rfl (fun K hK => ?_) AllReadyH.nil
    rw [if_pos (by rfl)]
    go_wp2_with fail
    refine (HN3.out _).mono ?_
    rintro e w3 ⟨A6, c6, rfl, hr6, hB6⟩
    have hS3 : RtAt w3 w.heap.size r ∧ Below w.heap.size w w3 := ⟨hS.1.below hB6 hS.1.lt, hS.2.trans (hB6.mono hS.2.size)⟩
    refine hK.out _ _ (hS3) (fun hS => ?_)
    clear hK K
    try simp only [Act.put, List.setIfInBounds_toArray, List.set_cons_zero, List.set_cons_succ]
    refine wpAnyH_take (i := 6) (oi := ⟨some 5, _, _, _, _, _⟩) (v := ?_) rfl (by kernel_rfl) (by kernel_rfl) (by kernel_rfl) (fun _ _ _ h => h) (Or.inl ⟨by rfl, ?_⟩) hS ?_
    rotate_left
    · intro wq hq
      first | (go_simp; done) | (go_simp; rfl)
    try simp only [Act.put, List.setIfInBounds_toArray, List.set_cons_zero, List.set_cons_succ]
    refine wpAnyH_take (i := 7) (oi := ⟨some 6, _, _, _, _, _⟩) (v := ?_) rfl (by kernel_rfl) (by kernel_rfl) (by kernel_rfl) (fun _ _ _ h => h) (Or.inl ⟨by rfl, ?_⟩) hS ?_
    rotate_left
    · intro wq hq
      first | (go_simp; done) | (go_simp; rfl)
    try simp only [Act.put, List.setIfInBounds_toArray, List.set_cons_zero, List.set_cons_succ]
    refine wpAnyH_done (by kernel_rfl) ?_ _
    go_wp2_with fail
    go_meet
    exact ⟨A5, c5, A6, c6, rfl, rfl, hS3.1, hS3.2, (hr5.below hB6).more hB6.size, hr6⟩
  case rest =>
    obtain ⟨A5, c5, A6, c6, rfl, rfl, hA⟩ := hcut
    have HA := Lib.hid (show BdA w wc.drew r A5 A6 from hA.below (below_drew wc))
    clear hA
    go_wp2_with fail
    go_cut [7, 8] (fun s7 s8 wx => CutB w r A5 A6 s7 s8 wx)
    case first =>
      refine wp_region_held_drew (S := fun W => BdA w W r A5 A6) (by kernel_rfl) (HA.out) (fun hS => ?_)
      refine wpAnyH_take (i := 0) (oi := ⟨some 19, _, _, _, _, _⟩) (v := ?_) rfl (by kernel_rfl) (by kernel_rfl) (by kernel_rfl) (fun _ _ _ h => h) (Or.inl ⟨by rfl, ?_⟩) hS ?_
      rotate_left
      · intro wq hq
        first | (go_simp; done) | (go_simp; rfl)
      try simp only [Act.put, List.setIfInBounds_toArray, List.set_cons_zero, List.set_cons_succ]
      refine wpAnyH_take (i := 1) (oi := ⟨some 20, _, _, _, _, _⟩) (v := ?_) rfl (by kernel_rfl) (by kernel_rfl) (by kernel_rfl) (fun _ _ _ h => h) (Or.inl ⟨by rfl, ?_⟩) hS ?_
      rotate_left
      · intro wq hq
        first | (go_simp; done) | (go_simp; rfl)
      try simp only [Act.put, List.setIfInBounds_toArray, List.set_cons_zero, List.set_cons_succ]
      refine wpAnyH_take (i := 2) (oi := ⟨some 21, _, _, _, _, _⟩) (v := ?_) rfl (by kernel_rfl) (by kernel_rfl) (by kernel_rfl) (fun _ _ _ h => h) (Or.inl ⟨by rfl, ?_⟩) hS ?_
      rotate_left
      · intro wq hq
        have hc := hq.src.cPn HR.out
        first | (go_simp; done) | (go_simp; rfl)
      try simp only [Act.put, List.setIfInBounds_toArray, List.set_cons_zero, List.set_cons_succ]
      refine wpAnyH_take (i := 3) (oi := ⟨some 22, _, _, _, _, _⟩) (v := ?_) rfl (by kernel_rfl) (by kernel_rfl) (by kernel_rfl) (fun _ _ _ h => h) (Or.inl ⟨by rfl, ?_⟩) hS ?_
      rotate_left
      · intro wq hq
        first | (go_simp; done) | (go_simp; rfl)
      try simp only [Act.put, List.setIfInBounds_toArray, List.set_cons_zero, List.set_cons_succ]
      refine wpAnyH_take (i := 5) (oi := ⟨some 24, _, _, _, _, _⟩) (v := ?_) rfl (by kernel_rfl) (by kernel_rfl) (by kernel_rfl) (fun _ _ _ h => h) (Or.inl ⟨by rfl, ?_⟩) hS ?_
      rotate_left
      · intro wq hq
        first | (go_simp; done) | (go_simp; rfl)
      try simp only [Act.put, List.setIfInBounds_toArray, List.set_cons_zero, List.set_cons_succ]
      refine wpAnyH_take (i := 6) (oi := ⟨some 25, _, _, _, _, _⟩) (v := ?_) rfl (by kernel_rfl) (by kernel_rfl) (by kernel_rfl) (fun _ _ _ h => h) (Or.inl ⟨by rfl, ?_⟩) hS ?_
      rotate_left
      · intro wq hq
        first | (go_simp; done) | (go_simp; rfl)
      try simp only [Act.put, List.setIfInBounds_toArray, List.set_cons_zero, List.set_cons_succ]
      refine wpAnyH_take (i := 7) (oi := ⟨some 26, _, _, _, _, _⟩) rfl (by kernel_rfl) (by kernel_rfl) (by kernel_rfl) (fun _ _ _ h => h) (yieldsIf_load_mid (by rfl) 27 _ rfl _ _ rfl (ipc r.v6 r.pl) _ (fun wq hq => hq.src.rIp HR.out) Tryz.underlying27 rfl (sz_ip HR.out)) hS ?_
      try simp only [Act.put, List.setIfInBounds_toArray, List.set_cons_zero, List.set_cons_succ]
      refine wpAnyH_ready (rs := [4, 8]) (by kernel_rfl) (by simp) ?_
      refine AllReadyH.cons (o := ⟨some 23, _, _, _, _, _⟩) rfl (fun K hK => ?_) (AllReadyH.cons (o := ⟨some 27, _, _, _, _, _⟩) rfl (fun K hK => ?_) AllReadyH.nil)
      · rw [if_pos (by rfl)]
        go_wp2
        have h7 := byt1_rd wc.drew (r.pn % 256) (Int.emod_nonneg _ (by decide)) (Int.emod_lt_of_pos _ (by decide))
        have hS2 := hS.below (below_one wc.drew (.cells #[.int .u8 (r.pn % 256)] 5))
        refine hK.out _ _ (hS2) (fun hS => ?_)
        clear hK K
        try simp only [Act.put, List.setIfInBounds_toArray, List.set_cons_zero, List.set_cons_succ]
        refine wpAnyH_ready (rs := [8]) (by kernel_rfl) (by simp) ?_
        refine AllReadyH.cons (o := ⟨some 27, _, _, _, _, _⟩) rfl (fun K hK => ?_) AllReadyH.nil
        rw [if_pos (by rfl)]
        go_wp2_with fail
        refine (HAd.out _).mono ?_
        rintro e w3 ⟨A8, rfl, hr8, hB8⟩
        have hS3 := hS.below hB8
        refine hK.out _ _ (hS3) (fun hS => ?_)
        clear hK K
        try simp only [Act.put, List.setIfInBounds_toArray, List.set_cons_zero, List.set_cons_succ]
        refine wpAnyH_take (i := 9) (oi := ⟨some 7, _, _, _, _, _⟩) (v := ?_) rfl (by kernel_rfl) (by kernel_rfl) (by kernel_rfl) (fun _ _ _ h => h) (Or.inl ⟨by rfl, ?_⟩) hS ?_
        rotate_left
        · intro wq hq
          first | (go_simp; done) | (go_simp; rfl)
        try simp only [Act.put, List.setIfInBounds_toArray, List.set_cons_zero, List.set_cons_succ]
        refine wpAnyH_take (i := 10) (oi := ⟨some 8, _, _, _, _, _⟩) (v := ?_) rfl (by kernel_rfl) (by kernel_rfl) (by kernel_rfl) (fun _ _ _ h => h) (Or.inl ⟨by rfl, ?_⟩) hS ?_
        rotate_left
        · intro wq hq
          first | (go_simp; done) | (go_simp; rfl)
        try simp only [Act.put, List.setIfInBounds_toArray, List.set_cons_zero, List.set_cons_succ]
        refine wpAnyH_done (by kernel_rfl) ?_ _
        go_wp2_with fail
        go_meet
        exact ⟨_, _, A8, rfl, rfl, hS3, (h7.below hB8).more hB8.size, hr8⟩
      · rw [if_pos (by rfl)]
        go_wp2_with fail
        refine (HAd.out _).mono ?_
        rintro e w2 ⟨A8, rfl, hr8, hB8⟩
        have hS2 := hS.below hB8
        refine hK.out _ _ (hS2) (fun hS => ?_)
        clear hK K
        try simp only [Act.put, List.setIfInBounds_toArray, List.set_cons_zero, List.set_cons_succ]
        refine wpAnyH_ready (rs := [4]) (by kernel_rfl) (by simp) ?_
        refine AllReadyH.cons (o := ⟨some 23, _, _, _, _, _⟩) rfl (fun K hK => ?_) AllReadyH.nil
        rw [if_pos (by rfl)]
        go_wp2
        have h7 := byt1_rd w2 (r.pn % 256) (Int.emod_nonneg _ (by decide)) (Int.emod_lt_of_pos _ (by decide))
        have hb1 := below_one w2 (.cells #[.int .u8 (r.pn % 256)] 5)
        have hS3 := hS.below hb1
        refine hK.out _ _ (hS3) (fun hS => ?_)
        clear hK K
        try simp only [Act.put, List.setIfInBounds_toArray, List.set_cons_zero, List.set_cons_succ]
        refine wpAnyH_take (i := 9) (oi := ⟨some 7, _, _, _, _, _⟩) (v := ?_) rfl (by kernel_rfl) (by kernel_rfl) (by kernel_rfl) (fun _ _ _ h => h) (Or.inl ⟨by rfl, ?_⟩) hS ?_
        rotate_left
        · intro wq hq
          first | (go_simp; done) | (go_simp; rfl)
        try simp only [Act.put, List.setIfInBounds_toArray, List.set_cons_zero, List.set_cons_succ]
        refine wpAnyH_take (i := 10) (oi := ⟨some 8, _, _, _, _, _⟩) (v := ?_) rfl (by kernel_rfl) (by kernel_rfl) (by kernel_rfl) (fun _ _ _ h => h) (Or.inl ⟨by rfl, ?_⟩) hS ?_
        rotate_left
        · intro wq hq
          first | (go_simp; done) | (go_simp; rfl)
        try simp only [Act.put, List.setIfInBounds_toArray, List.set_cons_zero, List.set_cons_succ]
        refine wpAnyH_done (by kernel_rfl) ?_ _
        go_wp2_with fail
        go_meet
        exact ⟨_, _, A8, rfl, rfl, hS3, h7, (hr8.below hb1).more hb1.size⟩
    case rest =>
      obtain ⟨A7, c7, A8, rfl, rfl, hB⟩ := hcut
      have cK := hB.src.cK
      have HBd := Lib.hid hB
      clear hB
      have HL : Hid (RdL (wc.alloc (.cells (([(some ⟨w.heap.size, 1, none⟩, 8, 8), (some ⟨w.heap.size, 9, none⟩, 10, 10), (A7, 1, c7), (A8, nb r.v6, 16)] : List (Option Addr × Nat × Nat)).map fun v => Value.slice v.1 v.2.1 v.2.2).toArray 38)) (wc.alloc (.cells (([(some ⟨w.heap.size, 1, none⟩, 8, 8), (some ⟨w.heap.size, 9, none⟩, 10, 10), (A7, 1, c7), (A8, nb r.v6, 16)] : List (Option Addr × Nat × Nat)).map fun v => Value.slice v.1 v.2.1 v.2.2).toArray 38)).heap.size (some ⟨wc.heap.size, 0, none⟩) 4 [r.rd, r.es, [r.pn % 256], r.pl.take (nb r.v6)]) := Lib.hid (rdl_new (W := wc) (vs := [(some ⟨w.heap.size, 1, none⟩, 8, 8), (some ⟨w.heap.size, 9, none⟩, 10, 10), (A7, 1, c7), (A8, nb r.v6, 16)]) (ls := [r.rd, r.es, [r.pn % 256], r.pl.take (nb r.v6)]) ⟨HBd.out.src.sRd HR.out HBd.out.src.lt, HBd.out.src.sEs HR.out HBd.out.src.lt, HBd.out.r7, HBd.out.r8, trivial⟩ 38 _ rfl)
      have HLow := Lib.hid HBd.out.low
      clear HBd
      go_wp2_with fail
      refine (concat_is _ _ 4 4 _ HL.out (by omega) (by rw [HF.out]; exact HLen.out)).mono ?_
      rintro e w9 ⟨v, rfl, hO, hB9⟩
      have HEnd := Lib.hid (show OwnB w.heap.size w9 v (bodyR r) ∧ Below w.heap.size w w9 from ⟨by rw [← HF.out]; exact hO.low (by have := HLow.out.size; simp; omega), (HLow.out.trans ((below_one wc _).mono HLow.out.size)).trans (hB9.mono (by have := HLow.out.size; simp; omega))⟩)
      clear hO hB9
      go_wp2
      go_ret
      exact ⟨v, rfl, HEnd.out.1, HEnd.out.2⟩

end Go.Proofs.YtdgoeibfggjbmaaGreatDoor
namespace Go.Proofs.YtdgoeibfggjbmaaGreatDoor
open Go.RowKit
set_option maxRecDepth 100000
set_option linter.unusedSimpArgs false
set_option linter.unusedVariables false


set_option maxHeartbeats 4000000 in
set_option maxRecDepth 100000 in
theorem body_5 (w : World) (r : Rt) (hr : RtOk r) (hf : RightF r) (hk : r.k = 5) : Calls Tryz.prog 196 #[.agg (rtc r).toArray] w fun e w' => ∃ v, e = .returned v ∧ OwnB w.heap.size w' v (bodyR r) ∧ Below w.heap.size w w' := by
  have HR := Lib.hid hr
  have H1 := Lib.hid ((RtAt.new w r hr 53).keep (w' := (w.alloc (.cells (rtc r).toArray 53)).drew) rfl)
  have HB1 := Lib.hid (below_drewN ((Below.refl w.heap.size w).alloc (Nat.le_refl _) (.cells (rtc r).toArray 53)) 1)
  have HN4 : Hid (∀ W, Calls Tryz.prog 220 #[.int .u32 r.tg, .int .i64 4] W fun e W' => ∃ A c, e = .returned (.slice A 4 c) ∧ Rd W' W'.heap.size A 4 (be 4 r.tg) ∧ Below W.heap.size W W') := Lib.hid (fun W => (numb_is W r.tg 4 hr.tg (by omega) (by omega) (be4_fit hr.tg)).mono (by
    rintro e W' ⟨A, c, rfl, _, h2, h3⟩
    exact ⟨A, c, rfl, h2, h3⟩))
  have HN3 : Hid (∀ W, Calls Tryz.prog 220 #[.int .u32 r.lb, .int .i64 3] W fun e W' => ∃ A c, e = .returned (.slice A 3 c) ∧ Rd W' W'.heap.size A 3 (be 3 r.lb) ∧ Below W.heap.size W W') := Lib.hid (fun W => (numb_is W r.lb 3 hr.lb (by omega) (by omega) (by have := hf.lb.2; omega)).mono (by
    rintro e W' ⟨A, c, rfl, _, h2, h3⟩
    exact ⟨A, c, rfl, h2, h3⟩))
  have HAd : Hid (∀ W, Calls Tryz.prog 221 #[.agg (ipc r.v6 r.pl).toArray] W fun e W' => ∃ A, e = .returned (.slice A (nb r.v6) 16) ∧ Rd W' W'.heap.size A (nb r.v6) (r.pl.take (nb r.v6)) ∧ Below W.heap.size W W') := Lib.hid (fun W => addr_at W r.v6 r.pl hr.pl hr.opl)
  have hs8 : ∀ W, (Instr.sliceAt 45 (.pointer (some ⟨w.heap.size, 1, none⟩)) none none none).run Tryz.prog W = .ok (.slice (some ⟨w.heap.size, 1, none⟩) 8 8) W := fun W => by go_simp
  have hs10 : ∀ W, (Instr.sliceAt 47 (.pointer (some ⟨w.heap.size, 9, none⟩)) none none none).run Tryz.prog W = .ok (.slice (some ⟨w.heap.size, 9, none⟩) 10 10) W := fun W => by go_simp
  have HAg : Hid (∀ W, Calls Tryz.prog 221 #[.agg (ipc r.gv r.gl).toArray] W fun e W' => ∃ A, e = .returned (.slice A (nb r.gv) 16) ∧ Rd W' W'.heap.size A (nb r.gv) (r.gl.take (nb r.gv)) ∧ Below W.heap.size W W') := Lib.hid (fun W => addr_at W r.gv r.gl hr.gl hr.ogl)
  have HF : Hid (([r.rd, r.es, be 4 r.tg, [r.pn % 256], r.pl.take (nb r.v6), r.gl.take (nb r.gv), be 3 r.lb] : List (List Int)).flatten = bodyR r) := Lib.hid (by unfold bodyR; rw [if_neg (by omega)]; rw [if_neg (by omega)]; rw [if_neg (by omega)]; rw [if_neg (by omega)]; simp)
  have HLen : Hid ((bodyR r).length ≤ 140737488355328) := Lib.hid (by unfold bodyR; rw [if_neg (by omega)]; rw [if_neg (by omega)]; rw [if_neg (by omega)]; rw [if_neg (by omega)]; simp [be_len, hr.rd, hr.es, hr.pl, hr.gl] <;> omega)
  have e1 : (r.k == 1) = false := by rw [beq_eq_false_iff_ne]; omega
  have e2 : (r.k == 2) = false := by rw [beq_eq_false_iff_ne]; omega
  have e3 : (r.k == 3) = false := by rw [beq_eq_false_iff_ne]; omega
  have e4 : (r.k == 4) = false := by rw [beq_eq_false_iff_ne]; omega
  clear hk
  clear hr hf
  go_enter Tryz.func196, Tryz.ntmps196
  go_wp2
  refine wp_region_held_drew (S := fun W => RtAt W w.heap.size r) (by kernel_rfl) (H1.out) (fun hS => ?_)
  refine wpAnyH_take (i := 0) (oi := ⟨some 9, _, _, _, _, _⟩) (v := ?_) rfl (by kernel_rfl) (by kernel_rfl) (by kernel_rfl) (fun _ _ _ h => h) (Or.inl ⟨by rfl, ?_⟩) hS ?_
  rotate_left
  · intro wq hq
    first | (go_simp; done) | (go_simp; rfl)
  try simp only [Act.put, List.setIfInBounds_toArray, List.set_cons_zero, List.set_cons_succ]
  refine wpAnyH_take (i := 1) (oi := ⟨some 10, _, _, _, _, _⟩) (v := ?_) rfl (by kernel_rfl) (by kernel_rfl) (by kernel_rfl) (fun _ _ _ h => h) (Or.inl ⟨by rfl, ?_⟩) hS ?_
  rotate_left
  · intro wq hq
    first | (go_simp; done) | (go_simp; rfl)
  try simp only [Act.put, List.setIfInBounds_toArray, List.set_cons_zero, List.set_cons_succ]
  refine wpAnyH_take (i := 2) (oi := ⟨some 11, _, _, _, _, _⟩) (v := ?_) rfl (by kernel_rfl) (by kernel_rfl) (by kernel_rfl) (fun _ _ _ h => h) (Or.inl ⟨by rfl, ?_⟩) hS ?_
  rotate_left
  · intro wq hq
    first | (go_simp; done) | (go_simp; rfl)
  try simp only [Act.put, List.setIfInBounds_toArray, List.set_cons_zero, List.set_cons_succ]
  refine wpAnyH_take (i := 3) (oi := ⟨some 12, _, _, _, _, _⟩) (v := ?_) rfl (by kernel_rfl) (by kernel_rfl) (by kernel_rfl) (fun _ _ _ h => h) (Or.inl ⟨by rfl, ?_⟩) hS ?_
  rotate_left
  · intro wq hq
    first | (go_simp; done) | (go_simp; rfl)
  try simp only [Act.put, List.setIfInBounds_toArray, List.set_cons_zero, List.set_cons_succ]
  refine wpAnyH_take (i := 4) (oi := ⟨some 3, _, _, _, _, _⟩) (v := ?_) rfl (by kernel_rfl) (by kernel_rfl) (by kernel_rfl) (fun _ _ _ h => h) (Or.inl ⟨by rfl, ?_⟩) hS ?_
  rotate_left
  · intro wq hq
    first | (go_simp; done) | (go_simp; rfl)
  try simp only [Act.put, List.setIfInBounds_toArray, List.set_cons_zero, List.set_cons_succ]
  refine wpAnyH_take (i := 5) (oi := ⟨some 4, _, _, _, _, _⟩) (v := ?_) rfl (by kernel_rfl) (by kernel_rfl) (by kernel_rfl) (fun _ _ _ h => h) (Or.inl ⟨by rfl, ?_⟩) hS ?_
  rotate_left
  · intro wq hq
    first | (go_simp; done) | (go_simp; rfl)
  try simp only [Act.put, List.setIfInBounds_toArray, List.set_cons_zero, List.set_cons_succ]
  refine wpAnyH_done (by kernel_rfl) ?_ _
  clear hS hs8 hs10
  go_wp2_with fail
  have HW1 := Lib.hid (show RtAt ((w.alloc (.cells (rtc r).toArray 53)).drew) w.heap.size r ∧ Below w.heap.size w ((w.alloc (.cells (rtc r).toArray 53)).drew) from ⟨H1.out, HB1.out⟩)
  clear H1 HB1
  generalize (w.alloc (.cells (rtc r).toArray 53)).drew = W1 at *
  go_cut [5, 6] (fun s5 s6 wx => CutA w r s5 s6 wx)
  case first =>
    refine wp_region_held_drew (S := fun W => RtAt W w.heap.size r ∧ Below w.heap.size w W) (by kernel_rfl) (⟨HW1.out.1.keep rfl, below_drewN HW1.out.2 1⟩) (fun hS => ?_)
    refine wpAnyH_take (i := 0) (oi := ⟨some 13, _, _, _, _, _⟩) (v := ?_) rfl (by kernel_rfl) (by kernel_rfl) (by kernel_rfl) (fun _ _ _ h => h) (Or.inl ⟨by rfl, ?_⟩) hS ?_
    rotate_left
    · intro wq hq
      first | (go_simp; done) | (go_simp; rfl)
    try simp only [Act.put, List.setIfInBounds_toArray, List.set_cons_zero, List.set_cons_succ]
    refine wpAnyH_take (i := 1) (oi := ⟨some 14, _, _, _, _, _⟩) (v := ?_) rfl (by kernel_rfl) (by kernel_rfl) (by kernel_rfl) (fun _ _ _ h => h) (Or.inl ⟨by rfl, ?_⟩) hS ?_
    rotate_left
    · intro wq hq
      have hc := hq.1.cTg HR.out
      first | (go_simp; done) | (go_simp; rfl)
    try simp only [Act.put, List.setIfInBounds_toArray, List.set_cons_zero, List.set_cons_succ]
    refine wpAnyH_take (i := 3) (oi := ⟨some 16, _, _, _, _, _⟩) (v := ?_) rfl (by kernel_rfl) (by kernel_rfl) (by kernel_rfl) (fun _ _ _ h => h) (Or.inl ⟨by rfl, ?_⟩) hS ?_
    rotate_left
    · intro wq hq
      first | (go_simp; done) | (go_simp; rfl)
    try simp only [Act.put, List.setIfInBounds_toArray, List.set_cons_zero, List.set_cons_succ]
    refine wpAnyH_take (i := 4) (oi := ⟨some 17, _, _, _, _, _⟩) (v := ?_) rfl (by kernel_rfl) (by kernel_rfl) (by kernel_rfl) (fun _ _ _ h => h) (Or.inl ⟨by rfl, ?_⟩) hS ?_
    rotate_left
    · intro wq hq
      have hc := hq.1.cLb HR.out
      first | (go_simp; done) | (go_simp; rfl)
    try simp only [Act.put, List.setIfInBounds_toArray, List.set_cons_zero, List.set_cons_succ]
    refine wpAnyH_ready (rs := [2]) (by kernel_rfl) (by simp) ?_
    refine AllReadyH.cons (o := ⟨some 15, _, _, _, _, _⟩) rfl (fun K hK => ?_) AllReadyH.nil
    rw [if_pos (by rfl)]
    go_wp2_with fail
    refine (HN4.out _).mono ?_
    rintro e w2 ⟨A5, c5, rfl, hr5, hB5⟩
    have hS2 : RtAt w2 w.heap.size r ∧ Below w.heap.size w w2 := ⟨hS.1.below hB5 hS.1.lt, hS.2.trans (hB5.mono hS.2.size)⟩
    refine hK.out _ _ (hS2) (fun hS => ?_)
    clear hK K
    try simp only [Act.put, List.setIfInBounds_toArray, List.set_cons_zero, List.set_cons_succ]
    refine wpAnyH_ready (rs := [5]) (by kernel_rfl) (by simp) ?_
    refine AllReadyH.cons (o := ⟨some 18, _, _, _, _, _⟩) rfl (fun K hK => ?_) AllReadyH.nil
    rw [if_pos (by rfl)]
    go_wp2_with fail
    refine (HN3.out _).mono ?_
    rintro e w3 ⟨A6, c6, rfl, hr6, hB6⟩
    have hS3 : RtAt w3 w.heap.size r ∧ Below w.heap.size w w3 := ⟨hS.1.below hB6 hS.1.lt, hS.2.trans (hB6.mono hS.2.size)⟩
    refine hK.out _ _ (hS3) (fun hS => ?_)
    clear hK K
    try simp only [Act.put, List.setIfInBounds_toArray, List.set_cons_zero, List.set_cons_succ]
    refine wpAnyH_take (i := 6) (oi := ⟨some 5, _, _, _, _, _⟩) (v := ?_) rfl (by kernel_rfl) (by kernel_rfl) (by kernel_rfl) (fun _ _ _ h => h) (Or.inl ⟨by rfl, ?_⟩) hS ?_
    rotate_left
    · intro wq hq
      first | (go_simp; done) | (go_simp; rfl)
    try simp only [Act.put, List.setIfInBounds_toArray, List.set_cons_zero, List.set_cons_succ]
    refine wpAnyH_take (i := 7) (oi := ⟨some 6, _, _, _, _, _⟩) (v := ?_) rfl (by kernel_rfl) (by kernel_rfl) (by kernel_rfl) (fun _ _ _ h => h) (Or.inl ⟨by rfl, ?_⟩) hS ?_
    rotate_left
    · intro wq hq
      first | (go_simp; done) | (go_simp; rfl)
    try simp only [Act.put, List.setIfInBounds_toArray, List.set_cons_zero, List.set_cons_succ]
    refine wpAnyH_done (by kernel_rfl) ?_ _
    go_wp2_with fail
    go_meet
    exact ⟨A5, c5, A6, c6, rfl, rfl, hS3.1, hS3.2, (hr5.below hB6).more hB6.size, hr6⟩
  case rest =>
    obtain ⟨A5, c5, A6, c6, rfl, rfl, hA⟩ := hcut
    have HA := Lib.hid (show BdA w wc.drew r A5 A6 from hA.below (below_drew wc))
    clear hA
    go_wp2_with fail
    go_cut [7, 8] (fun s7 s8 wx => CutB w r A5 A6 s7 s8 wx)
    case first =>
      refine wp_region_held_drew (S := fun W => BdA w W r A5 A6) (by kernel_rfl) (HA.out) (fun hS => ?_)
      refine wpAnyH_take (i := 0) (oi := ⟨some 19, _, _, _, _, _⟩) (v := ?_) rfl (by kernel_rfl) (by kernel_rfl) (by kernel_rfl) (fun _ _ _ h => h) (Or.inl ⟨by rfl, ?_⟩) hS ?_
      rotate_left
      · intro wq hq
        first | (go_simp; done) | (go_simp; rfl)
      try simp only [Act.put, List.setIfInBounds_toArray, List.set_cons_zero, List.set_cons_succ]
      refine wpAnyH_take (i := 1) (oi := ⟨some 20, _, _, _, _, _⟩) (v := ?_) rfl (by kernel_rfl) (by kernel_rfl) (by kernel_rfl) (fun _ _ _ h => h) (Or.inl ⟨by rfl, ?_⟩) hS ?_
      rotate_left
      · intro wq hq
        first | (go_simp; done) | (go_simp; rfl)
      try simp only [Act.put, List.setIfInBounds_toArray, List.set_cons_zero, List.set_cons_succ]
      refine wpAnyH_take (i := 2) (oi := ⟨some 21, _, _, _, _, _⟩) (v := ?_) rfl (by kernel_rfl) (by kernel_rfl) (by kernel_rfl) (fun _ _ _ h => h) (Or.inl ⟨by rfl, ?_⟩) hS ?_
      rotate_left
      · intro wq hq
        have hc := hq.src.cPn HR.out
        first | (go_simp; done) | (go_simp; rfl)
      try simp only [Act.put, List.setIfInBounds_toArray, List.set_cons_zero, List.set_cons_succ]
      refine wpAnyH_take (i := 3) (oi := ⟨some 22, _, _, _, _, _⟩) (v := ?_) rfl (by kernel_rfl) (by kernel_rfl) (by kernel_rfl) (fun _ _ _ h => h) (Or.inl ⟨by rfl, ?_⟩) hS ?_
      rotate_left
      · intro wq hq
        first | (go_simp; done) | (go_simp; rfl)
      try simp only [Act.put, List.setIfInBounds_toArray, List.set_cons_zero, List.set_cons_succ]
      refine wpAnyH_take (i := 5) (oi := ⟨some 24, _, _, _, _, _⟩) (v := ?_) rfl (by kernel_rfl) (by kernel_rfl) (by kernel_rfl) (fun _ _ _ h => h) (Or.inl ⟨by rfl, ?_⟩) hS ?_
      rotate_left
      · intro wq hq
        first | (go_simp; done) | (go_simp; rfl)
      try simp only [Act.put, List.setIfInBounds_toArray, List.set_cons_zero, List.set_cons_succ]
      refine wpAnyH_take (i := 6) (oi := ⟨some 25, _, _, _, _, _⟩) (v := ?_) rfl (by kernel_rfl) (by kernel_rfl) (by kernel_rfl) (fun _ _ _ h => h) (Or.inl ⟨by rfl, ?_⟩) hS ?_
      rotate_left
      · intro wq hq
        first | (go_simp; done) | (go_simp; rfl)
      try simp only [Act.put, List.setIfInBounds_toArray, List.set_cons_zero, List.set_cons_succ]
      refine wpAnyH_take (i := 7) (oi := ⟨some 26, _, _, _, _, _⟩) rfl (by kernel_rfl) (by kernel_rfl) (by kernel_rfl) (fun _ _ _ h => h) (yieldsIf_load_mid (by rfl) 27 _ rfl _ _ rfl (ipc r.v6 r.pl) _ (fun wq hq => hq.src.rIp HR.out) Tryz.underlying27 rfl (sz_ip HR.out)) hS ?_
      try simp only [Act.put, List.setIfInBounds_toArray, List.set_cons_zero, List.set_cons_succ]
      refine wpAnyH_ready (rs := [4, 8]) (by kernel_rfl) (by simp) ?_
      refine AllReadyH.cons (o := ⟨some 23, _, _, _, _, _⟩) rfl (fun K hK => ?_) (AllReadyH.cons (o := ⟨some 27, _, _, _, _, _⟩) rfl (fun K hK => ?_) AllReadyH.nil)
      · rw [if_pos (by rfl)]
        go_wp2
        have h7 := byt1_rd wc.drew (r.pn % 256) (Int.emod_nonneg _ (by decide)) (Int.emod_lt_of_pos _ (by decide))
        have hS2 := hS.below (below_one wc.drew (.cells #[.int .u8 (r.pn % 256)] 5))
        refine hK.out _ _ (hS2) (fun hS => ?_)
        clear hK K
        try simp only [Act.put, List.setIfInBounds_toArray, List.set_cons_zero, List.set_cons_succ]
        refine wpAnyH_ready (rs := [8]) (by kernel_rfl) (by simp) ?_
        refine AllReadyH.cons (o := ⟨some 27, _, _, _, _, _⟩) rfl (fun K hK => ?_) AllReadyH.nil
        rw [if_pos (by rfl)]
        go_wp2_with fail
        refine (HAd.out _).mono ?_
        rintro e w3 ⟨A8, rfl, hr8, hB8⟩
        have hS3 := hS.below hB8
        refine hK.out _ _ (hS3) (fun hS => ?_)
        clear hK K
        try simp only [Act.put, List.setIfInBounds_toArray, List.set_cons_zero, List.set_cons_succ]
        refine wpAnyH_take (i := 9) (oi := ⟨some 7, _, _, _, _, _⟩) (v := ?_) rfl (by kernel_rfl) (by kernel_rfl) (by kernel_rfl) (fun _ _ _ h => h) (Or.inl ⟨by rfl, ?_⟩) hS ?_
        rotate_left
        · intro wq hq
          first | (go_simp; done) | (go_simp; rfl)
        try simp only [Act.put, List.setIfInBounds_toArray, List.set_cons_zero, List.set_cons_succ]
        refine wpAnyH_take (i := 10) (oi := ⟨some 8, _, _, _, _, _⟩) (v := ?_) rfl (by kernel_rfl) (by kernel_rfl) (by kernel_rfl) (fun _ _ _ h => h) (Or.inl ⟨by rfl, ?_⟩) hS ?_
        rotate_left
        · intro wq hq
          first | (go_simp; done) | (go_simp; rfl)
        try simp only [Act.put, List.setIfInBounds_toArray, List.set_cons_zero, List.set_cons_succ]
        refine wpAnyH_done (by kernel_rfl) ?_ _
        go_wp2_with fail
        go_meet
        exact ⟨_, _, A8, rfl, rfl, hS3, (h7.below hB8).more hB8.size, hr8⟩
      · rw [if_pos (by rfl)]
        go_wp2_with fail
        refine (HAd.out _).mono ?_
        rintro e w2 ⟨A8, rfl, hr8, hB8⟩
        have hS2 := hS.below hB8
        refine hK.out _ _ (hS2) (fun hS => ?_)
        clear hK K
        try simp only [Act.put, List.setIfInBounds_toArray, List.set_cons_zero, List.set_cons_succ]
        refine wpAnyH_ready (rs := [4]) (by kernel_rfl) (by simp) ?_
        refine AllReadyH.cons (o := ⟨some 23, _, _, _, _, _⟩) rfl (fun K hK => ?_) AllReadyH.nil
        rw [if_pos (by rfl)]
        go_wp2
        have h7 := byt1_rd w2 (r.pn % 256) (Int.emod_nonneg _ (by decide)) (Int.emod_lt_of_pos _ (by decide))
        have hb1 := below_one w2 (.cells #[.int .u8 (r.pn % 256)] 5)
        have hS3 := hS.below hb1
        refine hK.out _ _ (hS3) (fun hS => ?_)
        clear hK K
        try simp only [Act.put, List.setIfInBounds_toArray, List.set_cons_zero, List.set_cons_succ]
        refine wpAnyH_take (i := 9) (oi := ⟨some 7, _, _, _, _, _⟩) (v := ?_) rfl (by kernel_rfl) (by kernel_rfl) (by kernel_rfl) (fun _ _ _ h => h) (Or.inl ⟨by rfl, ?_⟩) hS ?_
        rotate_left
        · intro wq hq
          first | (go_simp; done) | (go_simp; rfl)
        try simp only [Act.put, List.setIfInBounds_toArray, List.set_cons_zero, List.set_cons_succ]
        refine wpAnyH_take (i := 10) (oi := ⟨some 8, _, _, _, _, _⟩) (v := ?_) rfl (by kernel_rfl) (by kernel_rfl) (by kernel_rfl) (fun _ _ _ h => h) (Or.inl ⟨by rfl, ?_⟩) hS ?_
        rotate_left
        · intro wq hq
          first | (go_simp; done) | (go_simp; rfl)
        try simp only [Act.put, List.setIfInBounds_toArray, List.set_cons_zero, List.set_cons_succ]
        refine wpAnyH_done (by kernel_rfl) ?_ _
        go_wp2_with fail
        go_meet
        exact ⟨_, _, A8, rfl, rfl, hS3, h7, (hr8.below hb1).more hb1.size⟩
    case rest =>
      obtain ⟨A7, c7, A8, rfl, rfl, hB⟩ := hcut
      have cK := hB.src.cK
      have HBd := Lib.hid hB
      clear hB
      go_wp2_with (first | (refine part_fetch rfl 27 _ rfl w.heap.size 44 (ipc r.gv r.gl) _ rfl (HBd.out.src.rGw HR.out) Tryz.underlying27 rfl (sz_gw HR.out) ?_) | fail)
      refine (HAg.out _).mono ?_
      rintro e w8 ⟨A9, rfl, hr9, hB9⟩
      have HBd := Lib.hid (HBd.out.below hB9)
      have HG9 := Lib.hid hr9
      clear hr9 hB9
      have HL : Hid (RdL (w8.alloc (.cells (([(some ⟨w.heap.size, 1, none⟩, 8, 8), (some ⟨w.heap.size, 9, none⟩, 10, 10), (A5, 4, c5), (A7, 1, c7), (A8, nb r.v6, 16), (A9, nb r.gv, 16), (A6, 3, c6)] : List (Option Addr × Nat × Nat)).map fun v => Value.slice v.1 v.2.1 v.2.2).toArray 38)) (w8.alloc (.cells (([(some ⟨w.heap.size, 1, none⟩, 8, 8), (some ⟨w.heap.size, 9, none⟩, 10, 10), (A5, 4, c5), (A7, 1, c7), (A8, nb r.v6, 16), (A9, nb r.gv, 16), (A6, 3, c6)] : List (Option Addr × Nat × Nat)).map fun v => Value.slice v.1 v.2.1 v.2.2).toArray 38)).heap.size (some ⟨w8.heap.size, 0, none⟩) 7 [r.rd, r.es, be 4 r.tg, [r.pn % 256], r.pl.take (nb r.v6), r.gl.take (nb r.gv), be 3 r.lb]) := Lib.hid (rdl_new (W := w8) (vs := [(some ⟨w.heap.size, 1, none⟩, 8, 8), (some ⟨w.heap.size, 9, none⟩, 10, 10), (A5, 4, c5), (A7, 1, c7), (A8, nb r.v6, 16), (A9, nb r.gv, 16), (A6, 3, c6)]) (ls := [r.rd, r.es, be 4 r.tg, [r.pn % 256], r.pl.take (nb r.v6), r.gl.take (nb r.gv), be 3 r.lb]) ⟨HBd.out.src.sRd HR.out HBd.out.src.lt, HBd.out.src.sEs HR.out HBd.out.src.lt, HBd.out.r5, HBd.out.r7, HBd.out.r8, HG9.out, HBd.out.r6, trivial⟩ 38 _ rfl)
      have HLow := Lib.hid HBd.out.low
      clear HBd
      go_wp2_with fail
      refine (concat_is _ _ 7 7 _ HL.out (by omega) (by rw [HF.out]; exact HLen.out)).mono ?_
      rintro e w9 ⟨v, rfl, hO, hB9⟩
      have HEnd := Lib.hid (show OwnB w.heap.size w9 v (bodyR r) ∧ Below w.heap.size w w9 from ⟨by rw [← HF.out]; exact hO.low (by have := HLow.out.size; simp; omega), (HLow.out.trans ((below_one w8 _).mono HLow.out.size)).trans (hB9.mono (by have := HLow.out.size; simp; omega))⟩)
      clear hO hB9
      go_wp2
      go_ret
      exact ⟨v, rfl, HEnd.out.1, HEnd.out.2⟩

end Go.Proofs.YtdgoeibfggjbmaaGreatDoor
namespace Go.Proofs.YtdgoeibfggjbmaaGreatDoor
open Go.RowKit
set_option maxRecDepth 100000
set_option linter.unusedSimpArgs false
set_option linter.unusedVariables false

theorem rdl_new_at {W : World} {vs : List (Option Addr × Nat × Nat)} {ls : List (List Int)} (h : RdAll W W.heap.size vs ls) (t : TypeId) (cs : Array Value) (hcs : cs = (vs.map fun v => Value.slice v.1 v.2.1 v.2.2).toArray) (H : Nat) (hH : W.heap.size = H) :
    RdL (W.alloc (.cells cs t)) (W.alloc (.cells cs t)).heap.size (some ⟨H, 0, none⟩) ls.length ls := by
  subst hH
  exact rdl_new h t cs hcs
theorem nb_le16 (v : Bool) : nb v ≤ 16 := by cases v <;> simp [nb]

set_option maxHeartbeats 4000000 in
set_option maxRecDepth 100000 in
theorem body_2_0 (w : World) (r : Rt) (hr : RtOk r) (hf : RightF r) (hk : r.k = 2) (hpn : r.pn = 0) (hnb : 0 ≤ nb r.v6) : Calls Tryz.prog 196 #[.agg (rtc r).toArray] w fun e w' => ∃ v, e = .returned v ∧ OwnB w.heap.size w' v (bodyR r) ∧ Below w.heap.size w w' := by
  have HR := Lib.hid hr
  have H1 := Lib.hid ((RtAt.new w r hr 53).keep (w' := (w.alloc (.cells (rtc r).toArray 53)).drew) rfl)
  have HB1 := Lib.hid (below_drewN ((Below.refl w.heap.size w).alloc (Nat.le_refl _) (.cells (rtc r).toArray 53)) 1)
  have HN4 : Hid (∀ W, Calls Tryz.prog 220 #[.int .u32 r.tg, .int .i64 4] W fun e W' => ∃ A c, e = .returned (.slice A 4 c) ∧ Rd W' W'.heap.size A 4 (be 4 r.tg) ∧ Below W.heap.size W W') := Lib.hid (fun W => (numb_is W r.tg 4 hr.tg (by omega) (by omega) (be4_fit hr.tg)).mono (by
    rintro e W' ⟨A, c, rfl, _, h2, h3⟩
    exact ⟨A, c, rfl, h2, h3⟩))
  have HN3 : Hid (∀ W, Calls Tryz.prog 220 #[.int .u32 r.lb, .int .i64 3] W fun e W' => ∃ A c, e = .returned (.slice A 3 c) ∧ Rd W' W'.heap.size A 3 (be 3 r.lb) ∧ Below W.heap.size W W') := Lib.hid (fun W => (numb_is W r.lb 3 hr.lb (by omega) (by omega) (by have := hf.lb.2; omega)).mono (by
    rintro e W' ⟨A, c, rfl, _, h2, h3⟩
    exact ⟨A, c, rfl, h2, h3⟩))
  have HAd : Hid (∀ W, Calls Tryz.prog 221 #[.agg (ipc r.v6 r.pl).toArray] W fun e W' => ∃ A, e = .returned (.slice A (nb r.v6) 16) ∧ Rd W' W'.heap.size A (nb r.v6) (r.pl.take (nb r.v6)) ∧ Below W.heap.size W W') := Lib.hid (fun W => addr_at W r.v6 r.pl hr.pl hr.opl)
  have hs8 : ∀ W, (Instr.sliceAt 45 (.pointer (some ⟨w.heap.size, 1, none⟩)) none none none).run Tryz.prog W = .ok (.slice (some ⟨w.heap.size, 1, none⟩) 8 8) W := fun W => by go_simp
  have hs10 : ∀ W, (Instr.sliceAt 47 (.pointer (some ⟨w.heap.size, 9, none⟩)) none none none).run Tryz.prog W = .ok (.slice (some ⟨w.heap.size, 9, none⟩) 10 10) W := fun W => by go_simp
  have HSc : Hid (∀ W, Calls Tryz.prog 222 #[.int .u32 r.l2] W (Bts W (sec r.l2))) := Lib.hid (fun W => second_is W r.l2 hf.l2)
  have hs6 : ∀ W, (Instr.sliceAt 49 (.pointer (some ⟨w.heap.size, 20, none⟩)) none none none).run Tryz.prog W = .ok (.slice (some ⟨w.heap.size, 20, none⟩) 6 6) W := fun W => by go_simp
  have HCut : Hid (∀ W A, Rd W W.heap.size A (nb r.v6) (r.pl.take (nb r.v6)) → Rd W W.heap.size A 0 (r.pl.take 0)) := Lib.hid (fun W A h => by
    have hle : 0 ≤ nb r.v6 := by have := hnb; omega
    have hh := h.cut (c := 16) (k := 0) (m := 0) (by omega) (nb_le16 r.v6)
    simp only [List.drop_zero, List.take_take, Nat.min_eq_left hle] at hh
    have e : (if 16 = 0 then A else A.map (fun x => x.add 0)) = A := by
      rw [if_neg (by omega)]
      cases A with
      | none => rfl
      | some a => simp [Addr.add]
    rwa [e] at hh)
  have HF : Hid (([r.rd, r.es, be 4 r.tg, [48], r.mc, [r.pn % 256], r.pl.take 0, be 3 r.lb, sec r.l2] : List (List Int)).flatten = bodyR r) := Lib.hid (by unfold bodyR; rw [if_neg (by omega)]; rw [if_pos hk]; rw [show (r.pn / 8).toNat = 0 by rw [hpn]; rfl]; simp)
  have HLen : Hid ((bodyR r).length ≤ 140737488355328) := Lib.hid (by rw [← HF.out]; simp [be_len, hr.rd, hr.es, hr.pl, hr.mc]; unfold sec; split <;> simp [be_len] <;> omega)
  have e1 : (r.k == 1) = false := by rw [beq_eq_false_iff_ne]; omega
  have e2 : (r.k == 2) = true := by rw [beq_iff_eq]; omega
  have HPN := Lib.hid hpn
  clear hk hpn hnb
  clear hr hf
  go_enter Tryz.func196, Tryz.ntmps196
  go_wp2
  refine wp_region_held_drew (S := fun W => RtAt W w.heap.size r) (by kernel_rfl) (H1.out) (fun hS => ?_)
  refine wpAnyH_take (i := 0) (oi := ⟨some 9, _, _, _, _, _⟩) (v := ?_) rfl (by kernel_rfl) (by kernel_rfl) (by kernel_rfl) (fun _ _ _ h => h) (Or.inl ⟨by rfl, ?_⟩) hS ?_
  rotate_left
  · intro wq hq
    first | (go_simp; done) | (go_simp; rfl)
  try simp only [Act.put, List.setIfInBounds_toArray, List.set_cons_zero, List.set_cons_succ]
  refine wpAnyH_take (i := 1) (oi := ⟨some 10, _, _, _, _, _⟩) (v := ?_) rfl (by kernel_rfl) (by kernel_rfl) (by kernel_rfl) (fun _ _ _ h => h) (Or.inl ⟨by rfl, ?_⟩) hS ?_
  rotate_left
  · intro wq hq
    first | (go_simp; done) | (go_simp; rfl)
  try simp only [Act.put, List.setIfInBounds_toArray, List.set_cons_zero, List.set_cons_succ]
  refine wpAnyH_take (i := 2) (oi := ⟨some 11, _, _, _, _, _⟩) (v := ?_) rfl (by kernel_rfl) (by kernel_rfl) (by kernel_rfl) (fun _ _ _ h => h) (Or.inl ⟨by rfl, ?_⟩) hS ?_
  rotate_left
  · intro wq hq
    first | (go_simp; done) | (go_simp; rfl)
  try simp only [Act.put, List.setIfInBounds_toArray, List.set_cons_zero, List.set_cons_succ]
  refine wpAnyH_take (i := 3) (oi := ⟨some 12, _, _, _, _, _⟩) (v := ?_) rfl (by kernel_rfl) (by kernel_rfl) (by kernel_rfl) (fun _ _ _ h => h) (Or.inl ⟨by rfl, ?_⟩) hS ?_
  rotate_left
  · intro wq hq
    first | (go_simp; done) | (go_simp; rfl)
  try simp only [Act.put, List.setIfInBounds_toArray, List.set_cons_zero, List.set_cons_succ]
  refine wpAnyH_take (i := 4) (oi := ⟨some 3, _, _, _, _, _⟩) (v := ?_) rfl (by kernel_rfl) (by kernel_rfl) (by kernel_rfl) (fun _ _ _ h => h) (Or.inl ⟨by rfl, ?_⟩) hS ?_
  rotate_left
  · intro wq hq
    first | (go_simp; done) | (go_simp; rfl)
  try simp only [Act.put, List.setIfInBounds_toArray, List.set_cons_zero, List.set_cons_succ]
  refine wpAnyH_take (i := 5) (oi := ⟨some 4, _, _, _, _, _⟩) (v := ?_) rfl (by kernel_rfl) (by kernel_rfl) (by kernel_rfl) (fun _ _ _ h => h) (Or.inl ⟨by rfl, ?_⟩) hS ?_
  rotate_left
  · intro wq hq
    first | (go_simp; done) | (go_simp; rfl)
  try simp only [Act.put, List.setIfInBounds_toArray, List.set_cons_zero, List.set_cons_succ]
  refine wpAnyH_done (by kernel_rfl) ?_ _
  clear hS hs8 hs10
  go_wp2_with fail
  have HW1 := Lib.hid (show RtAt ((w.alloc (.cells (rtc r).toArray 53)).drew) w.heap.size r ∧ Below w.heap.size w ((w.alloc (.cells (rtc r).toArray 53)).drew) from ⟨H1.out, HB1.out⟩)
  clear H1 HB1
  generalize (w.alloc (.cells (rtc r).toArray 53)).drew = W1 at *
  go_cut [5, 6] (fun s5 s6 wx => CutA w r s5 s6 wx)
  case first =>
    refine wp_region_held_drew (S := fun W => RtAt W w.heap.size r ∧ Below w.heap.size w W) (by kernel_rfl) (⟨HW1.out.1.keep rfl, below_drewN HW1.out.2 1⟩) (fun hS => ?_)
    refine wpAnyH_take (i := 0) (oi := ⟨some 13, _, _, _, _, _⟩) (v := ?_) rfl (by kernel_rfl) (by kernel_rfl) (by kernel_rfl) (fun _ _ _ h => h) (Or.inl ⟨by rfl, ?_⟩) hS ?_
    rotate_left
    · intro wq hq
      first | (go_simp; done) | (go_simp; rfl)
    try simp only [Act.put, List.setIfInBounds_toArray, List.set_cons_zero, List.set_cons_succ]
    refine wpAnyH_take (i := 1) (oi := ⟨some 14, _, _, _, _, _⟩) (v := ?_) rfl (by kernel_rfl) (by kernel_rfl) (by kernel_rfl) (fun _ _ _ h => h) (Or.inl ⟨by rfl, ?_⟩) hS ?_
    rotate_left
    · intro wq hq
      have hc := hq.1.cTg HR.out
      first | (go_simp; done) | (go_simp; rfl)
    try simp only [Act.put, List.setIfInBounds_toArray, List.set_cons_zero, List.set_cons_succ]
    refine wpAnyH_take (i := 3) (oi := ⟨some 16, _, _, _, _, _⟩) (v := ?_) rfl (by kernel_rfl) (by kernel_rfl) (by kernel_rfl) (fun _ _ _ h => h) (Or.inl ⟨by rfl, ?_⟩) hS ?_
    rotate_left
    · intro wq hq
      first | (go_simp; done) | (go_simp; rfl)
    try simp only [Act.put, List.setIfInBounds_toArray, List.set_cons_zero, List.set_cons_succ]
    refine wpAnyH_take (i := 4) (oi := ⟨some 17, _, _, _, _, _⟩) (v := ?_) rfl (by kernel_rfl) (by kernel_rfl) (by kernel_rfl) (fun _ _ _ h => h) (Or.inl ⟨by rfl, ?_⟩) hS ?_
    rotate_left
    · intro wq hq
      have hc := hq.1.cLb HR.out
      first | (go_simp; done) | (go_simp; rfl)
    try simp only [Act.put, List.setIfInBounds_toArray, List.set_cons_zero, List.set_cons_succ]
    refine wpAnyH_ready (rs := [2]) (by kernel_rfl) (by simp) ?_
    refine AllReadyH.cons (o := ⟨some 15, _, _, _, _, _⟩) rfl (fun K hK => ?_) AllReadyH.nil
    rw [if_pos (by rfl)]
    go_wp2_with fail
    refine (HN4.out _).mono ?_
    rintro e w2 ⟨A5, c5, rfl, hr5, hB5⟩
    have hS2 : RtAt w2 w.heap.size r ∧ Below w.heap.size w w2 := ⟨hS.1.below hB5 hS.1.lt, hS.2.trans (hB5.mono hS.2.size)⟩
    refine hK.out _ _ (hS2) (fun hS => ?_)
    clear hK K
    try simp only [Act.put, List.setIfInBounds_toArray, List.set_cons_zero, List.set_cons_succ]
    refine wpAnyH_ready (rs := [5]) (by kernel_rfl) (by simp) ?_
    refine AllReadyH.cons (o := ⟨some 18, _, _, _, _, _⟩) rfl (fun K hK => ?_) AllReadyH.nil
    rw [if_pos (by rfl)]
    go_wp2_with fail
    refine (HN3.out _).mono ?_
    rintro e w3 ⟨A6, c6, rfl, hr6, hB6⟩
    have hS3 : RtAt w3 w.heap.size r ∧ Below w.heap.size w w3 := ⟨hS.1.below hB6 hS.1.lt, hS.2.trans (hB6.mono hS.2.size)⟩
    refine hK.out _ _ (hS3) (fun hS => ?_)
    clear hK K
    try simp only [Act.put, List.setIfInBounds_toArray, List.set_cons_zero, List.set_cons_succ]
    refine wpAnyH_take (i := 6) (oi := ⟨some 5, _, _, _, _, _⟩) (v := ?_) rfl (by kernel_rfl) (by kernel_rfl) (by kernel_rfl) (fun _ _ _ h => h) (Or.inl ⟨by rfl, ?_⟩) hS ?_
    rotate_left
    · intro wq hq
      first | (go_simp; done) | (go_simp; rfl)
    try simp only [Act.put, List.setIfInBounds_toArray, List.set_cons_zero, List.set_cons_succ]
    refine wpAnyH_take (i := 7) (oi := ⟨some 6, _, _, _, _, _⟩) (v := ?_) rfl (by kernel_rfl) (by kernel_rfl) (by kernel_rfl) (fun _ _ _ h => h) (Or.inl ⟨by rfl, ?_⟩) hS ?_
    rotate_left
    · intro wq hq
      first | (go_simp; done) | (go_simp; rfl)
    try simp only [Act.put, List.setIfInBounds_toArray, List.set_cons_zero, List.set_cons_succ]
    refine wpAnyH_done (by kernel_rfl) ?_ _
    go_wp2_with fail
    go_meet
    exact ⟨A5, c5, A6, c6, rfl, rfl, hS3.1, hS3.2, (hr5.below hB6).more hB6.size, hr6⟩
  case rest =>
    obtain ⟨A5, c5, A6, c6, rfl, rfl, hA⟩ := hcut
    have HA := Lib.hid (show BdA w wc.drew r A5 A6 from hA.below (below_drew wc))
    clear hA
    go_wp2_with fail
    go_cut [7, 8] (fun s7 s8 wx => CutB w r A5 A6 s7 s8 wx)
    case first =>
      refine wp_region_held_drew (S := fun W => BdA w W r A5 A6) (by kernel_rfl) (HA.out) (fun hS => ?_)
      refine wpAnyH_take (i := 0) (oi := ⟨some 19, _, _, _, _, _⟩) (v := ?_) rfl (by kernel_rfl) (by kernel_rfl) (by kernel_rfl) (fun _ _ _ h => h) (Or.inl ⟨by rfl, ?_⟩) hS ?_
      rotate_left
      · intro wq hq
        first | (go_simp; done) | (go_simp; rfl)
      try simp only [Act.put, List.setIfInBounds_toArray, List.set_cons_zero, List.set_cons_succ]
      refine wpAnyH_take (i := 1) (oi := ⟨some 20, _, _, _, _, _⟩) (v := ?_) rfl (by kernel_rfl) (by kernel_rfl) (by kernel_rfl) (fun _ _ _ h => h) (Or.inl ⟨by rfl, ?_⟩) hS ?_
      rotate_left
      · intro wq hq
        first | (go_simp; done) | (go_simp; rfl)
      try simp only [Act.put, List.setIfInBounds_toArray, List.set_cons_zero, List.set_cons_succ]
      refine wpAnyH_take (i := 2) (oi := ⟨some 21, _, _, _, _, _⟩) (v := ?_) rfl (by kernel_rfl) (by kernel_rfl) (by kernel_rfl) (fun _ _ _ h => h) (Or.inl ⟨by rfl, ?_⟩) hS ?_
      rotate_left
      · intro wq hq
        have hc := hq.src.cPn HR.out
        first | (go_simp; done) | (go_simp; rfl)
      try simp only [Act.put, List.setIfInBounds_toArray, List.set_cons_zero, List.set_cons_succ]
      refine wpAnyH_take (i := 3) (oi := ⟨some 22, _, _, _, _, _⟩) (v := ?_) rfl (by kernel_rfl) (by kernel_rfl) (by kernel_rfl) (fun _ _ _ h => h) (Or.inl ⟨by rfl, ?_⟩) hS ?_
      rotate_left
      · intro wq hq
        first | (go_simp; done) | (go_simp; rfl)
      try simp only [Act.put, List.setIfInBounds_toArray, List.set_cons_zero, List.set_cons_succ]
      refine wpAnyH_take (i := 5) (oi := ⟨some 24, _, _, _, _, _⟩) (v := ?_) rfl (by kernel_rfl) (by kernel_rfl) (by kernel_rfl) (fun _ _ _ h => h) (Or.inl ⟨by rfl, ?_⟩) hS ?_
      rotate_left
      · intro wq hq
        first | (go_simp; done) | (go_simp; rfl)
      try simp only [Act.put, List.setIfInBounds_toArray, List.set_cons_zero, List.set_cons_succ]
      refine wpAnyH_take (i := 6) (oi := ⟨some 25, _, _, _, _, _⟩) (v := ?_) rfl (by kernel_rfl) (by kernel_rfl) (by kernel_rfl) (fun _ _ _ h => h) (Or.inl ⟨by rfl, ?_⟩) hS ?_
      rotate_left
      · intro wq hq
        first | (go_simp; done) | (go_simp; rfl)
      try simp only [Act.put, List.setIfInBounds_toArray, List.set_cons_zero, List.set_cons_succ]
      refine wpAnyH_take (i := 7) (oi := ⟨some 26, _, _, _, _, _⟩) rfl (by kernel_rfl) (by kernel_rfl) (by kernel_rfl) (fun _ _ _ h => h) (yieldsIf_load_mid (by rfl) 27 _ rfl _ _ rfl (ipc r.v6 r.pl) _ (fun wq hq => hq.src.rIp HR.out) Tryz.underlying27 rfl (sz_ip HR.out)) hS ?_
      try simp only [Act.put, List.setIfInBounds_toArray, List.set_cons_zero, List.set_cons_succ]
      refine wpAnyH_ready (rs := [4, 8]) (by kernel_rfl) (by simp) ?_
      refine AllReadyH.cons (o := ⟨some 23, _, _, _, _, _⟩) rfl (fun K hK => ?_) (AllReadyH.cons (o := ⟨some 27, _, _, _, _, _⟩) rfl (fun K hK => ?_) AllReadyH.nil)
      · rw [if_pos (by rfl)]
        go_wp2
        have h7 := byt1_rd wc.drew (r.pn % 256) (Int.emod_nonneg _ (by decide)) (Int.emod_lt_of_pos _ (by decide))
        have hS2 := hS.below (below_one wc.drew (.cells #[.int .u8 (r.pn % 256)] 5))
        refine hK.out _ _ (hS2) (fun hS => ?_)
        clear hK K
        try simp only [Act.put, List.setIfInBounds_toArray, List.set_cons_zero, List.set_cons_succ]
        refine wpAnyH_ready (rs := [8]) (by kernel_rfl) (by simp) ?_
        refine AllReadyH.cons (o := ⟨some 27, _, _, _, _, _⟩) rfl (fun K hK => ?_) AllReadyH.nil
        rw [if_pos (by rfl)]
        go_wp2_with fail
        refine (HAd.out _).mono ?_
        rintro e w3 ⟨A8, rfl, hr8, hB8⟩
        have hS3 := hS.below hB8
        refine hK.out _ _ (hS3) (fun hS => ?_)
        clear hK K
        try simp only [Act.put, List.setIfInBounds_toArray, List.set_cons_zero, List.set_cons_succ]
        refine wpAnyH_take (i := 9) (oi := ⟨some 7, _, _, _, _, _⟩) (v := ?_) rfl (by kernel_rfl) (by kernel_rfl) (by kernel_rfl) (fun _ _ _ h => h) (Or.inl ⟨by rfl, ?_⟩) hS ?_
        rotate_left
        · intro wq hq
          first | (go_simp; done) | (go_simp; rfl)
        try simp only [Act.put, List.setIfInBounds_toArray, List.set_cons_zero, List.set_cons_succ]
        refine wpAnyH_take (i := 10) (oi := ⟨some 8, _, _, _, _, _⟩) (v := ?_) rfl (by kernel_rfl) (by kernel_rfl) (by kernel_rfl) (fun _ _ _ h => h) (Or.inl ⟨by rfl, ?_⟩) hS ?_
        rotate_left
        · intro wq hq
          first | (go_simp; done) | (go_simp; rfl)
        try simp only [Act.put, List.setIfInBounds_toArray, List.set_cons_zero, List.set_cons_succ]
        refine wpAnyH_done (by kernel_rfl) ?_ _
        go_wp2_with fail
        go_meet
        exact ⟨_, _, A8, rfl, rfl, hS3, (h7.below hB8).more hB8.size, hr8⟩
      · rw [if_pos (by rfl)]
        go_wp2_with fail
        refine (HAd.out _).mono ?_
        rintro e w2 ⟨A8, rfl, hr8, hB8⟩
        have hS2 := hS.below hB8
        refine hK.out _ _ (hS2) (fun hS => ?_)
        clear hK K
        try simp only [Act.put, List.setIfInBounds_toArray, List.set_cons_zero, List.set_cons_succ]
        refine wpAnyH_ready (rs := [4]) (by kernel_rfl) (by simp) ?_
        refine AllReadyH.cons (o := ⟨some 23, _, _, _, _, _⟩) rfl (fun K hK => ?_) AllReadyH.nil
        rw [if_pos (by rfl)]
        go_wp2
        have h7 := byt1_rd w2 (r.pn % 256) (Int.emod_nonneg _ (by decide)) (Int.emod_lt_of_pos _ (by decide))
        have hb1 := below_one w2 (.cells #[.int .u8 (r.pn % 256)] 5)
        have hS3 := hS.below hb1
        refine hK.out _ _ (hS3) (fun hS => ?_)
        clear hK K
        try simp only [Act.put, List.setIfInBounds_toArray, List.set_cons_zero, List.set_cons_succ]
        refine wpAnyH_take (i := 9) (oi := ⟨some 7, _, _, _, _, _⟩) (v := ?_) rfl (by kernel_rfl) (by kernel_rfl) (by kernel_rfl) (fun _ _ _ h => h) (Or.inl ⟨by rfl, ?_⟩) hS ?_
        rotate_left
        · intro wq hq
          first | (go_simp; done) | (go_simp; rfl)
        try simp only [Act.put, List.setIfInBounds_toArray, List.set_cons_zero, List.set_cons_succ]
        refine wpAnyH_take (i := 10) (oi := ⟨some 8, _, _, _, _, _⟩) (v := ?_) rfl (by kernel_rfl) (by kernel_rfl) (by kernel_rfl) (fun _ _ _ h => h) (Or.inl ⟨by rfl, ?_⟩) hS ?_
        rotate_left
        · intro wq hq
          first | (go_simp; done) | (go_simp; rfl)
        try simp only [Act.put, List.setIfInBounds_toArray, List.set_cons_zero, List.set_cons_succ]
        refine wpAnyH_done (by kernel_rfl) ?_ _
        go_wp2_with fail
        go_meet
        exact ⟨_, _, A8, rfl, rfl, hS3, h7, (hr8.below hb1).more hb1.size⟩
    case rest =>
      obtain ⟨A7, c7, A8, rfl, rfl, hB⟩ := hcut
      have cK := hB.src.cK
      have HBd := Lib.hid hB
      clear hB
      go_wp2_with fail
      refine wp_region_held_drew (S := fun W => BdB w W r A5 A6 A7 A8) (by kernel_rfl) (HBd.out.below (below_drew wc)) (fun hS => ?_)
      refine wpAnyH_take (i := 0) (oi := ⟨some 40, _, _, _, _, _⟩) (v := ?_) rfl (by kernel_rfl) (by kernel_rfl) (by kernel_rfl) (fun _ _ _ h => h) (Or.inl ⟨by rfl, ?_⟩) hS ?_
      rotate_left
      · intro wq hq
        first | (go_simp; done) | (go_simp; rfl)
      try simp only [Act.put, List.setIfInBounds_toArray, List.set_cons_zero, List.set_cons_succ]
      refine wpAnyH_take (i := 1) (oi := ⟨some 41, _, _, _, _, _⟩) (v := ?_) rfl (by kernel_rfl) (by kernel_rfl) (by kernel_rfl) (fun _ _ _ h => h) (Or.inl ⟨by rfl, ?_⟩) hS ?_
      rotate_left
      · intro wq hq
        first | (go_simp; done) | (go_simp; rfl)
      try simp only [Act.put, List.setIfInBounds_toArray, List.set_cons_zero, List.set_cons_succ]
      refine wpAnyH_take (i := 2) (oi := ⟨some 42, _, _, _, _, _⟩) (v := ?_) rfl (by kernel_rfl) (by kernel_rfl) (by kernel_rfl) (fun _ _ _ h => h) (Or.inl ⟨by rfl, ?_⟩) hS ?_
      rotate_left
      · intro wq hq
        first | (go_simp; done) | (go_simp; rfl)
      try simp only [Act.put, List.setIfInBounds_toArray, List.set_cons_zero, List.set_cons_succ]
      refine wpAnyH_take (i := 4) (oi := ⟨some 44, _, _, _, _, _⟩) (v := ?_) rfl (by kernel_rfl) (by kernel_rfl) (by kernel_rfl) (fun _ _ _ h => h) (Or.inl ⟨by rfl, ?_⟩) hS ?_
      rotate_left
      · intro wq hq
        first | (go_simp; done) | (go_simp; rfl)
      try simp only [Act.put, List.setIfInBounds_toArray, List.set_cons_zero, List.set_cons_succ]
      refine wpAnyH_take (i := 5) (oi := ⟨some 45, _, _, _, _, _⟩) (v := ?_) rfl (by kernel_rfl) (by kernel_rfl) (by kernel_rfl) (fun _ _ _ h => h) (Or.inl ⟨by rfl, ?_⟩) hS ?_
      rotate_left
      · intro wq hq
        first | (go_simp; done) | (go_simp; rfl)
      try simp only [Act.put, List.setIfInBounds_toArray, List.set_cons_zero, List.set_cons_succ]
      refine wpAnyH_take (i := 6) (oi := ⟨some 46, _, _, _, _, _⟩) (v := ?_) rfl (by kernel_rfl) (by kernel_rfl) (by kernel_rfl) (fun _ _ _ h => h) (Or.inl ⟨by rfl, ?_⟩) hS ?_
      rotate_left
      · intro wq hq
        first | (go_simp; done) | (go_simp; rfl)
      try simp only [Act.put, List.setIfInBounds_toArray, List.set_cons_zero, List.set_cons_succ]
      refine wpAnyH_take (i := 7) (oi := ⟨some 47, _, _, _, _, _⟩) (v := ?_) rfl (by kernel_rfl) (by kernel_rfl) (by kernel_rfl) (fun _ _ _ h => h) (Or.inl ⟨by rfl, ?_⟩) hS ?_
      rotate_left
      · intro wq hq
        first | (go_simp; done) | (go_simp; rfl)
      try simp only [Act.put, List.setIfInBounds_toArray, List.set_cons_zero, List.set_cons_succ]
      refine wpAnyH_take (i := 8) (oi := ⟨some 48, _, _, _, _, _⟩) (v := ?_) rfl (by kernel_rfl) (by kernel_rfl) (by kernel_rfl) (fun _ _ _ h => h) (Or.inl ⟨by rfl, ?_⟩) hS ?_
      rotate_left
      · intro wq hq
        first | (go_simp; done) | (go_simp; rfl)
      try simp only [Act.put, List.setIfInBounds_toArray, List.set_cons_zero, List.set_cons_succ]
      refine wpAnyH_take (i := 9) (oi := ⟨some 49, _, _, _, _, _⟩) (v := ?_) rfl (by kernel_rfl) (by kernel_rfl) (by kernel_rfl) (fun _ _ _ h => h) (Or.inl ⟨by rfl, ?_⟩) hS ?_
      rotate_left
      · intro wq hq
        first | (go_simp; done) | (go_simp; rfl)
      try simp only [Act.put, List.setIfInBounds_toArray, List.set_cons_zero, List.set_cons_succ]
      refine wpAnyH_take (i := 10) (oi := ⟨some 50, _, _, _, _, _⟩) (v := ?_) rfl (by kernel_rfl) (by kernel_rfl) (by kernel_rfl) (fun _ _ _ h => h) (Or.inl ⟨by rfl, ?_⟩) hS ?_
      rotate_left
      · intro wq hq
        have hc := hq.src.cPn HR.out; rw [HPN.out] at hc
        first | (go_simp; done) | (go_simp; rfl)
      try simp only [Act.put, List.setIfInBounds_toArray, List.set_cons_zero, List.set_cons_succ]
      refine wpAnyH_take (i := 11) (oi := ⟨some 51, _, _, _, _, _⟩) (v := ?_) rfl (by kernel_rfl) (by kernel_rfl) (by kernel_rfl) (fun _ _ _ h => h) (Or.inl ⟨by rfl, ?_⟩) hS ?_
      rotate_left
      · intro wq hq
        first | (go_simp; done) | (go_simp; rfl)
      try simp only [Act.put, List.setIfInBounds_toArray, List.set_cons_zero, List.set_cons_succ]
      refine wpAnyH_take (i := 12) (oi := ⟨some 52, _, _, _, _, _⟩) (v := ?_) rfl (by kernel_rfl) (by kernel_rfl) (by kernel_rfl) (fun _ _ _ h => h) (Or.inl ⟨by rfl, ?_⟩) hS ?_
      rotate_left
      · intro wq hq
        first | (go_simp; done) | (go_simp; rfl)
      try simp only [Act.put, List.setIfInBounds_toArray, List.set_cons_zero, List.set_cons_succ]
      refine wpAnyH_take (i := 13) (oi := ⟨some 53, _, _, _, _, _⟩) (v := ?_) rfl (by kernel_rfl) (by kernel_rfl) (by kernel_rfl) (fun _ _ _ h => h) (Or.inl ⟨by rfl, ?_⟩) hS ?_
      rotate_left
      · intro wq hq
        first | (go_simp; done) | (go_simp; rfl)
      try simp only [Act.put, List.setIfInBounds_toArray, List.set_cons_zero, List.set_cons_succ]
      refine wpAnyH_take (i := 14) (oi := ⟨some 54, _, _, _, _, _⟩) (v := ?_) rfl (by kernel_rfl) (by kernel_rfl) (by kernel_rfl) (fun _ _ _ h => h) (Or.inl ⟨by rfl, ?_⟩) hS ?_
      rotate_left
      · intro wq hq
        first | (go_simp; done) | (go_simp; rfl)
      try simp only [Act.put, List.setIfInBounds_toArray, List.set_cons_zero, List.set_cons_succ]
      refine wpAnyH_take (i := 15) (oi := ⟨some 55, _, _, _, _, _⟩) (v := ?_) rfl (by kernel_rfl) (by kernel_rfl) (by kernel_rfl) (fun _ _ _ h => h) (Or.inl ⟨by rfl, ?_⟩) hS ?_
      rotate_left
      · intro wq hq
        have hc := hq.src.cL2 HR.out
        first | (go_simp; done) | (go_simp; rfl)
      try simp only [Act.put, List.setIfInBounds_toArray, List.set_cons_zero, List.set_cons_succ]
      clear HBd
      generalize wc.drew = wd at *
      refine wpAnyH_ready (rs := [3, 16]) (by kernel_rfl) (by simp) ?_
      refine AllReadyH.cons (o := ⟨some 43, _, _, _, _, _⟩) rfl (fun K hK => ?_) (AllReadyH.cons (o := ⟨some 56, _, _, _, _, _⟩) rfl (fun K hK => ?_) AllReadyH.nil)
      · rw [if_pos (by rfl)]
        go_wp2
        have h48a := byt1_rd wd 48 (by omega) (by omega)
        have hS7 := hS.below (below_one wd (.cells #[.int .u8 48] 5))
        refine hK.out _ _ (hS7) (fun hS => ?_)
        clear hK K
        try simp only [Act.put, List.setIfInBounds_toArray, List.set_cons_zero, List.set_cons_succ]
        refine wpAnyH_ready (rs := [16]) (by kernel_rfl) (by simp) ?_
        refine AllReadyH.cons (o := ⟨some 56, _, _, _, _, _⟩) rfl (fun K hK => ?_) AllReadyH.nil
        rw [if_pos (by rfl)]
        go_wp2_with fail
        refine (HSc.out _).mono ?_
        rintro e w8 ⟨A10, c10, rfl, _, hr10, hB10⟩
        have hS9 := hS7.below hB10
        have h48 := (h48a.below hB10).more hB10.size
        refine hK.out _ _ (hS9) (fun hS => ?_)
        clear hK K
        try simp only [Act.put, List.setIfInBounds_toArray, List.set_cons_zero, List.set_cons_succ]
        have HL : Hid (RdL (w8.alloc (.cells #[.slice (some ⟨w.heap.size, 1, none⟩) 8 8, .slice (some ⟨w.heap.size, 9, none⟩) 10 10, .slice A5 4 c5, .slice (some ⟨wd.heap.size, 0, none⟩) 1 1, .slice (some ⟨w.heap.size, 20, none⟩) 6 6, .slice A7 1 c7, .slice A8 0 16, .slice A6 3 c6, .slice A10 (sec r.l2).length c10] 38)) (w8.alloc (.cells #[.slice (some ⟨w.heap.size, 1, none⟩) 8 8, .slice (some ⟨w.heap.size, 9, none⟩) 10 10, .slice A5 4 c5, .slice (some ⟨wd.heap.size, 0, none⟩) 1 1, .slice (some ⟨w.heap.size, 20, none⟩) 6 6, .slice A7 1 c7, .slice A8 0 16, .slice A6 3 c6, .slice A10 (sec r.l2).length c10] 38)).heap.size (some ⟨w8.heap.size, 0, none⟩) 9 [r.rd, r.es, be 4 r.tg, [48], r.mc, [r.pn % 256], r.pl.take 0, be 3 r.lb, sec r.l2]) := Lib.hid (rdl_new_at (W := w8) (vs := [(some ⟨w.heap.size, 1, none⟩, 8, 8), (some ⟨w.heap.size, 9, none⟩, 10, 10), (A5, 4, c5), (some ⟨wd.heap.size, 0, none⟩, 1, 1), (some ⟨w.heap.size, 20, none⟩, 6, 6), (A7, 1, c7), (A8, 0, 16), (A6, 3, c6), (A10, (sec r.l2).length, c10)]) (ls := [r.rd, r.es, be 4 r.tg, [48], r.mc, [r.pn % 256], r.pl.take 0, be 3 r.lb, sec r.l2]) ⟨hS9.src.sRd HR.out hS9.src.lt, hS9.src.sEs HR.out hS9.src.lt, hS9.r5, h48, hS9.src.sMc HR.out hS9.src.lt, hS9.r7, HCut.out _ _ hS9.r8, hS9.r6, hr10, trivial⟩ 38 _ rfl _ (by simp))
        have hlow := hS9.low
        refine wpAnyH_ready (rs := [17]) (by kernel_rfl) (by simp) ?_
        refine AllReadyH.cons (o := ⟨some 57, _, _, _, _, _⟩) rfl (fun K hK => ?_) AllReadyH.nil
        rw [if_pos (by rfl)]
        go_wp2
        have hS10 := hS9.below (below_one w8 (.cells #[.slice (some ⟨w.heap.size, 1, none⟩) 8 8, .slice (some ⟨w.heap.size, 9, none⟩) 10 10, .slice A5 4 c5, .slice (some ⟨wd.heap.size, 0, none⟩) 1 1, .slice (some ⟨w.heap.size, 20, none⟩) 6 6, .slice A7 1 c7, .slice A8 0 16, .slice A6 3 c6, .slice A10 (sec r.l2).length c10] 38))
        refine hK.out _ _ (hS10) (fun hS => ?_)
        clear hK K
        try simp only [Act.put, List.setIfInBounds_toArray, List.set_cons_zero, List.set_cons_succ]
        refine wpAnyH_ready (rs := [18]) (by kernel_rfl) (by simp) ?_
        refine AllReadyH.cons (o := ⟨some 58, _, _, _, _, _⟩) rfl (fun K hK => ?_) AllReadyH.nil
        rw [if_pos (by rfl)]
        go_wp2_with fail
        refine (concat_is _ _ 9 9 _ HL.out (by omega) (by rw [HF.out]; exact HLen.out)).mono ?_
        rintro e w9 ⟨v, rfl, hO, hB9⟩
        have hS11 := hS10.below hB9
        have HEnd := Lib.hid (show OwnB w.heap.size w9 v (bodyR r) ∧ Below w.heap.size w w9 from ⟨by rw [← HF.out]; exact hO.low (by have := hlow.size; simp at this ⊢; omega), hS11.low⟩)
        refine hK.out _ _ (hS11) (fun hS => ?_)
        clear hK K
        try simp only [Act.put, List.setIfInBounds_toArray, List.set_cons_zero, List.set_cons_succ]
        refine wpAnyH_take (i := 19) (oi := ⟨some 2, _, _, _, _, _⟩) (v := ?_) rfl (by kernel_rfl) (by kernel_rfl) (by kernel_rfl) (fun _ _ _ h => h) (Or.inl ⟨by rfl, ?_⟩) hS ?_
        rotate_left
        · intro wq hq
          first | (go_simp; done) | (go_simp; rfl)
        try simp only [Act.put, List.setIfInBounds_toArray, List.set_cons_zero, List.set_cons_succ]
        refine wpAnyH_done (by kernel_rfl) ?_ _
        clear hS hS9 hS10 hS11 hO hB9 HL
        go_wp2
        go_ret
        exact ⟨v, rfl, HEnd.out.1, HEnd.out.2⟩
      · rw [if_pos (by rfl)]
        go_wp2_with fail
        refine (HSc.out _).mono ?_
        rintro e w8 ⟨A10, c10, rfl, _, hr10a, hB10⟩
        have hS8 := hS.below hB10
        refine hK.out _ _ (hS8) (fun hS => ?_)
        clear hK K
        try simp only [Act.put, List.setIfInBounds_toArray, List.set_cons_zero, List.set_cons_succ]
        refine wpAnyH_ready (rs := [3]) (by kernel_rfl) (by simp) ?_
        refine AllReadyH.cons (o := ⟨some 43, _, _, _, _, _⟩) rfl (fun K hK => ?_) AllReadyH.nil
        rw [if_pos (by rfl)]
        go_wp2
        have h48 := byt1_rd w8 48 (by omega) (by omega)
        have hb1 := below_one w8 (.cells #[.int .u8 48] 5)
        have hS9 := hS8.below hb1
        have hr10 := (hr10a.below hb1).more hb1.size
        refine hK.out _ _ (hS9) (fun hS => ?_)
        clear hK K
        try simp only [Act.put, List.setIfInBounds_toArray, List.set_cons_zero, List.set_cons_succ]
        have HL : Hid (RdL ((w8.alloc (.cells #[.int .u8 48] 5)).alloc (.cells #[.slice (some ⟨w.heap.size, 1, none⟩) 8 8, .slice (some ⟨w.heap.size, 9, none⟩) 10 10, .slice A5 4 c5, .slice (some ⟨w8.heap.size, 0, none⟩) 1 1, .slice (some ⟨w.heap.size, 20, none⟩) 6 6, .slice A7 1 c7, .slice A8 0 16, .slice A6 3 c6, .slice A10 (sec r.l2).length c10] 38)) ((w8.alloc (.cells #[.int .u8 48] 5)).alloc (.cells #[.slice (some ⟨w.heap.size, 1, none⟩) 8 8, .slice (some ⟨w.heap.size, 9, none⟩) 10 10, .slice A5 4 c5, .slice (some ⟨w8.heap.size, 0, none⟩) 1 1, .slice (some ⟨w.heap.size, 20, none⟩) 6 6, .slice A7 1 c7, .slice A8 0 16, .slice A6 3 c6, .slice A10 (sec r.l2).length c10] 38)).heap.size (some ⟨w8.heap.size + 1, 0, none⟩) 9 [r.rd, r.es, be 4 r.tg, [48], r.mc, [r.pn % 256], r.pl.take 0, be 3 r.lb, sec r.l2]) := Lib.hid (rdl_new_at (W := (w8.alloc (.cells #[.int .u8 48] 5))) (vs := [(some ⟨w.heap.size, 1, none⟩, 8, 8), (some ⟨w.heap.size, 9, none⟩, 10, 10), (A5, 4, c5), (some ⟨w8.heap.size, 0, none⟩, 1, 1), (some ⟨w.heap.size, 20, none⟩, 6, 6), (A7, 1, c7), (A8, 0, 16), (A6, 3, c6), (A10, (sec r.l2).length, c10)]) (ls := [r.rd, r.es, be 4 r.tg, [48], r.mc, [r.pn % 256], r.pl.take 0, be 3 r.lb, sec r.l2]) ⟨hS9.src.sRd HR.out hS9.src.lt, hS9.src.sEs HR.out hS9.src.lt, hS9.r5, h48, hS9.src.sMc HR.out hS9.src.lt, hS9.r7, HCut.out _ _ hS9.r8, hS9.r6, hr10, trivial⟩ 38 _ rfl _ (by simp))
        have hlow := hS9.low
        refine wpAnyH_ready (rs := [17]) (by kernel_rfl) (by simp) ?_
        refine AllReadyH.cons (o := ⟨some 57, _, _, _, _, _⟩) rfl (fun K hK => ?_) AllReadyH.nil
        rw [if_pos (by rfl)]
        go_wp2
        have hS10 := hS9.below (below_one (w8.alloc (.cells #[.int .u8 48] 5)) (.cells #[.slice (some ⟨w.heap.size, 1, none⟩) 8 8, .slice (some ⟨w.heap.size, 9, none⟩) 10 10, .slice A5 4 c5, .slice (some ⟨w8.heap.size, 0, none⟩) 1 1, .slice (some ⟨w.heap.size, 20, none⟩) 6 6, .slice A7 1 c7, .slice A8 0 16, .slice A6 3 c6, .slice A10 (sec r.l2).length c10] 38))
        refine hK.out _ _ (hS10) (fun hS => ?_)
        clear hK K
        try simp only [Act.put, List.setIfInBounds_toArray, List.set_cons_zero, List.set_cons_succ]
        refine wpAnyH_ready (rs := [18]) (by kernel_rfl) (by simp) ?_
        refine AllReadyH.cons (o := ⟨some 58, _, _, _, _, _⟩) rfl (fun K hK => ?_) AllReadyH.nil
        rw [if_pos (by rfl)]
        go_wp2_with fail
        refine (concat_is _ _ 9 9 _ HL.out (by omega) (by rw [HF.out]; exact HLen.out)).mono ?_
        rintro e w9 ⟨v, rfl, hO, hB9⟩
        have hS11 := hS10.below hB9
        have HEnd := Lib.hid (show OwnB w.heap.size w9 v (bodyR r) ∧ Below w.heap.size w w9 from ⟨by rw [← HF.out]; exact hO.low (by have := hlow.size; simp at this ⊢; omega), hS11.low⟩)
        refine hK.out _ _ (hS11) (fun hS => ?_)
        clear hK K
        try simp only [Act.put, List.setIfInBounds_toArray, List.set_cons_zero, List.set_cons_succ]
        refine wpAnyH_take (i := 19) (oi := ⟨some 2, _, _, _, _, _⟩) (v := ?_) rfl (by kernel_rfl) (by kernel_rfl) (by kernel_rfl) (fun _ _ _ h => h) (Or.inl ⟨by rfl, ?_⟩) hS ?_
        rotate_left
        · intro wq hq
          first | (go_simp; done) | (go_simp; rfl)
        try simp only [Act.put, List.setIfInBounds_toArray, List.set_cons_zero, List.set_cons_succ]
        refine wpAnyH_done (by kernel_rfl) ?_ _
        clear hS hS9 hS10 hS11 hO hB9 HL
        go_wp2
        go_ret
        exact ⟨v, rfl, HEnd.out.1, HEnd.out.2⟩

end Go.Proofs.YtdgoeibfggjbmaaGreatDoor
namespace Go.Proofs.YtdgoeibfggjbmaaGreatDoor
open Go.RowKit
set_option maxRecDepth 100000
set_option linter.unusedSimpArgs false
set_option linter.unusedVariables false


set_option maxHeartbeats 4000000 in
set_option maxRecDepth 100000 in
theorem body_2_32 (w : World) (r : Rt) (hr : RtOk r) (hf : RightF r) (hk : r.k = 2) (hpn : r.pn = 32) (hnb : 4 ≤ nb r.v6) : Calls Tryz.prog 196 #[.agg (rtc r).toArray] w fun e w' => ∃ v, e = .returned v ∧ OwnB w.heap.size w' v (bodyR r) ∧ Below w.heap.size w w' := by
  have HR := Lib.hid hr
  have H1 := Lib.hid ((RtAt.new w r hr 53).keep (w' := (w.alloc (.cells (rtc r).toArray 53)).drew) rfl)
  have HB1 := Lib.hid (below_drewN ((Below.refl w.heap.size w).alloc (Nat.le_refl _) (.cells (rtc r).toArray 53)) 1)
  have HN4 : Hid (∀ W, Calls Tryz.prog 220 #[.int .u32 r.tg, .int .i64 4] W fun e W' => ∃ A c, e = .returned (.slice A 4 c) ∧ Rd W' W'.heap.size A 4 (be 4 r.tg) ∧ Below W.heap.size W W') := Lib.hid (fun W => (numb_is W r.tg 4 hr.tg (by omega) (by omega) (be4_fit hr.tg)).mono (by
    rintro e W' ⟨A, c, rfl, _, h2, h3⟩
    exact ⟨A, c, rfl, h2, h3⟩))
  have HN3 : Hid (∀ W, Calls Tryz.prog 220 #[.int .u32 r.lb, .int .i64 3] W fun e W' => ∃ A c, e = .returned (.slice A 3 c) ∧ Rd W' W'.heap.size A 3 (be 3 r.lb) ∧ Below W.heap.size W W') := Lib.hid (fun W => (numb_is W r.lb 3 hr.lb (by omega) (by omega) (by have := hf.lb.2; omega)).mono (by
    rintro e W' ⟨A, c, rfl, _, h2, h3⟩
    exact ⟨A, c, rfl, h2, h3⟩))
  have HAd : Hid (∀ W, Calls Tryz.prog 221 #[.agg (ipc r.v6 r.pl).toArray] W fun e W' => ∃ A, e = .returned (.slice A (nb r.v6) 16) ∧ Rd W' W'.heap.size A (nb r.v6) (r.pl.take (nb r.v6)) ∧ Below W.heap.size W W') := Lib.hid (fun W => addr_at W r.v6 r.pl hr.pl hr.opl)
  have hs8 : ∀ W, (Instr.sliceAt 45 (.pointer (some ⟨w.heap.size, 1, none⟩)) none none none).run Tryz.prog W = .ok (.slice (some ⟨w.heap.size, 1, none⟩) 8 8) W := fun W => by go_simp
  have hs10 : ∀ W, (Instr.sliceAt 47 (.pointer (some ⟨w.heap.size, 9, none⟩)) none none none).run Tryz.prog W = .ok (.slice (some ⟨w.heap.size, 9, none⟩) 10 10) W := fun W => by go_simp
  have HSc : Hid (∀ W, Calls Tryz.prog 222 #[.int .u32 r.l2] W (Bts W (sec r.l2))) := Lib.hid (fun W => second_is W r.l2 hf.l2)
  have hs6 : ∀ W, (Instr.sliceAt 49 (.pointer (some ⟨w.heap.size, 20, none⟩)) none none none).run Tryz.prog W = .ok (.slice (some ⟨w.heap.size, 20, none⟩) 6 6) W := fun W => by go_simp
  have HCut : Hid (∀ W A, Rd W W.heap.size A (nb r.v6) (r.pl.take (nb r.v6)) → Rd W W.heap.size A 4 (r.pl.take 4)) := Lib.hid (fun W A h => by
    have hle : 4 ≤ nb r.v6 := by have := hnb; omega
    have hh := h.cut (c := 16) (k := 0) (m := 4) (by omega) (nb_le16 r.v6)
    simp only [List.drop_zero, List.take_take, Nat.min_eq_left hle] at hh
    have e : (if 16 = 0 then A else A.map (fun x => x.add 0)) = A := by
      rw [if_neg (by omega)]
      cases A with
      | none => rfl
      | some a => simp [Addr.add]
    rwa [e] at hh)
  have HF : Hid (([r.rd, r.es, be 4 r.tg, [48], r.mc, [r.pn % 256], r.pl.take 4, be 3 r.lb, sec r.l2] : List (List Int)).flatten = bodyR r) := Lib.hid (by unfold bodyR; rw [if_neg (by omega)]; rw [if_pos hk]; rw [show (r.pn / 8).toNat = 4 by rw [hpn]; rfl]; simp)
  have HLen : Hid ((bodyR r).length ≤ 140737488355328) := Lib.hid (by rw [← HF.out]; simp [be_len, hr.rd, hr.es, hr.pl, hr.mc]; unfold sec; split <;> simp [be_len] <;> omega)
  have e1 : (r.k == 1) = false := by rw [beq_eq_false_iff_ne]; omega
  have e2 : (r.k == 2) = true := by rw [beq_iff_eq]; omega
  have HPN := Lib.hid hpn
  clear hk hpn hnb
  clear hr hf
  go_enter Tryz.func196, Tryz.ntmps196
  go_wp2
  refine wp_region_held_drew (S := fun W => RtAt W w.heap.size r) (by kernel_rfl) (H1.out) (fun hS => ?_)
  refine wpAnyH_take (i := 0) (oi := ⟨some 9, _, _, _, _, _⟩) (v := ?_) rfl (by kernel_rfl) (by kernel_rfl) (by kernel_rfl) (fun _ _ _ h => h) (Or.inl ⟨by rfl, ?_⟩) hS ?_
  rotate_left
  · intro wq hq
    first | (go_simp; done) | (go_simp; rfl)
  try simp only [Act.put, List.setIfInBounds_toArray, List.set_cons_zero, List.set_cons_succ]
  refine wpAnyH_take (i := 1) (oi := ⟨some 10, _, _, _, _, _⟩) (v := ?_) rfl (by kernel_rfl) (by kernel_rfl) (by kernel_rfl) (fun _ _ _ h => h) (Or.inl ⟨by rfl, ?_⟩) hS ?_
  rotate_left
  · intro wq hq
    first | (go_simp; done) | (go_simp; rfl)
  try simp only [Act.put, List.setIfInBounds_toArray, List.set_cons_zero, List.set_cons_succ]
  refine wpAnyH_take (i := 2) (oi := ⟨some 11, _, _, _, _, _⟩) (v := ?_) rfl (by kernel_rfl) (by kernel_rfl) (by kernel_rfl) (fun _ _ _ h => h) (Or.inl ⟨by rfl, ?_⟩) hS ?_
  rotate_left
  · intro wq hq
    first | (go_simp; done) | (go_simp; rfl)
  try simp only [Act.put, List.setIfInBounds_toArray, List.set_cons_zero, List.set_cons_succ]
  refine wpAnyH_take (i := 3) (oi := ⟨some 12, _, _, _, _, _⟩) (v := ?_) rfl (by kernel_rfl) (by kernel_rfl) (by kernel_rfl) (fun _ _ _ h => h) (Or.inl ⟨by rfl, ?_⟩) hS ?_
  rotate_left
  · intro wq hq
    first | (go_simp; done) | (go_simp; rfl)
  try simp only [Act.put, List.setIfInBounds_toArray, List.set_cons_zero, List.set_cons_succ]
  refine wpAnyH_take (i := 4) (oi := ⟨some 3, _, _, _, _, _⟩) (v := ?_) rfl (by kernel_rfl) (by kernel_rfl) (by kernel_rfl) (fun _ _ _ h => h) (Or.inl ⟨by rfl, ?_⟩) hS ?_
  rotate_left
  · intro wq hq
    first | (go_simp; done) | (go_simp; rfl)
  try simp only [Act.put, List.setIfInBounds_toArray, List.set_cons_zero, List.set_cons_succ]
  refine wpAnyH_take (i := 5) (oi := ⟨some 4, _, _, _, _, _⟩) (v := ?_) rfl (by kernel_rfl) (by kernel_rfl) (by kernel_rfl) (fun _ _ _ h => h) (Or.inl ⟨by rfl, ?_⟩) hS ?_
  rotate_left
  · intro wq hq
    first | (go_simp; done) | (go_simp; rfl)
  try simp only [Act.put, List.setIfInBounds_toArray, List.set_cons_zero, List.set_cons_succ]
  refine wpAnyH_done (by kernel_rfl) ?_ _
  clear hS hs8 hs10
  go_wp2_with fail
  have HW1 := Lib.hid (show RtAt ((w.alloc (.cells (rtc r).toArray 53)).drew) w.heap.size r ∧ Below w.heap.size w ((w.alloc (.cells (rtc r).toArray 53)).drew) from ⟨H1.out, HB1.out⟩)
  clear H1 HB1
  generalize (w.alloc (.cells (rtc r).toArray 53)).drew = W1 at *
  go_cut [5, 6] (fun s5 s6 wx => CutA w r s5 s6 wx)
  case first =>
    refine wp_region_held_drew (S := fun W => RtAt W w.heap.size r ∧ Below w.heap.size w W) (by kernel_rfl) (⟨HW1.out.1.keep rfl, below_drewN HW1.out.2 1⟩) (fun hS => ?_)
    refine wpAnyH_take (i := 0) (oi := ⟨some 13, _, _, _, _, _⟩) (v := ?_) rfl (by kernel_rfl) (by kernel_rfl) (by kernel_rfl) (fun _ _ _ h => h) (Or.inl ⟨by rfl, ?_⟩) hS ?_
    rotate_left
    · intro wq hq
      first | (go_simp; done) | (go_simp; rfl)
    try simp only [Act.put, List.setIfInBounds_toArray, List.set_cons_zero, List.set_cons_succ]
    refine wpAnyH_take (i := 1) (oi := ⟨some 14, _, _, _, _, _⟩) (v := ?_) rfl (by kernel_rfl) (by kernel_rfl) (by kernel_rfl) (fun _ _ _ h => h) (Or.inl ⟨by rfl, ?_⟩) hS ?_
    rotate_left
    · intro wq hq
      have hc := hq.1.cTg HR.out
      first | (go_simp; done) | (go_simp; rfl)
    try simp only [Act.put, List.setIfInBounds_toArray, List.set_cons_zero, List.set_cons_succ]
    refine wpAnyH_take (i := 3) (oi := ⟨some 16, _, _, _, _, _⟩) (v := ?_) rfl (by kernel_rfl) (by kernel_rfl) (by kernel_rfl) (fun _ _ _ h => h) (Or.inl ⟨by rfl, ?_⟩) hS ?_
    rotate_left
    · intro wq hq
      first | (go_simp; done) | (go_simp; rfl)
    try simp only [Act.put, List.setIfInBounds_toArray, List.set_cons_zero, List.set_cons_succ]
    refine wpAnyH_take (i := 4) (oi := ⟨some 17, _, _, _, _, _⟩) (v := ?_) rfl (by kernel_rfl) (by kernel_rfl) (by kernel_rfl) (fun _ _ _ h => h) (Or.inl ⟨by rfl, ?_⟩) hS ?_
    rotate_left
    · intro wq hq
      have hc := hq.1.cLb HR.out
      first | (go_simp; done) | (go_simp; rfl)
    try simp only [Act.put, List.setIfInBounds_toArray, List.set_cons_zero, List.set_cons_succ]
    refine wpAnyH_ready (rs := [2]) (by kernel_rfl) (by simp) ?_
    refine AllReadyH.cons (o := ⟨some 15, _, _, _, _, _⟩) rfl (fun K hK => ?_) AllReadyH.nil
    rw [if_pos (by rfl)]
    go_wp2_with fail
    refine (HN4.out _).mono ?_
    rintro e w2 ⟨A5, c5, rfl, hr5, hB5⟩
    have hS2 : RtAt w2 w.heap.size r ∧ Below w.heap.size w w2 := ⟨hS.1.below hB5 hS.1.lt, hS.2.trans (hB5.mono hS.2.size)⟩
    refine hK.out _ _ (hS2) (fun hS => ?_)
    clear hK K
    try simp only [Act.put, List.setIfInBounds_toArray, List.set_cons_zero, List.set_cons_succ]
    refine wpAnyH_ready (rs := [5]) (by kernel_rfl) (by simp) ?_
    refine AllReadyH.cons (o := ⟨some 18, _, _, _, _, _⟩) rfl (fun K hK => ?_) AllReadyH.nil
    rw [if_pos (by rfl)]
    go_wp2_with fail
    refine (HN3.out _).mono ?_
    rintro e w3 ⟨A6, c6, rfl, hr6, hB6⟩
    have hS3 : RtAt w3 w.heap.size r ∧ Below w.heap.size w w3 := ⟨hS.1.below hB6 hS.1.lt, hS.2.trans (hB6.mono hS.2.size)⟩
    refine hK.out _ _ (hS3) (fun hS => ?_)
    clear hK K
    try simp only [Act.put, List.setIfInBounds_toArray, List.set_cons_zero, List.set_cons_succ]
    refine wpAnyH_take (i := 6) (oi := ⟨some 5, _, _, _, _, _⟩) (v := ?_) rfl (by kernel_rfl) (by kernel_rfl) (by kernel_rfl) (fun _ _ _ h => h) (Or.inl ⟨by rfl, ?_⟩) hS ?_
    rotate_left
    · intro wq hq
      first | (go_simp; done) | (go_simp; rfl)
    try simp only [Act.put, List.setIfInBounds_toArray, List.set_cons_zero, List.set_cons_succ]
    refine wpAnyH_take (i := 7) (oi := ⟨some 6, _, _, _, _, _⟩) (v := ?_) rfl (by kernel_rfl) (by kernel_rfl) (by kernel_rfl) (fun _ _ _ h => h) (Or.inl ⟨by rfl, ?_⟩) hS ?_
    rotate_left
    · intro wq hq
      first | (go_simp; done) | (go_simp; rfl)
    try simp only [Act.put, List.setIfInBounds_toArray, List.set_cons_zero, List.set_cons_succ]
    refine wpAnyH_done (by kernel_rfl) ?_ _
    go_wp2_with fail
    go_meet
    exact ⟨A5, c5, A6, c6, rfl, rfl, hS3.1, hS3.2, (hr5.below hB6).more hB6.size, hr6⟩
  case rest =>
    obtain ⟨A5, c5, A6, c6, rfl, rfl, hA⟩ := hcut
    have HA := Lib.hid (show BdA w wc.drew r A5 A6 from hA.below (below_drew wc))
    clear hA
    go_wp2_with fail
    go_cut [7, 8] (fun s7 s8 wx => CutB w r A5 A6 s7 s8 wx)
    case first =>
      refine wp_region_held_drew (S := fun W => BdA w W r A5 A6) (by kernel_rfl) (HA.out) (fun hS => ?_)
      refine wpAnyH_take (i := 0) (oi := ⟨some 19, _, _, _, _, _⟩) (v := ?_) rfl (by kernel_rfl) (by kernel_rfl) (by kernel_rfl) (fun _ _ _ h => h) (Or.inl ⟨by rfl, ?_⟩) hS ?_
      rotate_left
      · intro wq hq
        first | (go_simp; done) | (go_simp; rfl)
      try simp only [Act.put, List.setIfInBounds_toArray, List.set_cons_zero, List.set_cons_succ]
      refine wpAnyH_take (i := 1) (oi := ⟨some 20, _, _, _, _, _⟩) (v := ?_) rfl (by kernel_rfl) (by kernel_rfl) (by kernel_rfl) (fun _ _ _ h => h) (Or.inl ⟨by rfl, ?_⟩) hS ?_
      rotate_left
      · intro wq hq
        first | (go_simp; done) | (go_simp; rfl)
      try simp only [Act.put, List.setIfInBounds_toArray, List.set_cons_zero, List.set_cons_succ]
      refine wpAnyH_take (i := 2) (oi := ⟨some 21, _, _, _, _, _⟩) (v := ?_) rfl (by kernel_rfl) (by kernel_rfl) (by kernel_rfl) (fun _ _ _ h => h) (Or.inl ⟨by rfl, ?_⟩) hS ?_
      rotate_left
      · intro wq hq
        have hc := hq.src.cPn HR.out
        first | (go_simp; done) | (go_simp; rfl)
      try simp only [Act.put, List.setIfInBounds_toArray, List.set_cons_zero, List.set_cons_succ]
      refine wpAnyH_take (i := 3) (oi := ⟨some 22, _, _, _, _, _⟩) (v := ?_) rfl (by kernel_rfl) (by kernel_rfl) (by kernel_rfl) (fun _ _ _ h => h) (Or.inl ⟨by rfl, ?_⟩) hS ?_
      rotate_left
      · intro wq hq
        first | (go_simp; done) | (go_simp; rfl)
      try simp only [Act.put, List.setIfInBounds_toArray, List.set_cons_zero, List.set_cons_succ]
      refine wpAnyH_take (i := 5) (oi := ⟨some 24, _, _, _, _, _⟩) (v := ?_) rfl (by kernel_rfl) (by kernel_rfl) (by kernel_rfl) (fun _ _ _ h => h) (Or.inl ⟨by rfl, ?_⟩) hS ?_
      rotate_left
      · intro wq hq
        first | (go_simp; done) | (go_simp; rfl)
      try simp only [Act.put, List.setIfInBounds_toArray, List.set_cons_zero, List.set_cons_succ]
      refine wpAnyH_take (i := 6) (oi := ⟨some 25, _, _, _, _, _⟩) (v := ?_) rfl (by kernel_rfl) (by kernel_rfl) (by kernel_rfl) (fun _ _ _ h => h) (Or.inl ⟨by rfl, ?_⟩) hS ?_
      rotate_left
      · intro wq hq
        first | (go_simp; done) | (go_simp; rfl)
      try simp only [Act.put, List.setIfInBounds_toArray, List.set_cons_zero, List.set_cons_succ]
      refine wpAnyH_take (i := 7) (oi := ⟨some 26, _, _, _, _, _⟩) rfl (by kernel_rfl) (by kernel_rfl) (by kernel_rfl) (fun _ _ _ h => h) (yieldsIf_load_mid (by rfl) 27 _ rfl _ _ rfl (ipc r.v6 r.pl) _ (fun wq hq => hq.src.rIp HR.out) Tryz.underlying27 rfl (sz_ip HR.out)) hS ?_
      try simp only [Act.put, List.setIfInBounds_toArray, List.set_cons_zero, List.set_cons_succ]
      refine wpAnyH_ready (rs := [4, 8]) (by kernel_rfl) (by simp) ?_
      refine AllReadyH.cons (o := ⟨some 23, _, _, _, _, _⟩) rfl (fun K hK => ?_) (AllReadyH.cons (o := ⟨some 27, _, _, _, _, _⟩) rfl (fun K hK => ?_) AllReadyH.nil)
      · rw [if_pos (by rfl)]
        go_wp2
        have h7 := byt1_rd wc.drew (r.pn % 256) (Int.emod_nonneg _ (by decide)) (Int.emod_lt_of_pos _ (by decide))
        have hS2 := hS.below (below_one wc.drew (.cells #[.int .u8 (r.pn % 256)] 5))
        refine hK.out _ _ (hS2) (fun hS => ?_)
        clear hK K
        try simp only [Act.put, List.setIfInBounds_toArray, List.set_cons_zero, List.set_cons_succ]
        refine wpAnyH_ready (rs := [8]) (by kernel_rfl) (by simp) ?_
        refine AllReadyH.cons (o := ⟨some 27, _, _, _, _, _⟩) rfl (fun K hK => ?_) AllReadyH.nil
        rw [if_pos (by rfl)]
        go_wp2_with fail
        refine (HAd.out _).mono ?_
        rintro e w3 ⟨A8, rfl, hr8, hB8⟩
        have hS3 := hS.below hB8
        refine hK.out _ _ (hS3) (fun hS => ?_)
        clear hK K
        try simp only [Act.put, List.setIfInBounds_toArray, List.set_cons_zero, List.set_cons_succ]
        refine wpAnyH_take (i := 9) (oi := ⟨some 7, _, _, _, _, _⟩) (v := ?_) rfl (by kernel_rfl) (by kernel_rfl) (by kernel_rfl) (fun _ _ _ h => h) (Or.inl ⟨by rfl, ?_⟩) hS ?_
        rotate_left
        · intro wq hq
          first | (go_simp; done) | (go_simp; rfl)
        try simp only [Act.put, List.setIfInBounds_toArray, List.set_cons_zero, List.set_cons_succ]
        refine wpAnyH_take (i := 10) (oi := ⟨some 8, _, _, _, _, _⟩) (v := ?_) rfl (by kernel_rfl) (by kernel_rfl) (by kernel_rfl) (fun _ _ _ h => h) (Or.inl ⟨by rfl, ?_⟩) hS ?_
        rotate_left
        · intro wq hq
          first | (go_simp; done) | (go_simp; rfl)
        try simp only [Act.put, List.setIfInBounds_toArray, List.set_cons_zero, List.set_cons_succ]
        refine wpAnyH_done (by kernel_rfl) ?_ _
        go_wp2_with fail
        go_meet
        exact ⟨_, _, A8, rfl, rfl, hS3, (h7.below hB8).more hB8.size, hr8⟩
      · rw [if_pos (by rfl)]
        go_wp2_with fail
        refine (HAd.out _).mono ?_
        rintro e w2 ⟨A8, rfl, hr8, hB8⟩
        have hS2 := hS.below hB8
        refine hK.out _ _ (hS2) (fun hS => ?_)
        clear hK K
        try simp only [Act.put, List.setIfInBounds_toArray, List.set_cons_zero, List.set_cons_succ]
        refine wpAnyH_ready (rs := [4]) (by kernel_rfl) (by simp) ?_
        refine AllReadyH.cons (o := ⟨some 23, _, _, _, _, _⟩) rfl (fun K hK => ?_) AllReadyH.nil
        rw [if_pos (by rfl)]
        go_wp2
        have h7 := byt1_rd w2 (r.pn % 256) (Int.emod_nonneg _ (by decide)) (Int.emod_lt_of_pos _ (by decide))
        have hb1 := below_one w2 (.cells #[.int .u8 (r.pn % 256)] 5)
        have hS3 := hS.below hb1
        refine hK.out _ _ (hS3) (fun hS => ?_)
        clear hK K
        try simp only [Act.put, List.setIfInBounds_toArray, List.set_cons_zero, List.set_cons_succ]
        refine wpAnyH_take (i := 9) (oi := ⟨some 7, _, _, _, _, _⟩) (v := ?_) rfl (by kernel_rfl) (by kernel_rfl) (by kernel_rfl) (fun _ _ _ h => h) (Or.inl ⟨by rfl, ?_⟩) hS ?_
        rotate_left
        · intro wq hq
          first | (go_simp; done) | (go_simp; rfl)
        try simp only [Act.put, List.setIfInBounds_toArray, List.set_cons_zero, List.set_cons_succ]
        refine wpAnyH_take (i := 10) (oi := ⟨some 8, _, _, _, _, _⟩) (v := ?_) rfl (by kernel_rfl) (by kernel_rfl) (by kernel_rfl) (fun _ _ _ h => h) (Or.inl ⟨by rfl, ?_⟩) hS ?_
        rotate_left
        · intro wq hq
          first | (go_simp; done) | (go_simp; rfl)
        try simp only [Act.put, List.setIfInBounds_toArray, List.set_cons_zero, List.set_cons_succ]
        refine wpAnyH_done (by kernel_rfl) ?_ _
        go_wp2_with fail
        go_meet
        exact ⟨_, _, A8, rfl, rfl, hS3, h7, (hr8.below hb1).more hb1.size⟩
    case rest =>
      obtain ⟨A7, c7, A8, rfl, rfl, hB⟩ := hcut
      have cK := hB.src.cK
      have HBd := Lib.hid hB
      clear hB
      go_wp2_with fail
      refine wp_region_held_drew (S := fun W => BdB w W r A5 A6 A7 A8) (by kernel_rfl) (HBd.out.below (below_drew wc)) (fun hS => ?_)
      refine wpAnyH_take (i := 0) (oi := ⟨some 40, _, _, _, _, _⟩) (v := ?_) rfl (by kernel_rfl) (by kernel_rfl) (by kernel_rfl) (fun _ _ _ h => h) (Or.inl ⟨by rfl, ?_⟩) hS ?_
      rotate_left
      · intro wq hq
        first | (go_simp; done) | (go_simp; rfl)
      try simp only [Act.put, List.setIfInBounds_toArray, List.set_cons_zero, List.set_cons_succ]
      refine wpAnyH_take (i := 1) (oi := ⟨some 41, _, _, _, _, _⟩) (v := ?_) rfl (by kernel_rfl) (by kernel_rfl) (by kernel_rfl) (fun _ _ _ h => h) (Or.inl ⟨by rfl, ?_⟩) hS ?_
      rotate_left
      · intro wq hq
        first | (go_simp; done) | (go_simp; rfl)
      try simp only [Act.put, List.setIfInBounds_toArray, List.set_cons_zero, List.set_cons_succ]
      refine wpAnyH_take (i := 2) (oi := ⟨some 42, _, _, _, _, _⟩) (v := ?_) rfl (by kernel_rfl) (by kernel_rfl) (by kernel_rfl) (fun _ _ _ h => h) (Or.inl ⟨by rfl, ?_⟩) hS ?_
      rotate_left
      · intro wq hq
        first | (go_simp; done) | (go_simp; rfl)
      try simp only [Act.put, List.setIfInBounds_toArray, List.set_cons_zero, List.set_cons_succ]
      refine wpAnyH_take (i := 4) (oi := ⟨some 44, _, _, _, _, _⟩) (v := ?_) rfl (by kernel_rfl) (by kernel_rfl) (by kernel_rfl) (fun _ _ _ h => h) (Or.inl ⟨by rfl, ?_⟩) hS ?_
      rotate_left
      · intro wq hq
        first | (go_simp; done) | (go_simp; rfl)
      try simp only [Act.put, List.setIfInBounds_toArray, List.set_cons_zero, List.set_cons_succ]
      refine wpAnyH_take (i := 5) (oi := ⟨some 45, _, _, _, _, _⟩) (v := ?_) rfl (by kernel_rfl) (by kernel_rfl) (by kernel_rfl) (fun _ _ _ h => h) (Or.inl ⟨by rfl, ?_⟩) hS ?_
      rotate_left
      · intro wq hq
        first | (go_simp; done) | (go_simp; rfl)
      try simp only [Act.put, List.setIfInBounds_toArray, List.set_cons_zero, List.set_cons_succ]
      refine wpAnyH_take (i := 6) (oi := ⟨some 46, _, _, _, _, _⟩) (v := ?_) rfl (by kernel_rfl) (by kernel_rfl) (by kernel_rfl) (fun _ _ _ h => h) (Or.inl ⟨by rfl, ?_⟩) hS ?_
      rotate_left
      · intro wq hq
        first | (go_simp; done) | (go_simp; rfl)
      try simp only [Act.put, List.setIfInBounds_toArray, List.set_cons_zero, List.set_cons_succ]
      refine wpAnyH_take (i := 7) (oi := ⟨some 47, _, _, _, _, _⟩) (v := ?_) rfl (by kernel_rfl) (by kernel_rfl) (by kernel_rfl) (fun _ _ _ h => h) (Or.inl ⟨by rfl, ?_⟩) hS ?_
      rotate_left
      · intro wq hq
        first | (go_simp; done) | (go_simp; rfl)
      try simp only [Act.put, List.setIfInBounds_toArray, List.set_cons_zero, List.set_cons_succ]
      refine wpAnyH_take (i := 8) (oi := ⟨some 48, _, _, _, _, _⟩) (v := ?_) rfl (by kernel_rfl) (by kernel_rfl) (by kernel_rfl) (fun _ _ _ h => h) (Or.inl ⟨by rfl, ?_⟩) hS ?_
      rotate_left
      · intro wq hq
        first | (go_simp; done) | (go_simp; rfl)
      try simp only [Act.put, List.setIfInBounds_toArray, List.set_cons_zero, List.set_cons_succ]
      refine wpAnyH_take (i := 9) (oi := ⟨some 49, _, _, _, _, _⟩) (v := ?_) rfl (by kernel_rfl) (by kernel_rfl) (by kernel_rfl) (fun _ _ _ h => h) (Or.inl ⟨by rfl, ?_⟩) hS ?_
      rotate_left
      · intro wq hq
        first | (go_simp; done) | (go_simp; rfl)
      try simp only [Act.put, List.setIfInBounds_toArray, List.set_cons_zero, List.set_cons_succ]
      refine wpAnyH_take (i := 10) (oi := ⟨some 50, _, _, _, _, _⟩) (v := ?_) rfl (by kernel_rfl) (by kernel_rfl) (by kernel_rfl) (fun _ _ _ h => h) (Or.inl ⟨by rfl, ?_⟩) hS ?_
      rotate_left
      · intro wq hq
        have hc := hq.src.cPn HR.out; rw [HPN.out] at hc
        first | (go_simp; done) | (go_simp; rfl)
      try simp only [Act.put, List.setIfInBounds_toArray, List.set_cons_zero, List.set_cons_succ]
      refine wpAnyH_take (i := 11) (oi := ⟨some 51, _, _, _, _, _⟩) (v := ?_) rfl (by kernel_rfl) (by kernel_rfl) (by kernel_rfl) (fun _ _ _ h => h) (Or.inl ⟨by rfl, ?_⟩) hS ?_
      rotate_left
      · intro wq hq
        first | (go_simp; done) | (go_simp; rfl)
      try simp only [Act.put, List.setIfInBounds_toArray, List.set_cons_zero, List.set_cons_succ]
      refine wpAnyH_take (i := 12) (oi := ⟨some 52, _, _, _, _, _⟩) (v := ?_) rfl (by kernel_rfl) (by kernel_rfl) (by kernel_rfl) (fun _ _ _ h => h) (Or.inl ⟨by rfl, ?_⟩) hS ?_
      rotate_left
      · intro wq hq
        first | (go_simp; done) | (go_simp; rfl)
      try simp only [Act.put, List.setIfInBounds_toArray, List.set_cons_zero, List.set_cons_succ]
      refine wpAnyH_take (i := 13) (oi := ⟨some 53, _, _, _, _, _⟩) (v := ?_) rfl (by kernel_rfl) (by kernel_rfl) (by kernel_rfl) (fun _ _ _ h => h) (Or.inl ⟨by rfl, ?_⟩) hS ?_
      rotate_left
      · intro wq hq
        first | (go_simp; done) | (go_simp; rfl)
      try simp only [Act.put, List.setIfInBounds_toArray, List.set_cons_zero, List.set_cons_succ]
      refine wpAnyH_take (i := 14) (oi := ⟨some 54, _, _, _, _, _⟩) (v := ?_) rfl (by kernel_rfl) (by kernel_rfl) (by kernel_rfl) (fun _ _ _ h => h) (Or.inl ⟨by rfl, ?_⟩) hS ?_
      rotate_left
      · intro wq hq
        first | (go_simp; done) | (go_simp; rfl)
      try simp only [Act.put, List.setIfInBounds_toArray, List.set_cons_zero, List.set_cons_succ]
      refine wpAnyH_take (i := 15) (oi := ⟨some 55, _, _, _, _, _⟩) (v := ?_) rfl (by kernel_rfl) (by kernel_rfl) (by kernel_rfl) (fun _ _ _ h => h) (Or.inl ⟨by rfl, ?_⟩) hS ?_
      rotate_left
      · intro wq hq
        have hc := hq.src.cL2 HR.out
        first | (go_simp; done) | (go_simp; rfl)
      try simp only [Act.put, List.setIfInBounds_toArray, List.set_cons_zero, List.set_cons_succ]
      clear HBd
      generalize wc.drew = wd at *
      refine wpAnyH_ready (rs := [3, 16]) (by kernel_rfl) (by simp) ?_
      refine AllReadyH.cons (o := ⟨some 43, _, _, _, _, _⟩) rfl (fun K hK => ?_) (AllReadyH.cons (o := ⟨some 56, _, _, _, _, _⟩) rfl (fun K hK => ?_) AllReadyH.nil)
      · rw [if_pos (by rfl)]
        go_wp2
        have h48a := byt1_rd wd 48 (by omega) (by omega)
        have hS7 := hS.below (below_one wd (.cells #[.int .u8 48] 5))
        refine hK.out _ _ (hS7) (fun hS => ?_)
        clear hK K
        try simp only [Act.put, List.setIfInBounds_toArray, List.set_cons_zero, List.set_cons_succ]
        refine wpAnyH_ready (rs := [16]) (by kernel_rfl) (by simp) ?_
        refine AllReadyH.cons (o := ⟨some 56, _, _, _, _, _⟩) rfl (fun K hK => ?_) AllReadyH.nil
        rw [if_pos (by rfl)]
        go_wp2_with fail
        refine (HSc.out _).mono ?_
        rintro e w8 ⟨A10, c10, rfl, _, hr10, hB10⟩
        have hS9 := hS7.below hB10
        have h48 := (h48a.below hB10).more hB10.size
        refine hK.out _ _ (hS9) (fun hS => ?_)
        clear hK K
        try simp only [Act.put, List.setIfInBounds_toArray, List.set_cons_zero, List.set_cons_succ]
        have HL : Hid (RdL (w8.alloc (.cells #[.slice (some ⟨w.heap.size, 1, none⟩) 8 8, .slice (some ⟨w.heap.size, 9, none⟩) 10 10, .slice A5 4 c5, .slice (some ⟨wd.heap.size, 0, none⟩) 1 1, .slice (some ⟨w.heap.size, 20, none⟩) 6 6, .slice A7 1 c7, .slice A8 4 16, .slice A6 3 c6, .slice A10 (sec r.l2).length c10] 38)) (w8.alloc (.cells #[.slice (some ⟨w.heap.size, 1, none⟩) 8 8, .slice (some ⟨w.heap.size, 9, none⟩) 10 10, .slice A5 4 c5, .slice (some ⟨wd.heap.size, 0, none⟩) 1 1, .slice (some ⟨w.heap.size, 20, none⟩) 6 6, .slice A7 1 c7, .slice A8 4 16, .slice A6 3 c6, .slice A10 (sec r.l2).length c10] 38)).heap.size (some ⟨w8.heap.size, 0, none⟩) 9 [r.rd, r.es, be 4 r.tg, [48], r.mc, [r.pn % 256], r.pl.take 4, be 3 r.lb, sec r.l2]) := Lib.hid (rdl_new_at (W := w8) (vs := [(some ⟨w.heap.size, 1, none⟩, 8, 8), (some ⟨w.heap.size, 9, none⟩, 10, 10), (A5, 4, c5), (some ⟨wd.heap.size, 0, none⟩, 1, 1), (some ⟨w.heap.size, 20, none⟩, 6, 6), (A7, 1, c7), (A8, 4, 16), (A6, 3, c6), (A10, (sec r.l2).length, c10)]) (ls := [r.rd, r.es, be 4 r.tg, [48], r.mc, [r.pn % 256], r.pl.take 4, be 3 r.lb, sec r.l2]) ⟨hS9.src.sRd HR.out hS9.src.lt, hS9.src.sEs HR.out hS9.src.lt, hS9.r5, h48, hS9.src.sMc HR.out hS9.src.lt, hS9.r7, HCut.out _ _ hS9.r8, hS9.r6, hr10, trivial⟩ 38 _ rfl _ (by simp))
        have hlow := hS9.low
        refine wpAnyH_ready (rs := [17]) (by kernel_rfl) (by simp) ?_
        refine AllReadyH.cons (o := ⟨some 57, _, _, _, _, _⟩) rfl (fun K hK => ?_) AllReadyH.nil
        rw [if_pos (by rfl)]
        go_wp2
        have hS10 := hS9.below (below_one w8 (.cells #[.slice (some ⟨w.heap.size, 1, none⟩) 8 8, .slice (some ⟨w.heap.size, 9, none⟩) 10 10, .slice A5 4 c5, .slice (some ⟨wd.heap.size, 0, none⟩) 1 1, .slice (some ⟨w.heap.size, 20, none⟩) 6 6, .slice A7 1 c7, .slice A8 4 16, .slice A6 3 c6, .slice A10 (sec r.l2).length c10] 38))
        refine hK.out _ _ (hS10) (fun hS => ?_)
        clear hK K
        try simp only [Act.put, List.setIfInBounds_toArray, List.set_cons_zero, List.set_cons_succ]
        refine wpAnyH_ready (rs := [18]) (by kernel_rfl) (by simp) ?_
        refine AllReadyH.cons (o := ⟨some 58, _, _, _, _, _⟩) rfl (fun K hK => ?_) AllReadyH.nil
        rw [if_pos (by rfl)]
        go_wp2_with fail
        refine (concat_is _ _ 9 9 _ HL.out (by omega) (by rw [HF.out]; exact HLen.out)).mono ?_
        rintro e w9 ⟨v, rfl, hO, hB9⟩
        have hS11 := hS10.below hB9
        have HEnd := Lib.hid (show OwnB w.heap.size w9 v (bodyR r) ∧ Below w.heap.size w w9 from ⟨by rw [← HF.out]; exact hO.low (by have := hlow.size; simp at this ⊢; omega), hS11.low⟩)
        refine hK.out _ _ (hS11) (fun hS => ?_)
        clear hK K
        try simp only [Act.put, List.setIfInBounds_toArray, List.set_cons_zero, List.set_cons_succ]
        refine wpAnyH_take (i := 19) (oi := ⟨some 2, _, _, _, _, _⟩) (v := ?_) rfl (by kernel_rfl) (by kernel_rfl) (by kernel_rfl) (fun _ _ _ h => h) (Or.inl ⟨by rfl, ?_⟩) hS ?_
        rotate_left
        · intro wq hq
          first | (go_simp; done) | (go_simp; rfl)
        try simp only [Act.put, List.setIfInBounds_toArray, List.set_cons_zero, List.set_cons_succ]
        refine wpAnyH_done (by kernel_rfl) ?_ _
        clear hS hS9 hS10 hS11 hO hB9 HL
        go_wp2
        go_ret
        exact ⟨v, rfl, HEnd.out.1, HEnd.out.2⟩
      · rw [if_pos (by rfl)]
        go_wp2_with fail
        refine (HSc.out _).mono ?_
        rintro e w8 ⟨A10, c10, rfl, _, hr10a, hB10⟩
        have hS8 := hS.below hB10
        refine hK.out _ _ (hS8) (fun hS => ?_)
        clear hK K
        try simp only [Act.put, List.setIfInBounds_toArray, List.set_cons_zero, List.set_cons_succ]
        refine wpAnyH_ready (rs := [3]) (by kernel_rfl) (by simp) ?_
        refine AllReadyH.cons (o := ⟨some 43, _, _, _, _, _⟩) rfl (fun K hK => ?_) AllReadyH.nil
        rw [if_pos (by rfl)]
        go_wp2
        have h48 := byt1_rd w8 48 (by omega) (by omega)
        have hb1 := below_one w8 (.cells #[.int .u8 48] 5)
        have hS9 := hS8.below hb1
        have hr10 := (hr10a.below hb1).more hb1.size
        refine hK.out _ _ (hS9) (fun hS => ?_)
        clear hK K
        try simp only [Act.put, List.setIfInBounds_toArray, List.set_cons_zero, List.set_cons_succ]
        have HL : Hid (RdL ((w8.alloc (.cells #[.int .u8 48] 5)).alloc (.cells #[.slice (some ⟨w.heap.size, 1, none⟩) 8 8, .slice (some ⟨w.heap.size, 9, none⟩) 10 10, .slice A5 4 c5, .slice (some ⟨w8.heap.size, 0, none⟩) 1 1, .slice (some ⟨w.heap.size, 20, none⟩) 6 6, .slice A7 1 c7, .slice A8 4 16, .slice A6 3 c6, .slice A10 (sec r.l2).length c10] 38)) ((w8.alloc (.cells #[.int .u8 48] 5)).alloc (.cells #[.slice (some ⟨w.heap.size, 1, none⟩) 8 8, .slice (some ⟨w.heap.size, 9, none⟩) 10 10, .slice A5 4 c5, .slice (some ⟨w8.heap.size, 0, none⟩) 1 1, .slice (some ⟨w.heap.size, 20, none⟩) 6 6, .slice A7 1 c7, .slice A8 4 16, .slice A6 3 c6, .slice A10 (sec r.l2).length c10] 38)).heap.size (some ⟨w8.heap.size + 1, 0, none⟩) 9 [r.rd, r.es, be 4 r.tg, [48], r.mc, [r.pn % 256], r.pl.take 4, be 3 r.lb, sec r.l2]) := Lib.hid (rdl_new_at (W := (w8.alloc (.cells #[.int .u8 48] 5))) (vs := [(some ⟨w.heap.size, 1, none⟩, 8, 8), (some ⟨w.heap.size, 9, none⟩, 10, 10), (A5, 4, c5), (some ⟨w8.heap.size, 0, none⟩, 1, 1), (some ⟨w.heap.size, 20, none⟩, 6, 6), (A7, 1, c7), (A8, 4, 16), (A6, 3, c6), (A10, (sec r.l2).length, c10)]) (ls := [r.rd, r.es, be 4 r.tg, [48], r.mc, [r.pn % 256], r.pl.take 4, be 3 r.lb, sec r.l2]) ⟨hS9.src.sRd HR.out hS9.src.lt, hS9.src.sEs HR.out hS9.src.lt, hS9.r5, h48, hS9.src.sMc HR.out hS9.src.lt, hS9.r7, HCut.out _ _ hS9.r8, hS9.r6, hr10, trivial⟩ 38 _ rfl _ (by simp))
        have hlow := hS9.low
        refine wpAnyH_ready (rs := [17]) (by kernel_rfl) (by simp) ?_
        refine AllReadyH.cons (o := ⟨some 57, _, _, _, _, _⟩) rfl (fun K hK => ?_) AllReadyH.nil
        rw [if_pos (by rfl)]
        go_wp2
        have hS10 := hS9.below (below_one (w8.alloc (.cells #[.int .u8 48] 5)) (.cells #[.slice (some ⟨w.heap.size, 1, none⟩) 8 8, .slice (some ⟨w.heap.size, 9, none⟩) 10 10, .slice A5 4 c5, .slice (some ⟨w8.heap.size, 0, none⟩) 1 1, .slice (some ⟨w.heap.size, 20, none⟩) 6 6, .slice A7 1 c7, .slice A8 4 16, .slice A6 3 c6, .slice A10 (sec r.l2).length c10] 38))
        refine hK.out _ _ (hS10) (fun hS => ?_)
        clear hK K
        try simp only [Act.put, List.setIfInBounds_toArray, List.set_cons_zero, List.set_cons_succ]
        refine wpAnyH_ready (rs := [18]) (by kernel_rfl) (by simp) ?_
        refine AllReadyH.cons (o := ⟨some 58, _, _, _, _, _⟩) rfl (fun K hK => ?_) AllReadyH.nil
        rw [if_pos (by rfl)]
        go_wp2_with fail
        refine (concat_is _ _ 9 9 _ HL.out (by omega) (by rw [HF.out]; exact HLen.out)).mono ?_
        rintro e w9 ⟨v, rfl, hO, hB9⟩
        have hS11 := hS10.below hB9
        have HEnd := Lib.hid (show OwnB w.heap.size w9 v (bodyR r) ∧ Below w.heap.size w w9 from ⟨by rw [← HF.out]; exact hO.low (by have := hlow.size; simp at this ⊢; omega), hS11.low⟩)
        refine hK.out _ _ (hS11) (fun hS => ?_)
        clear hK K
        try simp only [Act.put, List.setIfInBounds_toArray, List.set_cons_zero, List.set_cons_succ]
        refine wpAnyH_take (i := 19) (oi := ⟨some 2, _, _, _, _, _⟩) (v := ?_) rfl (by kernel_rfl) (by kernel_rfl) (by kernel_rfl) (fun _ _ _ h => h) (Or.inl ⟨by rfl, ?_⟩) hS ?_
        rotate_left
        · intro wq hq
          first | (go_simp; done) | (go_simp; rfl)
        try simp only [Act.put, List.setIfInBounds_toArray, List.set_cons_zero, List.set_cons_succ]
        refine wpAnyH_done (by kernel_rfl) ?_ _
        clear hS hS9 hS10 hS11 hO hB9 HL
        go_wp2
        go_ret
        exact ⟨v, rfl, HEnd.out.1, HEnd.out.2⟩

end Go.Proofs.YtdgoeibfggjbmaaGreatDoor
namespace Go.Proofs.YtdgoeibfggjbmaaGreatDoor
open Go.RowKit
set_option maxRecDepth 100000
set_option linter.unusedSimpArgs false
set_option linter.unusedVariables false


set_option maxHeartbeats 4000000 in
set_option maxRecDepth 100000 in
theorem body_2_128 (w : World) (r : Rt) (hr : RtOk r) (hf : RightF r) (hk : r.k = 2) (hpn : r.pn = 128) (hnb : 16 ≤ nb r.v6) : Calls Tryz.prog 196 #[.agg (rtc r).toArray] w fun e w' => ∃ v, e = .returned v ∧ OwnB w.heap.size w' v (bodyR r) ∧ Below w.heap.size w w' := by
  have HR := Lib.hid hr
  have H1 := Lib.hid ((RtAt.new w r hr 53).keep (w' := (w.alloc (.cells (rtc r).toArray 53)).drew) rfl)
  have HB1 := Lib.hid (below_drewN ((Below.refl w.heap.size w).alloc (Nat.le_refl _) (.cells (rtc r).toArray 53)) 1)
  have HN4 : Hid (∀ W, Calls Tryz.prog 220 #[.int .u32 r.tg, .int .i64 4] W fun e W' => ∃ A c, e = .returned (.slice A 4 c) ∧ Rd W' W'.heap.size A 4 (be 4 r.tg) ∧ Below W.heap.size W W') := Lib.hid (fun W => (numb_is W r.tg 4 hr.tg (by omega) (by omega) (be4_fit hr.tg)).mono (by
    rintro e W' ⟨A, c, rfl, _, h2, h3⟩
    exact ⟨A, c, rfl, h2, h3⟩))
  have HN3 : Hid (∀ W, Calls Tryz.prog 220 #[.int .u32 r.lb, .int .i64 3] W fun e W' => ∃ A c, e = .returned (.slice A 3 c) ∧ Rd W' W'.heap.size A 3 (be 3 r.lb) ∧ Below W.heap.size W W') := Lib.hid (fun W => (numb_is W r.lb 3 hr.lb (by omega) (by omega) (by have := hf.lb.2; omega)).mono (by
    rintro e W' ⟨A, c, rfl, _, h2, h3⟩
    exact ⟨A, c, rfl, h2, h3⟩))
  have HAd : Hid (∀ W, Calls Tryz.prog 221 #[.agg (ipc r.v6 r.pl).toArray] W fun e W' => ∃ A, e = .returned (.slice A (nb r.v6) 16) ∧ Rd W' W'.heap.size A (nb r.v6) (r.pl.take (nb r.v6)) ∧ Below W.heap.size W W') := Lib.hid (fun W => addr_at W r.v6 r.pl hr.pl hr.opl)
  have hs8 : ∀ W, (Instr.sliceAt 45 (.pointer (some ⟨w.heap.size, 1, none⟩)) none none none).run Tryz.prog W = .ok (.slice (some ⟨w.heap.size, 1, none⟩) 8 8) W := fun W => by go_simp
  have hs10 : ∀ W, (Instr.sliceAt 47 (.pointer (some ⟨w.heap.size, 9, none⟩)) none none none).run Tryz.prog W = .ok (.slice (some ⟨w.heap.size, 9, none⟩) 10 10) W := fun W => by go_simp
  have HSc : Hid (∀ W, Calls Tryz.prog 222 #[.int .u32 r.l2] W (Bts W (sec r.l2))) := Lib.hid (fun W => second_is W r.l2 hf.l2)
  have hs6 : ∀ W, (Instr.sliceAt 49 (.pointer (some ⟨w.heap.size, 20, none⟩)) none none none).run Tryz.prog W = .ok (.slice (some ⟨w.heap.size, 20, none⟩) 6 6) W := fun W => by go_simp
  have HCut : Hid (∀ W A, Rd W W.heap.size A (nb r.v6) (r.pl.take (nb r.v6)) → Rd W W.heap.size A 16 (r.pl.take 16)) := Lib.hid (fun W A h => by
    have hle : 16 ≤ nb r.v6 := by have := hnb; omega
    have hh := h.cut (c := 16) (k := 0) (m := 16) (by omega) (nb_le16 r.v6)
    simp only [List.drop_zero, List.take_take, Nat.min_eq_left hle] at hh
    have e : (if 16 = 0 then A else A.map (fun x => x.add 0)) = A := by
      rw [if_neg (by omega)]
      cases A with
      | none => rfl
      | some a => simp [Addr.add]
    rwa [e] at hh)
  have HF : Hid (([r.rd, r.es, be 4 r.tg, [48], r.mc, [r.pn % 256], r.pl.take 16, be 3 r.lb, sec r.l2] : List (List Int)).flatten = bodyR r) := Lib.hid (by unfold bodyR; rw [if_neg (by omega)]; rw [if_pos hk]; rw [show (r.pn / 8).toNat = 16 by rw [hpn]; rfl]; simp)
  have HLen : Hid ((bodyR r).length ≤ 140737488355328) := Lib.hid (by rw [← HF.out]; simp [be_len, hr.rd, hr.es, hr.pl, hr.mc]; unfold sec; split <;> simp [be_len] <;> omega)
  have e1 : (r.k == 1) = false := by rw [beq_eq_false_iff_ne]; omega
  have e2 : (r.k == 2) = true := by rw [beq_iff_eq]; omega
  have HPN := Lib.hid hpn
  clear hk hpn hnb
  clear hr hf
  go_enter Tryz.func196, Tryz.ntmps196
  go_wp2
  refine wp_region_held_drew (S := fun W => RtAt W w.heap.size r) (by kernel_rfl) (H1.out) (fun hS => ?_)
  refine wpAnyH_take (i := 0) (oi := ⟨some 9, _, _, _, _, _⟩) (v := ?_) rfl (by kernel_rfl) (by kernel_rfl) (by kernel_rfl) (fun _ _ _ h => h) (Or.inl ⟨by rfl, ?_⟩) hS ?_
  rotate_left
  · intro wq hq
    first | (go_simp; done) | (go_simp; rfl)
  try simp only [Act.put, List.setIfInBounds_toArray, List.set_cons_zero, List.set_cons_succ]
  refine wpAnyH_take (i := 1) (oi := ⟨some 10, _, _, _, _, _⟩) (v := ?_) rfl (by kernel_rfl) (by kernel_rfl) (by kernel_rfl) (fun _ _ _ h => h) (Or.inl ⟨by rfl, ?_⟩) hS ?_
  rotate_left
  · intro wq hq
    first | (go_simp; done) | (go_simp; rfl)
  try simp only [Act.put, List.setIfInBounds_toArray, List.set_cons_zero, List.set_cons_succ]
  refine wpAnyH_take (i := 2) (oi := ⟨some 11, _, _, _, _, _⟩) (v := ?_) rfl (by kernel_rfl) (by kernel_rfl) (by kernel_rfl) (fun _ _ _ h => h) (Or.inl ⟨by rfl, ?_⟩) hS ?_
  rotate_left
  · intro wq hq
    first | (go_simp; done) | (go_simp; rfl)
  try simp only [Act.put, List.setIfInBounds_toArray, List.set_cons_zero, List.set_cons_succ]
  refine wpAnyH_take (i := 3) (oi := ⟨some 12, _, _, _, _, _⟩) (v := ?_) rfl (by kernel_rfl) (by kernel_rfl) (by kernel_rfl) (fun _ _ _ h => h) (Or.inl ⟨by rfl, ?_⟩) hS ?_
  rotate_left
  · intro wq hq
    first | (go_simp; done) | (go_simp; rfl)
  try simp only [Act.put, List.setIfInBounds_toArray, List.set_cons_zero, List.set_cons_succ]
  refine wpAnyH_take (i := 4) (oi := ⟨some 3, _, _, _, _, _⟩) (v := ?_) rfl (by kernel_rfl) (by kernel_rfl) (by kernel_rfl) (fun _ _ _ h => h) (Or.inl ⟨by rfl, ?_⟩) hS ?_
  rotate_left
  · intro wq hq
    first | (go_simp; done) | (go_simp; rfl)
  try simp only [Act.put, List.setIfInBounds_toArray, List.set_cons_zero, List.set_cons_succ]
  refine wpAnyH_take (i := 5) (oi := ⟨some 4, _, _, _, _, _⟩) (v := ?_) rfl (by kernel_rfl) (by kernel_rfl) (by kernel_rfl) (fun _ _ _ h => h) (Or.inl ⟨by rfl, ?_⟩) hS ?_
  rotate_left
  · intro wq hq
    first | (go_simp; done) | (go_simp; rfl)
  try simp only [Act.put, List.setIfInBounds_toArray, List.set_cons_zero, List.set_cons_succ]
  refine wpAnyH_done (by kernel_rfl) ?_ _
  clear hS hs8 hs10
  go_wp2_with fail
  have HW1 := Lib.hid (show RtAt ((w.alloc (.cells (rtc r).toArray 53)).drew) w.heap.size r ∧ Below w.heap.size w ((w.alloc (.cells (rtc r).toArray 53)).drew) from ⟨H1.out, HB1.out⟩)
  clear H1 HB1
  generalize (w.alloc (.cells (rtc r).toArray 53)).drew = W1 at *
  go_cut [5, 6] (fun s5 s6 wx => CutA w r s5 s6 wx)
  case first =>
    refine wp_region_held_drew (S := fun W => RtAt W w.heap.size r ∧ Below w.heap.size w W) (by kernel_rfl) (⟨HW1.out.1.keep rfl, below_drewN HW1.out.2 1⟩) (fun hS => ?_)
    refine wpAnyH_take (i := 0) (oi := ⟨some 13, _, _, _, _, _⟩) (v := ?_) rfl (by kernel_rfl) (by kernel_rfl) (by kernel_rfl) (fun _ _ _ h => h) (Or.inl ⟨by rfl, ?_⟩) hS ?_
    rotate_left
    · intro wq hq
      first | (go_simp; done) | (go_simp; rfl)
    try simp only [Act.put, List.setIfInBounds_toArray, List.set_cons_zero, List.set_cons_succ]
    refine wpAnyH_take (i := 1) (oi := ⟨some 14, _, _, _, _, _⟩) (v := ?_) rfl (by kernel_rfl) (by kernel_rfl) (by kernel_rfl) (fun _ _ _ h => h) (Or.inl ⟨by rfl, ?_⟩) hS ?_
    rotate_left
    · intro wq hq
      have hc := hq.1.cTg HR.out
      first | (go_simp; done) | (go_simp; rfl)
    try simp only [Act.put, List.setIfInBounds_toArray, List.set_cons_zero, List.set_cons_succ]
    refine wpAnyH_take (i := 3) (oi := ⟨some 16, _, _, _, _, _⟩) (v := ?_) rfl (by kernel_rfl) (by kernel_rfl) (by kernel_rfl) (fun _ _ _ h => h) (Or.inl ⟨by rfl, ?_⟩) hS ?_
    rotate_left
    · intro wq hq
      first | (go_simp; done) | (go_simp; rfl)
    try simp only [Act.put, List.setIfInBounds_toArray, List.set_cons_zero, List.set_cons_succ]
    refine wpAnyH_take (i := 4) (oi := ⟨some 17, _, _, _, _, _⟩) (v := ?_) rfl (by kernel_rfl) (by kernel_rfl) (by kernel_rfl) (fun _ _ _ h => h) (Or.inl ⟨by rfl, ?_⟩) hS ?_
    rotate_left
    · intro wq hq
      have hc := hq.1.cLb HR.out
      first | (go_simp; done) | (go_simp; rfl)
    try simp only [Act.put, List.setIfInBounds_toArray, List.set_cons_zero, List.set_cons_succ]
    refine wpAnyH_ready (rs := [2]) (by kernel_rfl) (by simp) ?_
    refine AllReadyH.cons (o := ⟨some 15, _, _, _, _, _⟩) rfl (fun K hK => ?_) AllReadyH.nil
    rw [if_pos (by rfl)]
    go_wp2_with fail
    refine (HN4.out _).mono ?_
    rintro e w2 ⟨A5, c5, rfl, hr5, hB5⟩
    have hS2 : RtAt w2 w.heap.size r ∧ Below w.heap.size w w2 := ⟨hS.1.below hB5 hS.1.lt, hS.2.trans (hB5.mono hS.2.size)⟩
    refine hK.out _ _ (hS2) (fun hS => ?_)
    clear hK K
    try simp only [Act.put, List.setIfInBounds_toArray, List.set_cons_zero, List.set_cons_succ]
    refine wpAnyH_ready (rs := [5]) (by kernel_rfl) (by simp) ?_
    refine AllReadyH.cons (o := ⟨some 18, _, _, _, _, _⟩) rfl (fun K hK => ?_) AllReadyH.nil
    rw [if_pos (by rfl)]
    go_wp2_with fail
    refine (HN3.out _).mono ?_
    rintro e w3 ⟨A6, c6, rfl, hr6, hB6⟩
    have hS3 : RtAt w3 w.heap.size r ∧ Below w.heap.size w w3 := ⟨hS.1.below hB6 hS.1.lt, hS.2.trans (hB6.mono hS.2.size)⟩
    refine hK.out _ _ (hS3) (fun hS => ?_)
    clear hK K
    try simp only [Act.put, List.setIfInBounds_toArray, List.set_cons_zero, List.set_cons_succ]
    refine wpAnyH_take (i := 6) (oi := ⟨some 5, _, _, _, _, _⟩) (v := ?_) rfl (by kernel_rfl) (by kernel_rfl) (by kernel_rfl) (fun _ _ _ h => h) (Or.inl ⟨by rfl, ?_⟩) hS ?_
    rotate_left
    · intro wq hq
      first | (go_simp; done) | (go_simp; rfl)
    try simp only [Act.put, List.setIfInBounds_toArray, List.set_cons_zero, List.set_cons_succ]
    refine wpAnyH_take (i := 7) (oi := ⟨some 6, _, _, _, _, _⟩) (v := ?_) rfl (by kernel_rfl) (by kernel_rfl) (by kernel_rfl) (fun _ _ _ h => h) (Or.inl ⟨by rfl, ?_⟩) hS ?_
    rotate_left
    · intro wq hq
      first | (go_simp; done) | (go_simp; rfl)
    try simp only [Act.put, List.setIfInBounds_toArray, List.set_cons_zero, List.set_cons_succ]
    refine wpAnyH_done (by kernel_rfl) ?_ _
    go_wp2_with fail
    go_meet
    exact ⟨A5, c5, A6, c6, rfl, rfl, hS3.1, hS3.2, (hr5.below hB6).more hB6.size, hr6⟩
  case rest =>
    obtain ⟨A5, c5, A6, c6, rfl, rfl, hA⟩ := hcut
    have HA := Lib.hid (show BdA w wc.drew r A5 A6 from hA.below (below_drew wc))
    clear hA
    go_wp2_with fail
    go_cut [7, 8] (fun s7 s8 wx => CutB w r A5 A6 s7 s8 wx)
    case first =>
      refine wp_region_held_drew (S := fun W => BdA w W r A5 A6) (by kernel_rfl) (HA.out) (fun hS => ?_)
      refine wpAnyH_take (i := 0) (oi := ⟨some 19, _, _, _, _, _⟩) (v := ?_) rfl (by kernel_rfl) (by kernel_rfl) (by kernel_rfl) (fun _ _ _ h => h) (Or.inl ⟨by rfl, ?_⟩) hS ?_
      rotate_left
      · intro wq hq
        first | (go_simp; done) | (go_simp; rfl)
      try simp only [Act.put, List.setIfInBounds_toArray, List.set_cons_zero, List.set_cons_succ]
      refine wpAnyH_take (i := 1) (oi := ⟨some 20, _, _, _, _, _⟩) (v := ?_) rfl (by kernel_rfl) (by kernel_rfl) (by kernel_rfl) (fun _ _ _ h => h) (Or.inl ⟨by rfl, ?_⟩) hS ?_
      rotate_left
      · intro wq hq
        first | (go_simp; done) | (go_simp; rfl)
      try simp only [Act.put, List.setIfInBounds_toArray, List.set_cons_zero, List.set_cons_succ]
      refine wpAnyH_take (i := 2) (oi := ⟨some 21, _, _, _, _, _⟩) (v := ?_) rfl (by kernel_rfl) (by kernel_rfl) (by kernel_rfl) (fun _ _ _ h => h) (Or.inl ⟨by rfl, ?_⟩) hS ?_
      rotate_left
      · intro wq hq
        have hc := hq.src.cPn HR.out
        first | (go_simp; done) | (go_simp; rfl)
      try simp only [Act.put, List.setIfInBounds_toArray, List.set_cons_zero, List.set_cons_succ]
      refine wpAnyH_take (i := 3) (oi := ⟨some 22, _, _, _, _, _⟩) (v := ?_) rfl (by kernel_rfl) (by kernel_rfl) (by kernel_rfl) (fun _ _ _ h => h) (Or.inl ⟨by rfl, ?_⟩) hS ?_
      rotate_left
      · intro wq hq
        first | (go_simp; done) | (go_simp; rfl)
      try simp only [Act.put, List.setIfInBounds_toArray, List.set_cons_zero, List.set_cons_succ]
      refine wpAnyH_take (i := 5) (oi := ⟨some 24, _, _, _, _, _⟩) (v := ?_) rfl (by kernel_rfl) (by kernel_rfl) (by kernel_rfl) (fun _ _ _ h => h) (Or.inl ⟨by rfl, ?_⟩) hS ?_
      rotate_left
      · intro wq hq
        first | (go_simp; done) | (go_simp; rfl)
      try simp only [Act.put, List.setIfInBounds_toArray, List.set_cons_zero, List.set_cons_succ]
      refine wpAnyH_take (i := 6) (oi := ⟨some 25, _, _, _, _, _⟩) (v := ?_) rfl (by kernel_rfl) (by kernel_rfl) (by kernel_rfl) (fun _ _ _ h => h) (Or.inl ⟨by rfl, ?_⟩) hS ?_
      rotate_left
      · intro wq hq
        first | (go_simp; done) | (go_simp; rfl)
      try simp only [Act.put, List.setIfInBounds_toArray, List.set_cons_zero, List.set_cons_succ]
      refine wpAnyH_take (i := 7) (oi := ⟨some 26, _, _, _, _, _⟩) rfl (by kernel_rfl) (by kernel_rfl) (by kernel_rfl) (fun _ _ _ h => h) (yieldsIf_load_mid (by rfl) 27 _ rfl _ _ rfl (ipc r.v6 r.pl) _ (fun wq hq => hq.src.rIp HR.out) Tryz.underlying27 rfl (sz_ip HR.out)) hS ?_
      try simp only [Act.put, List.setIfInBounds_toArray, List.set_cons_zero, List.set_cons_succ]
      refine wpAnyH_ready (rs := [4, 8]) (by kernel_rfl) (by simp) ?_
      refine AllReadyH.cons (o := ⟨some 23, _, _, _, _, _⟩) rfl (fun K hK => ?_) (AllReadyH.cons (o := ⟨some 27, _, _, _, _, _⟩) rfl (fun K hK => ?_) AllReadyH.nil)
      · rw [if_pos (by rfl)]
        go_wp2
        have h7 := byt1_rd wc.drew (r.pn % 256) (Int.emod_nonneg _ (by decide)) (Int.emod_lt_of_pos _ (by decide))
        have hS2 := hS.below (below_one wc.drew (.cells #[.int .u8 (r.pn % 256)] 5))
        refine hK.out _ _ (hS2) (fun hS => ?_)
        clear hK K
        try simp only [Act.put, List.setIfInBounds_toArray, List.set_cons_zero, List.set_cons_succ]
        refine wpAnyH_ready (rs := [8]) (by kernel_rfl) (by simp) ?_
        refine AllReadyH.cons (o := ⟨some 27, _, _, _, _, _⟩) rfl (fun K hK => ?_) AllReadyH.nil
        rw [if_pos (by rfl)]
        go_wp2_with fail
        refine (HAd.out _).mono ?_
        rintro e w3 ⟨A8, rfl, hr8, hB8⟩
        have hS3 := hS.below hB8
        refine hK.out _ _ (hS3) (fun hS => ?_)
        clear hK K
        try simp only [Act.put, List.setIfInBounds_toArray, List.set_cons_zero, List.set_cons_succ]
        refine wpAnyH_take (i := 9) (oi := ⟨some 7, _, _, _, _, _⟩) (v := ?_) rfl (by kernel_rfl) (by kernel_rfl) (by kernel_rfl) (fun _ _ _ h => h) (Or.inl ⟨by rfl, ?_⟩) hS ?_
        rotate_left
        · intro wq hq
          first | (go_simp; done) | (go_simp; rfl)
        try simp only [Act.put, List.setIfInBounds_toArray, List.set_cons_zero, List.set_cons_succ]
        refine wpAnyH_take (i := 10) (oi := ⟨some 8, _, _, _, _, _⟩) (v := ?_) rfl (by kernel_rfl) (by kernel_rfl) (by kernel_rfl) (fun _ _ _ h => h) (Or.inl ⟨by rfl, ?_⟩) hS ?_
        rotate_left
        · intro wq hq
          first | (go_simp; done) | (go_simp; rfl)
        try simp only [Act.put, List.setIfInBounds_toArray, List.set_cons_zero, List.set_cons_succ]
        refine wpAnyH_done (by kernel_rfl) ?_ _
        go_wp2_with fail
        go_meet
        exact ⟨_, _, A8, rfl, rfl, hS3, (h7.below hB8).more hB8.size, hr8⟩
      · rw [if_pos (by rfl)]
        go_wp2_with fail
        refine (HAd.out _).mono ?_
        rintro e w2 ⟨A8, rfl, hr8, hB8⟩
        have hS2 := hS.below hB8
        refine hK.out _ _ (hS2) (fun hS => ?_)
        clear hK K
        try simp only [Act.put, List.setIfInBounds_toArray, List.set_cons_zero, List.set_cons_succ]
        refine wpAnyH_ready (rs := [4]) (by kernel_rfl) (by simp) ?_
        refine AllReadyH.cons (o := ⟨some 23, _, _, _, _, _⟩) rfl (fun K hK => ?_) AllReadyH.nil
        rw [if_pos (by rfl)]
        go_wp2
        have h7 := byt1_rd w2 (r.pn % 256) (Int.emod_nonneg _ (by decide)) (Int.emod_lt_of_pos _ (by decide))
        have hb1 := below_one w2 (.cells #[.int .u8 (r.pn % 256)] 5)
        have hS3 := hS.below hb1
        refine hK.out _ _ (hS3) (fun hS => ?_)
        clear hK K
        try simp only [Act.put, List.setIfInBounds_toArray, List.set_cons_zero, List.set_cons_succ]
        refine wpAnyH_take (i := 9) (oi := ⟨some 7, _, _, _, _, _⟩) (v := ?_) rfl (by kernel_rfl) (by kernel_rfl) (by kernel_rfl) (fun _ _ _ h => h) (Or.inl ⟨by rfl, ?_⟩) hS ?_
        rotate_left
        · intro wq hq
          first | (go_simp; done) | (go_simp; rfl)
        try simp only [Act.put, List.setIfInBounds_toArray, List.set_cons_zero, List.set_cons_succ]
        refine wpAnyH_take (i := 10) (oi := ⟨some 8, _, _, _, _, _⟩) (v := ?_) rfl (by kernel_rfl) (by kernel_rfl) (by kernel_rfl) (fun _ _ _ h => h) (Or.inl ⟨by rfl, ?_⟩) hS ?_
        rotate_left
        · intro wq hq
          first | (go_simp; done) | (go_simp; rfl)
        try simp only [Act.put, List.setIfInBounds_toArray, List.set_cons_zero, List.set_cons_succ]
        refine wpAnyH_done (by kernel_rfl) ?_ _
        go_wp2_with fail
        go_meet
        exact ⟨_, _, A8, rfl, rfl, hS3, h7, (hr8.below hb1).more hb1.size⟩
    case rest =>
      obtain ⟨A7, c7, A8, rfl, rfl, hB⟩ := hcut
      have cK := hB.src.cK
      have HBd := Lib.hid hB
      clear hB
      go_wp2_with fail
      refine wp_region_held_drew (S := fun W => BdB w W r A5 A6 A7 A8) (by kernel_rfl) (HBd.out.below (below_drew wc)) (fun hS => ?_)
      refine wpAnyH_take (i := 0) (oi := ⟨some 40, _, _, _, _, _⟩) (v := ?_) rfl (by kernel_rfl) (by kernel_rfl) (by kernel_rfl) (fun _ _ _ h => h) (Or.inl ⟨by rfl, ?_⟩) hS ?_
      rotate_left
      · intro wq hq
        first | (go_simp; done) | (go_simp; rfl)
      try simp only [Act.put, List.setIfInBounds_toArray, List.set_cons_zero, List.set_cons_succ]
      refine wpAnyH_take (i := 1) (oi := ⟨some 41, _, _, _, _, _⟩) (v := ?_) rfl (by kernel_rfl) (by kernel_rfl) (by kernel_rfl) (fun _ _ _ h => h) (Or.inl ⟨by rfl, ?_⟩) hS ?_
      rotate_left
      · intro wq hq
        first | (go_simp; done) | (go_simp; rfl)
      try simp only [Act.put, List.setIfInBounds_toArray, List.set_cons_zero, List.set_cons_succ]
      refine wpAnyH_take (i := 2) (oi := ⟨some 42, _, _, _, _, _⟩) (v := ?_) rfl (by kernel_rfl) (by kernel_rfl) (by kernel_rfl) (fun _ _ _ h => h) (Or.inl ⟨by rfl, ?_⟩) hS ?_
      rotate_left
      · intro wq hq
        first | (go_simp; done) | (go_simp; rfl)
      try simp only [Act.put, List.setIfInBounds_toArray, List.set_cons_zero, List.set_cons_succ]
      refine wpAnyH_take (i := 4) (oi := ⟨some 44, _, _, _, _, _⟩) (v := ?_) rfl (by kernel_rfl) (by kernel_rfl) (by kernel_rfl) (fun _ _ _ h => h) (Or.inl ⟨by rfl, ?_⟩) hS ?_
      rotate_left
      · intro wq hq
        first | (go_simp; done) | (go_simp; rfl)
      try simp only [Act.put, List.setIfInBounds_toArray, List.set_cons_zero, List.set_cons_succ]
      refine wpAnyH_take (i := 5) (oi := ⟨some 45, _, _, _, _, _⟩) (v := ?_) rfl (by kernel_rfl) (by kernel_rfl) (by kernel_rfl) (fun _ _ _ h => h) (Or.inl ⟨by rfl, ?_⟩) hS ?_
      rotate_left
      · intro wq hq
        first | (go_simp; done) | (go_simp; rfl)
      try simp only [Act.put, List.setIfInBounds_toArray, List.set_cons_zero, List.set_cons_succ]
      refine wpAnyH_take (i := 6) (oi := ⟨some 46, _, _, _, _, _⟩) (v := ?_) rfl (by kernel_rfl) (by kernel_rfl) (by kernel_rfl) (fun _ _ _ h => h) (Or.inl ⟨by rfl, ?_⟩) hS ?_
      rotate_left
      · intro wq hq
        first | (go_simp; done) | (go_simp; rfl)
      try simp only [Act.put, List.setIfInBounds_toArray, List.set_cons_zero, List.set_cons_succ]
      refine wpAnyH_take (i := 7) (oi := ⟨some 47, _, _, _, _, _⟩) (v := ?_) rfl (by kernel_rfl) (by kernel_rfl) (by kernel_rfl) (fun _ _ _ h => h) (Or.inl ⟨by rfl, ?_⟩) hS ?_
      rotate_left
      · intro wq hq
        first | (go_simp; done) | (go_simp; rfl)
      try simp only [Act.put, List.setIfInBounds_toArray, List.set_cons_zero, List.set_cons_succ]
      refine wpAnyH_take (i := 8) (oi := ⟨some 48, _, _, _, _, _⟩) (v := ?_) rfl (by kernel_rfl) (by kernel_rfl) (by kernel_rfl) (fun _ _ _ h => h) (Or.inl ⟨by rfl, ?_⟩) hS ?_
      rotate_left
      · intro wq hq
        first | (go_simp; done) | (go_simp; rfl)
      try simp only [Act.put, List.setIfInBounds_toArray, List.set_cons_zero, List.set_cons_succ]
      refine wpAnyH_take (i := 9) (oi := ⟨some 49, _, _, _, _, _⟩) (v := ?_) rfl (by kernel_rfl) (by kernel_rfl) (by kernel_rfl) (fun _ _ _ h => h) (Or.inl ⟨by rfl, ?_⟩) hS ?_
      rotate_left
      · intro wq hq
        first | (go_simp; done) | (go_simp; rfl)
      try simp only [Act.put, List.setIfInBounds_toArray, List.set_cons_zero, List.set_cons_succ]
      refine wpAnyH_take (i := 10) (oi := ⟨some 50, _, _, _, _, _⟩) (v := ?_) rfl (by kernel_rfl) (by kernel_rfl) (by kernel_rfl) (fun _ _ _ h => h) (Or.inl ⟨by rfl, ?_⟩) hS ?_
      rotate_left
      · intro wq hq
        have hc := hq.src.cPn HR.out; rw [HPN.out] at hc
        first | (go_simp; done) | (go_simp; rfl)
      try simp only [Act.put, List.setIfInBounds_toArray, List.set_cons_zero, List.set_cons_succ]
      refine wpAnyH_take (i := 11) (oi := ⟨some 51, _, _, _, _, _⟩) (v := ?_) rfl (by kernel_rfl) (by kernel_rfl) (by kernel_rfl) (fun _ _ _ h => h) (Or.inl ⟨by rfl, ?_⟩) hS ?_
      rotate_left
      · intro wq hq
        first | (go_simp; done) | (go_simp; rfl)
      try simp only [Act.put, List.setIfInBounds_toArray, List.set_cons_zero, List.set_cons_succ]
      refine wpAnyH_take (i := 12) (oi := ⟨some 52, _, _, _, _, _⟩) (v := ?_) rfl (by kernel_rfl) (by kernel_rfl) (by kernel_rfl) (fun _ _ _ h => h) (Or.inl ⟨by rfl, ?_⟩) hS ?_
      rotate_left
      · intro wq hq
        first | (go_simp; done) | (go_simp; rfl)
      try simp only [Act.put, List.setIfInBounds_toArray, List.set_cons_zero, List.set_cons_succ]
      refine wpAnyH_take (i := 13) (oi := ⟨some 53, _, _, _, _, _⟩) (v := ?_) rfl (by kernel_rfl) (by kernel_rfl) (by kernel_rfl) (fun _ _ _ h => h) (Or.inl ⟨by rfl, ?_⟩) hS ?_
      rotate_left
      · intro wq hq
        first | (go_simp; done) | (go_simp; rfl)
      try simp only [Act.put, List.setIfInBounds_toArray, List.set_cons_zero, List.set_cons_succ]
      refine wpAnyH_take (i := 14) (oi := ⟨some 54, _, _, _, _, _⟩) (v := ?_) rfl (by kernel_rfl) (by kernel_rfl) (by kernel_rfl) (fun _ _ _ h => h) (Or.inl ⟨by rfl, ?_⟩) hS ?_
      rotate_left
      · intro wq hq
        first | (go_simp; done) | (go_simp; rfl)
      try simp only [Act.put, List.setIfInBounds_toArray, List.set_cons_zero, List.set_cons_succ]
      refine wpAnyH_take (i := 15) (oi := ⟨some 55, _, _, _, _, _⟩) (v := ?_) rfl (by kernel_rfl) (by kernel_rfl) (by kernel_rfl) (fun _ _ _ h => h) (Or.inl ⟨by rfl, ?_⟩) hS ?_
      rotate_left
      · intro wq hq
        have hc := hq.src.cL2 HR.out
        first | (go_simp; done) | (go_simp; rfl)
      try simp only [Act.put, List.setIfInBounds_toArray, List.set_cons_zero, List.set_cons_succ]
      clear HBd
      generalize wc.drew = wd at *
      refine wpAnyH_ready (rs := [3, 16]) (by kernel_rfl) (by simp) ?_
      refine AllReadyH.cons (o := ⟨some 43, _, _, _, _, _⟩) rfl (fun K hK => ?_) (AllReadyH.cons (o := ⟨some 56, _, _, _, _, _⟩) rfl (fun K hK => ?_) AllReadyH.nil)
      · rw [if_pos (by rfl)]
        go_wp2
        have h48a := byt1_rd wd 48 (by omega) (by omega)
        have hS7 := hS.below (below_one wd (.cells #[.int .u8 48] 5))
        refine hK.out _ _ (hS7) (fun hS => ?_)
        clear hK K
        try simp only [Act.put, List.setIfInBounds_toArray, List.set_cons_zero, List.set_cons_succ]
        refine wpAnyH_ready (rs := [16]) (by kernel_rfl) (by simp) ?_
        refine AllReadyH.cons (o := ⟨some 56, _, _, _, _, _⟩) rfl (fun K hK => ?_) AllReadyH.nil
        rw [if_pos (by rfl)]
        go_wp2_with fail
        refine (HSc.out _).mono ?_
        rintro e w8 ⟨A10, c10, rfl, _, hr10, hB10⟩
        have hS9 := hS7.below hB10
        have h48 := (h48a.below hB10).more hB10.size
        refine hK.out _ _ (hS9) (fun hS => ?_)
        clear hK K
        try simp only [Act.put, List.setIfInBounds_toArray, List.set_cons_zero, List.set_cons_succ]
        have HL : Hid (RdL (w8.alloc (.cells #[.slice (some ⟨w.heap.size, 1, none⟩) 8 8, .slice (some ⟨w.heap.size, 9, none⟩) 10 10, .slice A5 4 c5, .slice (some ⟨wd.heap.size, 0, none⟩) 1 1, .slice (some ⟨w.heap.size, 20, none⟩) 6 6, .slice A7 1 c7, .slice A8 16 16, .slice A6 3 c6, .slice A10 (sec r.l2).length c10] 38)) (w8.alloc (.cells #[.slice (some ⟨w.heap.size, 1, none⟩) 8 8, .slice (some ⟨w.heap.size, 9, none⟩) 10 10, .slice A5 4 c5, .slice (some ⟨wd.heap.size, 0, none⟩) 1 1, .slice (some ⟨w.heap.size, 20, none⟩) 6 6, .slice A7 1 c7, .slice A8 16 16, .slice A6 3 c6, .slice A10 (sec r.l2).length c10] 38)).heap.size (some ⟨w8.heap.size, 0, none⟩) 9 [r.rd, r.es, be 4 r.tg, [48], r.mc, [r.pn % 256], r.pl.take 16, be 3 r.lb, sec r.l2]) := Lib.hid (rdl_new_at (W := w8) (vs := [(some ⟨w.heap.size, 1, none⟩, 8, 8), (some ⟨w.heap.size, 9, none⟩, 10, 10), (A5, 4, c5), (some ⟨wd.heap.size, 0, none⟩, 1, 1), (some ⟨w.heap.size, 20, none⟩, 6, 6), (A7, 1, c7), (A8, 16, 16), (A6, 3, c6), (A10, (sec r.l2).length, c10)]) (ls := [r.rd, r.es, be 4 r.tg, [48], r.mc, [r.pn % 256], r.pl.take 16, be 3 r.lb, sec r.l2]) ⟨hS9.src.sRd HR.out hS9.src.lt, hS9.src.sEs HR.out hS9.src.lt, hS9.r5, h48, hS9.src.sMc HR.out hS9.src.lt, hS9.r7, HCut.out _ _ hS9.r8, hS9.r6, hr10, trivial⟩ 38 _ rfl _ (by simp))
        have hlow := hS9.low
        refine wpAnyH_ready (rs := [17]) (by kernel_rfl) (by simp) ?_
        refine AllReadyH.cons (o := ⟨some 57, _, _, _, _, _⟩) rfl (fun K hK => ?_) AllReadyH.nil
        rw [if_pos (by rfl)]
        go_wp2
        have hS10 := hS9.below (below_one w8 (.cells #[.slice (some ⟨w.heap.size, 1, none⟩) 8 8, .slice (some ⟨w.heap.size, 9, none⟩) 10 10, .slice A5 4 c5, .slice (some ⟨wd.heap.size, 0, none⟩) 1 1, .slice (some ⟨w.heap.size, 20, none⟩) 6 6, .slice A7 1 c7, .slice A8 16 16, .slice A6 3 c6, .slice A10 (sec r.l2).length c10] 38))
        refine hK.out _ _ (hS10) (fun hS => ?_)
        clear hK K
        try simp only [Act.put, List.setIfInBounds_toArray, List.set_cons_zero, List.set_cons_succ]
        refine wpAnyH_ready (rs := [18]) (by kernel_rfl) (by simp) ?_
        refine AllReadyH.cons (o := ⟨some 58, _, _, _, _, _⟩) rfl (fun K hK => ?_) AllReadyH.nil
        rw [if_pos (by rfl)]
        go_wp2_with fail
        refine (concat_is _ _ 9 9 _ HL.out (by omega) (by rw [HF.out]; exact HLen.out)).mono ?_
        rintro e w9 ⟨v, rfl, hO, hB9⟩
        have hS11 := hS10.below hB9
        have HEnd := Lib.hid (show OwnB w.heap.size w9 v (bodyR r) ∧ Below w.heap.size w w9 from ⟨by rw [← HF.out]; exact hO.low (by have := hlow.size; simp at this ⊢; omega), hS11.low⟩)
        refine hK.out _ _ (hS11) (fun hS => ?_)
        clear hK K
        try simp only [Act.put, List.setIfInBounds_toArray, List.set_cons_zero, List.set_cons_succ]
        refine wpAnyH_take (i := 19) (oi := ⟨some 2, _, _, _, _, _⟩) (v := ?_) rfl (by kernel_rfl) (by kernel_rfl) (by kernel_rfl) (fun _ _ _ h => h) (Or.inl ⟨by rfl, ?_⟩) hS ?_
        rotate_left
        · intro wq hq
          first | (go_simp; done) | (go_simp; rfl)
        try simp only [Act.put, List.setIfInBounds_toArray, List.set_cons_zero, List.set_cons_succ]
        refine wpAnyH_done (by kernel_rfl) ?_ _
        clear hS hS9 hS10 hS11 hO hB9 HL
        go_wp2
        go_ret
        exact ⟨v, rfl, HEnd.out.1, HEnd.out.2⟩
      · rw [if_pos (by rfl)]
        go_wp2_with fail
        refine (HSc.out _).mono ?_
        rintro e w8 ⟨A10, c10, rfl, _, hr10a, hB10⟩
        have hS8 := hS.below hB10
        refine hK.out _ _ (hS8) (fun hS => ?_)
        clear hK K
        try simp only [Act.put, List.setIfInBounds_toArray, List.set_cons_zero, List.set_cons_succ]
        refine wpAnyH_ready (rs := [3]) (by kernel_rfl) (by simp) ?_
        refine AllReadyH.cons (o := ⟨some 43, _, _, _, _, _⟩) rfl (fun K hK => ?_) AllReadyH.nil
        rw [if_pos (by rfl)]
        go_wp2
        have h48 := byt1_rd w8 48 (by omega) (by omega)
        have hb1 := below_one w8 (.cells #[.int .u8 48] 5)
        have hS9 := hS8.below hb1
        have hr10 := (hr10a.below hb1).more hb1.size
        refine hK.out _ _ (hS9) (fun hS => ?_)
        clear hK K
        try simp only [Act.put, List.setIfInBounds_toArray, List.set_cons_zero, List.set_cons_succ]
        have HL : Hid (RdL ((w8.alloc (.cells #[.int .u8 48] 5)).alloc (.cells #[.slice (some ⟨w.heap.size, 1, none⟩) 8 8, .slice (some ⟨w.heap.size, 9, none⟩) 10 10, .slice A5 4 c5, .slice (some ⟨w8.heap.size, 0, none⟩) 1 1, .slice (some ⟨w.heap.size, 20, none⟩) 6 6, .slice A7 1 c7, .slice A8 16 16, .slice A6 3 c6, .slice A10 (sec r.l2).length c10] 38)) ((w8.alloc (.cells #[.int .u8 48] 5)).alloc (.cells #[.slice (some ⟨w.heap.size, 1, none⟩) 8 8, .slice (some ⟨w.heap.size, 9, none⟩) 10 10, .slice A5 4 c5, .slice (some ⟨w8.heap.size, 0, none⟩) 1 1, .slice (some ⟨w.heap.size, 20, none⟩) 6 6, .slice A7 1 c7, .slice A8 16 16, .slice A6 3 c6, .slice A10 (sec r.l2).length c10] 38)).heap.size (some ⟨w8.heap.size + 1, 0, none⟩) 9 [r.rd, r.es, be 4 r.tg, [48], r.mc, [r.pn % 256], r.pl.take 16, be 3 r.lb, sec r.l2]) := Lib.hid (rdl_new_at (W := (w8.alloc (.cells #[.int .u8 48] 5))) (vs := [(some ⟨w.heap.size, 1, none⟩, 8, 8), (some ⟨w.heap.size, 9, none⟩, 10, 10), (A5, 4, c5), (some ⟨w8.heap.size, 0, none⟩, 1, 1), (some ⟨w.heap.size, 20, none⟩, 6, 6), (A7, 1, c7), (A8, 16, 16), (A6, 3, c6), (A10, (sec r.l2).length, c10)]) (ls := [r.rd, r.es, be 4 r.tg, [48], r.mc, [r.pn % 256], r.pl.take 16, be 3 r.lb, sec r.l2]) ⟨hS9.src.sRd HR.out hS9.src.lt, hS9.src.sEs HR.out hS9.src.lt, hS9.r5, h48, hS9.src.sMc HR.out hS9.src.lt, hS9.r7, HCut.out _ _ hS9.r8, hS9.r6, hr10, trivial⟩ 38 _ rfl _ (by simp))
        have hlow := hS9.low
        refine wpAnyH_ready (rs := [17]) (by kernel_rfl) (by simp) ?_
        refine AllReadyH.cons (o := ⟨some 57, _, _, _, _, _⟩) rfl (fun K hK => ?_) AllReadyH.nil
        rw [if_pos (by rfl)]
        go_wp2
        have hS10 := hS9.below (below_one (w8.alloc (.cells #[.int .u8 48] 5)) (.cells #[.slice (some ⟨w.heap.size, 1, none⟩) 8 8, .slice (some ⟨w.heap.size, 9, none⟩) 10 10, .slice A5 4 c5, .slice (some ⟨w8.heap.size, 0, none⟩) 1 1, .slice (some ⟨w.heap.size, 20, none⟩) 6 6, .slice A7 1 c7, .slice A8 16 16, .slice A6 3 c6, .slice A10 (sec r.l2).length c10] 38))
        refine hK.out _ _ (hS10) (fun hS => ?_)
        clear hK K
        try simp only [Act.put, List.setIfInBounds_toArray, List.set_cons_zero, List.set_cons_succ]
        refine wpAnyH_ready (rs := [18]) (by kernel_rfl) (by simp) ?_
        refine AllReadyH.cons (o := ⟨some 58, _, _, _, _, _⟩) rfl (fun K hK => ?_) AllReadyH.nil
        rw [if_pos (by rfl)]
        go_wp2_with fail
        refine (concat_is _ _ 9 9 _ HL.out (by omega) (by rw [HF.out]; exact HLen.out)).mono ?_
        rintro e w9 ⟨v, rfl, hO, hB9⟩
        have hS11 := hS10.below hB9
        have HEnd := Lib.hid (show OwnB w.heap.size w9 v (bodyR r) ∧ Below w.heap.size w w9 from ⟨by rw [← HF.out]; exact hO.low (by have := hlow.size; simp at this ⊢; omega), hS11.low⟩)
        refine hK.out _ _ (hS11) (fun hS => ?_)
        clear hK K
        try simp only [Act.put, List.setIfInBounds_toArray, List.set_cons_zero, List.set_cons_succ]
        refine wpAnyH_take (i := 19) (oi := ⟨some 2, _, _, _, _, _⟩) (v := ?_) rfl (by kernel_rfl) (by kernel_rfl) (by kernel_rfl) (fun _ _ _ h => h) (Or.inl ⟨by rfl, ?_⟩) hS ?_
        rotate_left
        · intro wq hq
          first | (go_simp; done) | (go_simp; rfl)
        try simp only [Act.put, List.setIfInBounds_toArray, List.set_cons_zero, List.set_cons_succ]
        refine wpAnyH_done (by kernel_rfl) ?_ _
        clear hS hS9 hS10 hS11 hO hB9 HL
        go_wp2
        go_ret
        exact ⟨v, rfl, HEnd.out.1, HEnd.out.2⟩

end Go.Proofs.YtdgoeibfggjbmaaGreatDoor
namespace Go.Proofs.YtdgoeibfggjbmaaGreatDoor
open Go.RowKit
set_option maxRecDepth 100000
set_option linter.unusedSimpArgs false
set_option linter.unusedVariables false

def BodyPost (w : World) (r : Rt) (e : Ending) (w' : World) : Prop := ∃ v, e = .returned v ∧ OwnB w.heap.size w' v (bodyR r) ∧ Below w.heap.size w w'
theorem body_is (w : World) (r : Rt) (hr : RtOk r) (hf : RightF r) : Calls Tryz.prog 196 #[.agg (rtc r).toArray] w (BodyPost w r) := by
  have hk := hf.k
  have : r.k = 1 ∨ r.k = 2 ∨ r.k = 3 ∨ r.k = 4 ∨ r.k = 5 := by omega
  rcases this with e | e | e | e | e
  · exact body_1 w r hr hf e
  · rcases hf.two e with ⟨hp, hv⟩ | ⟨hp, hv⟩ | ⟨hp, hv⟩
    · exact body_2_0 w r hr hf e hp (by omega)
    · exact body_2_32 w r hr hf e hp (by rw [hv]; simp [nb])
    · exact body_2_128 w r hr hf e hp (by rw [hv]; simp [nb])
  · exact body_3 w r hr hf e
  · exact body_4 w r hr hf e
  · exact body_5 w r hr hf e
theorem sec_le (n : Int) : (sec n).length ≤ 3 := by unfold sec; split <;> simp [be_len]
theorem bodyR_le {r : Rt} (hr : RtOk r) : (bodyR r).length ≤ 100 := by
  have h1 := sec_le r.l2
  have h2 : nb r.v6 ≤ 16 := nb_le16 _
  have h3 : nb r.gv ≤ 16 := nb_le16 _
  unfold bodyR
  repeat' split
  all_goals (simp [be_len, hr.rd, hr.es, hr.mc, hr.pl, hr.gl]; try omega)
theorem byt2_rd (W : World) (x y : Int) (h : Oct [x, y]) : Rd (W.alloc (.cells #[.int .u8 x, .int .u8 y] 5)) (W.alloc (.cells #[.int .u8 x, .int .u8 y] 5)).heap.size (some ⟨W.heap.size, 0, none⟩) 2 [x, y] := by
  have hb : Byt (W.alloc (.cells #[.int .u8 x, .int .u8 y] 5)) W.heap.size 5 [x, y] := Blk.new W 5 #[.int .u8 x, .int .u8 y]
  exact hb.rd_all h (by simp)

/-- A route in bytes. -/
def putR (r : Rt) : List Int := r.k :: ((bodyR r).length : Int) :: bodyR r
def PutPost (w : World) (l : List Int) (r : Rt) (e : Ending) (w' : World) : Prop := ∃ v, e = .returned (.tuple #[v, .int .i64 (errR r)]) ∧ OwnB w.heap.size w' v (if rightR r then l ++ putR r else []) ∧ Below w.heap.size w w'
set_option maxHeartbeats 400000 in
set_option maxRecDepth 100000 in
theorem putNl_is (w : World) (A : Option Addr) (m c : Nat) (l : List Int) (r : Rt) (hr : RtOk r) (hb : Rd w w.heap.size A m l) (hm : m ≤ 140737488355200) : Calls Tryz.prog 151 #[.slice A m c, .agg (rtc r).toArray] w (PutPost w l r) := by
  have HR := Lib.hid hr
  have H1 := Lib.hid (RtAt.new w r hr 53)
  have HB1 := Lib.hid ((Below.refl w.heap.size w).alloc (Nat.le_refl _) (.cells (rtc r).toArray 53))
  have HL := Lib.hid hb
  have hlen := hb.len
  have HRi := Lib.hid (fun W => rightRt_is W r hr)
  clear hb hr
  cases hrr : rightR r
  · have HE : Hid (errR r = 2) := Lib.hid (by unfold errR; rw [hrr]; rfl)
    go_enter Tryz.func151, Tryz.ntmps151
    go_wp2_with (first | (refine rt_fetch rfl _ rfl w.heap.size r HR.out rfl H1.out ?_) | fail)
    refine (HRi.out _).mono ?_
    rintro e w2 ⟨rfl, hB⟩
    have HB2 := Lib.hid (HB1.out.trans (hB.mono HB1.out.size))
    clear hB
    rw [HE.out]
    go_wp2
    go_ret2
    exact ⟨_, by rw [HE.out]; rfl, by rw [hrr]; exact OwnB.nil_ _ _, HB2.out⟩
  · have HE : Hid (errR r = 0) := Lib.hid (by unfold errR; rw [hrr]; rfl)
    have hf := rightF HR.out hrr
    have HF := Lib.hid hf
    have hk := hf.k
    obtain ⟨hk1, hk5⟩ := hk
    have HBd := Lib.hid (fun W => body_is W r HR.out hf)
    have hble := bodyR_le HR.out
    clear hf
    go_enter Tryz.func151, Tryz.ntmps151
    go_wp2_with (first | (refine rt_fetch rfl _ rfl w.heap.size r HR.out rfl H1.out ?_) | fail)
    refine (HRi.out _).mono ?_
    rintro e w2 ⟨rfl, hB⟩
    have HB2 := Lib.hid (HB1.out.trans (hB.mono HB1.out.size))
    have H2 := Lib.hid (H1.out.below hB H1.out.lt)
    clear hB HB1 H1
    rw [HE.out]
    go_wp2_with (first | (refine rt_fetch rfl _ rfl w.heap.size r HR.out rfl H2.out ?_) | fail)
    refine (HBd.out _).mono ?_
    rintro e w3 ⟨v, rfl, hO, hB⟩
    have HB3 := Lib.hid (HB2.out.trans (hB.mono HB2.out.size))
    have H3 := Lib.hid (H2.out.below hB H2.out.lt)
    have hck := H3.out.cK
    obtain ⟨A3, c3, rfl, hc3, hr3, _⟩ := hO.at_
    have HR3 := Lib.hid hr3
    have HP : Hid (putR r = [r.k, ((bodyR r).length : Int)] ++ bodyR r) := Lib.hid rfl
    clear hB HB2 H2 hO hr3 HBd
    generalize hbr : bodyR r = bd at *
    generalize r.k = k at *
    have HL3 := Lib.hid ((HL.out.below HB3.out).more HB3.out.size)
    have hb2 := byt2_rd w3 k bd.length (fun y hy => by
      simp only [List.mem_cons, List.mem_nil_iff, or_false] at hy
      rcases hy with rfl | rfl <;> omega)
    have HLd : Hid (RdL ((w3.alloc (.cells #[.int .u8 k, .int .u8 (bd.length : Int)] 5)).alloc (.cells #[.slice A m c, .slice (some ⟨w3.heap.size, 0, none⟩) 2 2, .slice A3 bd.length c3] 38)) ((w3.alloc (.cells #[.int .u8 k, .int .u8 (bd.length : Int)] 5)).alloc (.cells #[.slice A m c, .slice (some ⟨w3.heap.size, 0, none⟩) 2 2, .slice A3 bd.length c3] 38)).heap.size (some ⟨w3.heap.size + 1, 0, none⟩) 3 [l, [k, (bd.length : Int)], bd]) := Lib.hid (rdl_new_at (W := w3.alloc (.cells #[.int .u8 k, .int .u8 (bd.length : Int)] 5)) (vs := [(A, m, c), (some ⟨w3.heap.size, 0, none⟩, 2, 2), (A3, bd.length, c3)]) (ls := [l, [k, (bd.length : Int)], bd]) ⟨(HL3.out.below (below_one _ _)).more (below_one _ _).size, hb2, (HR3.out.below (below_one _ _)).more (below_one _ _).size, trivial⟩ 38 _ rfl _ (by simp))
    have hs3 := HB3.out.size
    have h256 : (bd.length : Int) < 256 := by omega
    have h255 : (0 : Int) ≤ (bd.length : Int) := by omega
    clear hb2
    go_wp2_with fail
    refine (concat_is _ _ 3 3 _ HLd.out (by omega) (by simp; omega)).mono ?_
    rintro e w9 ⟨v, rfl, hO, hB9⟩
    have hfl : ([l, [k, (bd.length : Int)], bd] : List (List Int)).flatten = l ++ putR r := by rw [HP.out]; simp
    rw [hfl] at hO
    have HO := Lib.hid (hO.low (lo' := w.heap.size) (by simp; omega))
    have HB9 := Lib.hid ((HB3.out.trans (((below_one w3 (.cells #[.int .u8 k, .int .u8 (bd.length : Int)] 5)).trans (((below_one _ _).trans (hB9.mono (by simp))).mono (by simp))).mono hs3)))
    clear hO hB9 HLd
    go_wp2
    go_ret2
    exact ⟨v, by rw [HE.out]; rfl, by rw [hrr, if_pos rfl]; exact HO.out, HB9.out⟩
end Go.Proofs.YtdgoeibfggjbmaaGreatDoor
namespace Go.Proofs.YtdgoeibfggjbmaaGreatDoor
open Go.RowKit
set_option maxRecDepth 100000
set_option linter.unusedSimpArgs false
set_option linter.unusedVariables false

section
variable {l xs tl : List Int} {p n : Nat}
end
/-! Many routes, one behind the other. -/
def puts (rs : List Rt) : List Int := rs.flatMap putR
def AllR (rs : List Rt) : Prop := ∀ r ∈ rs, RtOk r ∧ rightR r = true
theorem AllR.nil_ : AllR [] := fun r h => by cases h
theorem AllR.app {a b : List Rt} (ha : AllR a) (hb : AllR b) : AllR (a ++ b) := fun r h => (List.mem_append.1 h).elim (ha r) (hb r)
theorem AllR.one {r : Rt} (h1 : RtOk r) (h2 : rightR r = true) : AllR [r] := fun s hs => by rw [List.mem_singleton] at hs; subst hs; exact ⟨h1, h2⟩
theorem AllR.ok {a : List Rt} (h : AllR a) : AllRt a := fun r hr => (h r hr).1
theorem puts_app (a b : List Rt) : puts (a ++ b) = puts a ++ puts b := by simp [puts]
theorem puts_one (r : Rt) : puts [r] = putR r := by simp [puts]
end Go.Proofs.YtdgoeibfggjbmaaGreatDoor
namespace Go.Proofs.YtdgoeibfggjbmaaGreatDoor
open Go.RowKit
set_option maxRecDepth 100000
set_option linter.unusedSimpArgs false
set_option linter.unusedVariables false

theorem tmod_bd (n m : Int) (hm : 0 < m) : -m < n.tmod m ∧ n.tmod m < m := by
  rcases Int.le_total 0 n with h | h
  · have h1 := Int.tmod_nonneg m h
    have h2 := Int.tmod_lt_of_pos n hm
    omega
  · have h1 := Int.tmod_nonneg m (show 0 ≤ -n by omega)
    have h2 := Int.tmod_lt_of_pos (-n) hm
    rw [Int.neg_tmod] at h1 h2
    omega
set_option maxHeartbeats 400000 in
theorem count_is (w : World) (n m : Int) (hm : 1 ≤ m) (hm2 : m < 4611686018427387904) (hn : I64 n) : Calls Tryz.prog 29 #[.int .i64 n, .int .i64 m] w fun e w' => ∃ c : Nat, (c : Int) < m ∧ e = .returned (.int .i64 c) ∧ w' = w := by
  obtain ⟨h1, h2⟩ := tmod_bd n m (by omega)
  by_cases hx0 : n.tmod m < 0
  · have hs : ∃ c : Nat, n.tmod m + m = c := ⟨(n.tmod m + m).toNat, by omega⟩
    obtain ⟨c, hc⟩ := hs
    have HC := Lib.hid hc
    have hc2 : (c : Int) < m := by omega
    clear hc
    go_enter Tryz.func29, Tryz.ntmps29
    go_wp2
    go_ret
    exact ⟨c, hc2, by rw [← HC.out]; go_num, rfl⟩
  · have hs : ∃ c : Nat, n.tmod m = c := ⟨(n.tmod m).toNat, by omega⟩
    obtain ⟨c, hc⟩ := hs
    have HC := Lib.hid hc
    have hc2 : (c : Int) < m := by omega
    clear hc
    go_enter Tryz.func29, Tryz.ntmps29
    go_wp2
    go_ret
    exact ⟨c, hc2, by rw [← HC.out]; rfl, rfl⟩

/-- Ints of one's own. -/
structure OwnI (lo : Nat) (w : World) (v : Value) (xs : List Int) : Prop where
  own : w.ownsRow lo 3 1 v xs.length (xs.map (Value.int .i64))
theorem OwnI.at_ {lo : Nat} {w : World} {v : Value} {xs : List Int} (h : OwnI lo w v xs) (hp : 0 < xs.length) : ∃ b c, v = .slice (some ⟨b, 0, none⟩) xs.length c ∧ b < w.heap.size ∧ ∀ i (hi : i < xs.length), w.cell? ⟨b, i, none⟩ = some (.int .i64 xs[i]) := by
  rcases h.own.2 with ⟨rfl, hn⟩ | ⟨g, cap, cur, rfl, hb, hg, hnc, hcm, hcs, hx⟩
  · omega
  · refine ⟨g, cap, rfl, (Array.getElem?_eq_some_iff.1 hg).1, fun i hi => ?_⟩
    have h1 : (xs.map (Value.int .i64))[i]? = some (.int .i64 xs[i]) := by simp [hi]
    rw [← hx, List.getElem?_take, if_pos (by omega)] at h1
    simp only [World.cell?, hg]
    rw [← Array.getElem?_toList]
    exact h1
theorem OwnI.new (w : World) (x : Int) : OwnI w.heap.size (w.alloc (.cells #[.int .i64 x] 3)) (.slice (some ⟨w.heap.size, 0, none⟩) 1 1) [x] :=
  ⟨⟨rfl, Or.inr ⟨w.heap.size, 1, #[.int .i64 x], rfl, Nat.le_refl _, Blk.new w 3 _, Nat.le_refl _, by decide, rfl, rfl⟩⟩⟩
/-! Bytes that are cut short. -/
theorem putR_len (r : Rt) : (putR r).length = (bodyR r).length + 2 := by simp [putR]
theorem puts_le {rs : List Rt} (h : AllR rs) : (puts rs).length ≤ rs.length * 102 := by
  induction rs with
  | nil => simp [puts]
  | cons r rs ih =>
    have h1 := bodyR_le (h r List.mem_cons_self).1
    have h2 := ih (fun s hs => h s (List.mem_cons_of_mem _ hs))
    simp only [puts, List.flatMap_cons, List.length_append, List.length_cons] at h2 ⊢
    rw [putR_len]
    omega
theorem RdRt.cut {w : World} {B n : Nat} {A : Option Addr} {rs : List Rt} (h : RdRt w B A n rs) {m : Nat} (hm : m ≤ n) : RdRt w B A m (rs.take m) :=
  ⟨by have := h.len; simp; omega, fun r hr => h.ok r (List.mem_of_mem_take hr), fun hp => by
    obtain ⟨b, off, e, hlt, hc⟩ := h.at_ (by omega)
    refine ⟨b, off, e, hlt, fun i hi => ?_⟩
    rw [List.getElem_take]
    exact hc i (by simp at hi; omega)⟩
theorem Rd.first {w : World} {B n : Nat} {A : Option Addr} {l : List Int} (h : Rd w B A n l) {m : Nat} (hm : m ≤ n) : Rd w B A m (l.take m) :=
  ⟨by have := h.len; simp; omega, fun x hx => h.oct x (List.mem_of_mem_take hx), fun hp => by
    obtain ⟨b, off, e, hlt, hc⟩ := h.at_ (by omega)
    refine ⟨b, off, e, hlt, fun i hi => ?_⟩
    rw [hc i (by omega)]
    simp [List.getD, hi]⟩
end Go.Proofs.YtdgoeibfggjbmaaGreatDoor
namespace Go.Proofs.YtdgoeibfggjbmaaGreatDoor
open Go.RowKit
set_option maxRecDepth 100000
set_option linter.unusedSimpArgs false
set_option linter.unusedVariables false

/-- An update. -/
structure Up where
  at_ : Att
  nv : Bool
  nl : List Int
  re : List Rt
  un : List Rt
/-- It is one that a variable can hold. -/
structure UpOk (u : Up) : Prop where
  at_ : AtFits u.at_
  nl : u.nl.length = 16
  onl : Oct u.nl
  re : AllRt u.re
  un : AllRt u.un
def famB : List Int := [0, 25, 70]
def nextB (v : Bool) (l : List Int) : List Int := [(nb v : Int)] ++ (l.take (nb v) ++ [0])
def reachV (u : Up) : List Int := famB ++ (nextB u.nv u.nl ++ puts u.re)
def goneV (u : Up) : List Int := famB ++ puts u.un
def goneR (u : Up) : List Raw := if u.un = [] then [] else [rawW 128 15 (goneV u)]
/-- The attributes as they are gathered. -/
def preU (u : Up) : List Raw := (if u.re = [] then [] else writeR u.at_ ++ [rawW 128 14 (reachV u)]) ++ goneR u
def loR (a : Att) : List Raw :=
  [rawW 64 1 [a.origin], rawW 64 2 (pathW a.path)] ++ (opt a.hasMed (rawW 128 4 (be 4 a.med)) ++ ([rawW 64 5 (be 4 a.pref)] ++ (opt (decide (a.orr ≠ 0)) (rawW 128 9 (be 4 a.orr)) ++ opt (decide (a.clus ≠ [])) (rawW 128 10 (encN a.clus)))))
def hiR (a : Att) : List Raw := opt (decide (a.comms ≠ [])) (rawW 192 16 a.comms.flatten) ++ opt (decide (a.pm.kind ≠ 0)) (rawW 192 22 (pmW a.pm))
theorem writeR_parts (a : Att) : writeR a = loR a ++ hiR a := by simp [writeR, loR, hiR, List.append_assoc]
/-- By rising kinds. -/
def rawsU (u : Up) : List Raw := if u.re = [] then goneR u else loR u.at_ ++ ([rawW 128 14 (reachV u)] ++ (goneR u ++ hiR u.at_))
theorem raws_perm (u : Up) : (rawsU u).Perm (preU u) := by
  unfold rawsU preU
  by_cases h : u.re = []
  · rw [if_pos h, if_pos h]; simp
  · rw [if_neg h, if_neg h, writeR_parts]
    simp only [List.append_assoc]
    refine List.Perm.append_left _ ?_
    have h1 : ([rawW 128 14 (reachV u)] ++ (goneR u ++ hiR u.at_)).Perm ((goneR u ++ hiR u.at_) ++ [rawW 128 14 (reachV u)]) := List.perm_append_comm
    have h2 : (hiR u.at_ ++ ([rawW 128 14 (reachV u)] ++ goneR u)).Perm (([rawW 128 14 (reachV u)] ++ goneR u) ++ hiR u.at_) := List.perm_append_comm
    refine List.Perm.trans ?_ h2.symm
    rw [List.append_assoc]
theorem kinds_lo (a : Att) : (loR a).map (·.2.1) = [(1 : Int), 2] ++ (opt a.hasMed 4 ++ ([5] ++ (opt (decide (a.orr ≠ 0)) 9 ++ opt (decide (a.clus ≠ [])) 10))) := by
  simp only [loR, List.map_append, opt_kinds]; rfl
theorem kinds_hi (a : Att) : (hiR a).map (·.2.1) = opt (decide (a.comms ≠ [])) (16 : Int) ++ opt (decide (a.pm.kind ≠ 0)) 22 := by
  simp only [hiR, List.map_append, opt_kinds]
theorem kinds_gone (u : Up) : (goneR u).map (·.2.1) = opt (decide (u.un ≠ [])) (15 : Int) := by
  unfold goneR opt
  by_cases h : u.un = [] <;> simp [h, rawW]
theorem rise_all : ∀ b1 b2 b3 b4 b5 b6 : Bool, ([(1 : Int), 2] ++ (opt b1 4 ++ ([5] ++ (opt b2 9 ++ opt b3 10))) ++ ([14] ++ (opt b4 15 ++ (opt b5 16 ++ opt b6 22)))).Pairwise (· < ·) := by decide
theorem rise_gone : ∀ b : Bool, (opt b (15 : Int)).Pairwise (· < ·) := by decide
theorem raws_rise (u : Up) : ((rawsU u).map (·.2.1)).Pairwise (· < ·) := by
  unfold rawsU
  by_cases h : u.re = []
  · rw [if_pos h, kinds_gone]; exact rise_gone _
  · rw [if_neg h]
    simp only [List.map_append, kinds_lo, kinds_hi, kinds_gone]
    have := rise_all u.at_.hasMed (decide (u.at_.orr ≠ 0)) (decide (u.at_.clus ≠ [])) (decide (u.un ≠ [])) (decide (u.at_.comms ≠ [])) (decide (u.at_.pm.kind ≠ 0))
    simpa [rawW] using this
theorem raws_nodup (u : Up) : ((rawsU u).map (·.2.1)).Nodup := (raws_rise u).imp fun h => Int.ne_of_lt h
/-- Rows with the same entries, both by rising kinds, are one. -/
theorem rise_one : ∀ (a b : List Raw), (a.map (·.2.1)).Pairwise (· < ·) → (b.map (·.2.1)).Pairwise (· < ·) → a.Perm b → a = b
  | [], b, _, _, h => (List.nil_perm.1 h).symm
  | x :: a, [], _, _, h => absurd (List.perm_nil.1 h) (by simp)
  | x :: a, y :: b, ha, hb, h => by
    rw [List.map_cons, List.pairwise_cons] at ha hb
    have e : x = y := by
      have h1 : x ∈ y :: b := h.mem_iff.1 List.mem_cons_self
      have h2 : y ∈ x :: a := h.mem_iff.2 List.mem_cons_self
      rcases List.mem_cons.1 h1 with e | h1
      · exact e
      · rcases List.mem_cons.1 h2 with e | h2
        · exact e.symm
        · have q1 := ha.1 _ (List.mem_map_of_mem h2)
          have q2 := hb.1 _ (List.mem_map_of_mem h1)
          omega
    subst e
    rw [rise_one a b ha.2 hb.2 ((List.perm_cons x).1 h)]

/-! What Put answers. -/
def rightsB (l : List Rt) : Bool := l.all fun r => rightR r
def rightU (u : Up) : Bool := rightsB u.un && (rightsB u.re && (decide (u.re = []) || rightB u.nv u.nl))
def upB (u : Up) : List Int := [0, 0] ++ (be 2 ((joinB (rawsU u)).length : Int) ++ joinB (rawsU u))
def upE (u : Up) : Int := if rightU u = false then 2 else if u.re ≠ [] ∧ writeE u.at_ ≠ 0 then writeE u.at_ else if joinE (rawsU u) ≠ 0 then joinE (rawsU u) else if 4077 < 4 + (joinB (rawsU u)).length then 5 else 0
def bodyU (u : Up) : List Int := if upE u = 0 then upB u else []
theorem rights_all {l : List Rt} (h : AllRt l) (hr : rightsB l = true) : AllR l := fun r hm => ⟨h r hm, by unfold rightsB at hr; exact List.all_eq_true.1 hr r hm⟩
theorem upE_parts {u : Up} (h : upE u = 0) : rightsB u.un = true ∧ rightsB u.re = true ∧ (u.re ≠ [] → rightB u.nv u.nl = true ∧ writeE u.at_ = 0) ∧ joinE (rawsU u) = 0 ∧ (joinB (rawsU u)).length ≤ 4073 := by
  unfold upE at h
  cases hr : rightU u with
  | false => rw [if_pos hr] at h; cases h
  | true =>
    rw [if_neg (by rw [hr]; decide)] at h
    unfold rightU at hr
    simp only [Bool.and_eq_true, Bool.or_eq_true, decide_eq_true_eq] at hr
    by_cases h1 : u.re ≠ [] ∧ writeE u.at_ ≠ 0
    · rw [if_pos h1] at h; exact absurd h h1.2
    · rw [if_neg h1] at h
      by_cases h2 : joinE (rawsU u) ≠ 0
      · rw [if_pos h2] at h; exact absurd h h2
      · rw [if_neg h2] at h
        by_cases h3 : 4077 < 4 + (joinB (rawsU u)).length
        · rw [if_pos h3] at h; cases h
        · refine ⟨hr.1, hr.2.1, fun hn => ⟨?_, ?_⟩, by omega, by omega⟩
          · rcases hr.2.2 with e | e
            · exact absurd e hn
            · exact e
          · by_cases hw : writeE u.at_ = 0
            · exact hw
            · exact absurd ⟨hn, hw⟩ h1
end Go.Proofs.YtdgoeibfggjbmaaGreatDoor
