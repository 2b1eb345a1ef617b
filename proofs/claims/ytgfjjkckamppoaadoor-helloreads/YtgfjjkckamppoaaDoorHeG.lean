/-
  Layer 8: withCapabilities.
-/
import Derived.Test.YtgfjjkckamppoaaDoorHeF
namespace Go.Proofs.YtgfjjkckamppoaaDoor
open Go.RowKit
set_option maxRecDepth 100000
set_option linter.unusedSimpArgs false
set_option linter.unusedVariables false

def posOf (w : World) (g : Nat) : Nat := match w.cell? ⟨g, 1, none⟩ with
  | some (.int _ n) => n.toNat
  | _ => 0
theorem posOf_cur {w : World} {g : Nat} {l : List Int} {a : Nat} {e : Int} (h : IsCur w g l a e) : posOf w g = a := by
  obtain ⟨A, c, h0, _⟩ := h.ex
  have h1 : w.cell? ⟨g, 1, none⟩ = some (.int .i64 a) := Blk.cell h0 1
  unfold posOf
  rw [h1]
  simp
/-- The memory of withCapabilities: the hello's box b, the variable that is told, a cursor. -/
structure WcS (A0 : Option Addr) (c0 : Nat) (w W : World) (b g : Nat) (l : List Int) (a : Nat) (h : Hl) : Prop where
  low : Below w.heap.size w W
  lb : w.heap.size ≤ b
  box : HlAt W b h
  res : ∃ old, Blk W (b + 1) 24 old ∧ old.size = 6
  cur : IsCurX A0 c0 W g l a 0
  env : EnvF W
  pos : 0 < w.heap.size
  gl : b + 1 < g
  ap : 0 < l.length → ∀ x, A0 = some x → x.block ≠ b
section
variable {A0 : Option Addr} {c0 : Nat} {w W W' : World} {b g a a' : Nat} {l : List Int} {h h' : Hl}
theorem WcS.below (k : WcS A0 c0 w W b g l a h) (hB : Below W.heap.size W W') : WcS A0 c0 w W' b g l a h := by
  obtain ⟨o, h1, h2⟩ := k.res
  exact ⟨k.low.trans (hB.mono k.low.size), k.lb, k.box.below hB k.box.lt, ⟨o, h1.below hB h1.lt, h2⟩, k.cur.keep (hB.mono k.cur.toIsCurT.lt), k.env.below hB, k.pos, k.gl, k.ap⟩
theorem WcS.step (k : WcS A0 c0 w W b g l a h) (hc : IsCurX A0 c0 W' g l a' 0) (hg : W.grownBy W' (some g)) : WcS A0 c0 w W' b g l a' h := by
  obtain ⟨o, h1, h2⟩ := k.res
  have := k.gl
  have := k.lb
  have := k.pos
  exact ⟨below_only k.low hg k.low.size (fun i e => by injection e with e; omega), k.lb, k.box.grown hg (fun e => by injection e with e; omega), ⟨o, h1.grown hg (fun e => by injection e with e; omega), h2⟩, hc, k.env.grown hg (by omega), k.pos, k.gl, k.ap⟩
theorem WcS.set (k : WcS A0 c0 w W b g l a h) (i : Nat) (u : Value) (e : (hlc h).toArray.setIfInBounds i u = (hlc h').toArray) : WcS A0 c0 w (W.setCell ⟨b, i, none⟩ u) b g l a h' := by
  obtain ⟨o, h1, h2⟩ := k.res
  have := k.gl
  have := k.lb
  have hp := k.pos
  have hB : Below b W (W.setCell ⟨b, i, none⟩ u) := (Below.refl b W).setCell (Nat.le_refl _) u
  refine ⟨k.low.trans (hB.mono k.lb), k.lb, ?_, ⟨o, h1.far (by simp) u, h2⟩, ?_, k.env.low hB (by omega), k.pos, k.gl, k.ap⟩
  · have := k.box.set_ i u
    rw [e] at this
    exact this
  · exact k.cur.far (b := b) (fun i hi => Below.heap_setCell W _ u i hi) (by omega) k.ap
end
theorem WcS.apart {A0 : Option Addr} {c0 : Nat} {w W W' : World} {b g a g2 : Nat} {l : List Int} {h : Hl} (k : WcS A0 c0 w W b g l a h) (hg : W.grownBy W' (some g2)) (h2 : g < g2) : WcS A0 c0 w W' b g l a h := by
  obtain ⟨o, h1, hz⟩ := k.res
  have := k.gl
  have := k.lb
  have := k.pos
  have hB : Below (g + 1) W W' := below_only (Below.refl _ W) hg k.cur.toIsCurT.lt (fun i e => by injection e with e; omega)
  exact ⟨below_only k.low hg k.low.size (fun i e => by injection e with e; omega), k.lb, k.box.below hB (by omega), ⟨o, h1.below hB (by omega), hz⟩, k.cur.keep hB, k.env.low hB (by omega), k.pos, k.gl, k.ap⟩
def capV (o : Option Hl) : Value := match o with
  | some h => .tuple #[.agg (hlc h).toArray, .bool true]
  | none => .tuple #[.agg (hlc hl0).toArray, .bool false]
def CapPost (w : World) (h : Hl) (l : List Int) (e : Ending) (w' : World) : Prop := e = .returned (capV (capsR h l)) ∧ Below w.heap.size w w'
theorem cap_end {fn : Func} {p r : Tmp} (hres : fn.results = #[.cell p 24, .tmp r]) {R : Ending → World → Prop} (a : Act) (w W : World) (b : Nat) (hb : w.heap.size ≤ b) (hlow : Below w.heap.size w W) (old : Array Value) (hold : Blk W (b + 1) 24 old) (h : Hl) (u : Value)
    (hp : a.tmps.getD p undef = .pointer (some ⟨b + 1, 0, none⟩)) (hr : a.tmps.getD r undef = u) (hd : a.defers = [])
    (hR : Below w.heap.size w (W.setRow (b + 1) (hlc h).toArray) → R (.returned (.tuple #[.agg (hlc h).toArray, u])) (W.setRow (b + 1) (hlc h).toArray)) :
    bodyPost Tryd.prog fn R .ret a (W.setRow (b + 1) (hlc h).toArray) :=
  bodyPost_ret (results_cell_slot hres _ _ (b + 1) 24 _ _ u hp hr (Blk.setRow hold _) Tryd.underlying24 rfl hsz) hd (hR (hlow.trans (below_setRow W (b + 1) _ (by omega))))

theorem wc_close {A0 : Option Addr} {c0 : Nat} {w W wr : World} {b g a a' : Nat} {l r v : List Int} {h h' h2 : Hl} {k : Int} (hS : WcS A0 c0 w W b g l a' h2)
    (hC : capsR h l = match capStep h' k v with | none => none | some h' => capsR h' r) (hst : capStep h' k v = some h2) (hr : r = l.drop a') (hok : HlOk h') (hv : Oct v) (hlt : l.length - a' + 2 ≤ l.length - a) (hpos : posOf wr g = a) :
    (∃ a h', WcS A0 c0 w W b g l a h' ∧ capsR h l = capsR h' (l.drop a) ∧ HlOk h') ∧ l.length - posOf W g < l.length - posOf wr g := by
  rw [hst] at hC
  refine ⟨⟨a', h2, hS, by rw [hC, hr], capStep_ok hok hv hst⟩, ?_⟩
  rw [posOf_cur hS.cur.toIsCurT, hpos]
  omega
set_option maxHeartbeats 8000000 in
theorem wcaps_is (w : World) (E : EnvF w) (h : Hl) (hk : HlOk h) (A : Option Addr) (n c : Nat) (l : List Int) (hr : Rd w w.heap.size A n l) (hn : n ≤ 1000) : Calls Tryd.prog 69 #[.agg (hlc h).toArray, .slice A n c] w (CapPost w h l) := by
  have HO := Lib.hid hr.oct
  have hpos := E.lt
  have hlow := (below_one8 w (.cells (hlc h).toArray 24)).trans ((below_one8 (w.alloc (.cells (hlc h).toArray 24)) (.cells #[.int .u32 0, .int .i64 0, .int .u32 0, .bool false, .bool false, .bool false] 24)).mono (below_one8 _ _).size)
  have HX := Lib.hid ((Blk.new w 24 (hlc h).toArray).alloc (.cells #[.int .u32 0, .int .i64 0, .int .u32 0, .bool false, .bool false, .bool false] 24))
  have hres := Blk.new (w.alloc (.cells (hlc h).toArray 24)) 24 #[.int .u32 0, .int .i64 0, .int .u32 0, .bool false, .bool false, .bool false]
  rw [show (w.alloc (.cells (hlc h).toArray 24)).heap.size = w.heap.size + 1 by simp] at hres
  have HR := Lib.hid hres
  have HE := Lib.hid (E.below hlow)
  have HL := Lib.hid (hr.up hlow)
  have HB := Lib.hid hlow
  have HK := Lib.hid hk
  have hs2 : ((w.alloc (.cells (hlc h).toArray 24)).alloc (.cells #[.int .u32 0, .int .i64 0, .int .u32 0, .bool false, .bool false, .bool false] 24)).heap.size = w.heap.size + 2 := by simp
  have HS2 := Lib.hid hs2
  clear hr hlow hres E hk hs2
  go_enter Tryd.func69, Tryd.ntmps69
  go_wp2_with fail
  refine (new_isX _ A n c l HL.out (by omega)).mono ?_
  generalize ((w.alloc (.cells (hlc h).toArray 24)).alloc (.cells #[.int .u32 0, .int .i64 0, .int .u32 0, .bool false, .bool false, .bool false] 24)) = w2 at *
  rintro e w3 ⟨g, A0, c0, rfl, hg, hcx, hap, hB3⟩
  have h2 := HS2.out
  have HS : Hid (WcS A0 c0 w w3 w.heap.size g l 0 h) := Lib.hid ⟨HB.out.trans (hB3.mono HB.out.size), Nat.le_refl _, HX.out.below hB3 HX.out.lt, ⟨_, HR.out.below hB3 HR.out.lt, rfl⟩, hcx, HE.out.below hB3, hpos, by omega, fun hl x hx => by have := hap hl x hx; omega⟩
  clear hcx hB3 hap HX HR HE HL HB HS2 h2 hg
  go_wp2
  go_loopw [8] (fun _ wr => ∃ a h', WcS A0 c0 w wr w.heap.size g l a h' ∧ capsR h l = capsR h' (l.drop a) ∧ HlOk h') (fun _ wr => l.length - posOf wr g)
  case atStart => exact ⟨0, h, HS.out, rfl, HK.out⟩
  case round =>
    obtain ⟨a, h', hS, hcap, hok⟩ := hrel
    have HSr := Lib.hid hS
    have HCap := Lib.hid hcap
    have HOk := Lib.hid hok
    have HPos := Lib.hid (posOf_cur hS.cur.toIsCurT)
    clear hS hcap hok HS
    go_wp2_with fail
    refine (leftC_is _ g l a 0 HSr.out.cur.toIsCurT).mono ?_
    rintro e w4 ⟨rfl, k1, rfl⟩
    have HS4 := Lib.hid (HSr.out.below (below_drewN (Below.refl _ _) k1))
    generalize wr.drewN k1 = W4 at *
    by_cases ha : a < l.length
    · have hp : (0 : Int) < (l.length : Int) - a := by omega
      go_wp2_with fail
      refine (rpart_is W4 g l a HS4.out.cur HO.out ha).mono ?_
      have hd0 : l.drop a ≠ [] := by intro e; have := congrArg List.length e; simp at this; omega
      rintro e W5 ⟨hg5, k, A5, n5, hk0, hk1, hpp⟩
      cases hpt : part1 (l.drop a) with
      | none =>
        rw [hpt] at hpp
        simp only at hpp
        subst hpp
        have HC : Hid (capsR h l = none) := Lib.hid (by rw [HCap.out]; exact capsR_none hd0 hpt)
        have hlw := below_only HS4.out.low hg5 HS4.out.low.size (fun i e => by injection e with e; have := HS4.out.gl; omega)
        obtain ⟨old, ho, hos⟩ := HS4.out.res
        have HRes := Lib.hid (ho.grown hg5 (fun e => by injection e with e; have := HS4.out.gl; omega))
        have HLw := Lib.hid hlw
        clear hg5 ho hlw HSr HS4 HCap
        go_wp2_with (refine h_store rfl _ _ rfl (w.heap.size + 1) hl0 rfl rfl 24 old HRes.out hos ?_)
        try simp only [Exit.inBlock, Exit.then]
        exact cap_end rfl _ w W5 w.heap.size (Nat.le_refl _) HLw.out old HRes.out hl0 _ rfl rfl rfl (fun hb => ⟨by rw [HC.out]; rfl, hb⟩)
      | some q =>
        obtain ⟨k', v, r⟩ := q
        rw [hpt] at hpp
        simp only at hpp
        obtain ⟨rfl, hnv, rfl, hnew, a', hcx, hr', ha'⟩ := hpp
        have ho5 := part1_oct (fun x hx => HO.out x (List.mem_of_mem_drop hx)) hpt
        have hlt := part1_lt hpt
        rw [hr', List.length_drop, List.length_drop] at hlt
        have HC := Lib.hid (HCap.out.trans (capsR_some hd0 hpt))
        have HS5 := Lib.hid (HS4.out.step hcx hg5)
        have HV := Lib.hid hnew.rd
        have HR' := Lib.hid hr'
        have HOv := Lib.hid ho5.2.1
        have hn5 : n5 ≤ 255 := by rw [hnv]; exact ho5.2.2.2
        have HNv := Lib.hid hnv
        have HLt := Lib.hid hlt
        clear hcx hg5 hnew hr' hpt hd0 ho5 hlt hnv HS4 HSr HCap
        by_cases h1 : k = 1
        · subst h1
          have hst : ∀ q : Bool, (h'.ev || decide (v = fam)) = q → capStep h' 1 v = some { h' with ev := q } := fun q hq => by unfold capStep; rw [if_pos rfl, hq]
          have HSt := Lib.hid hst
          have f3 := HS5.out.box.frozen 3
          clear hst
          cases hev : h'.ev with
          | true =>
            have d3 : W5.cell? ⟨w.heap.size, 3, none⟩ = some (.bool true) := by rw [← hev]; exact HS5.out.box.cell 3
            have HEv := Lib.hid hev
            have HSet := Lib.hid (HS5.out.set (h' := { h' with ev := true }) 3 (.bool true) rfl)
            clear hev
            go_wp2
            exact wc_close HSet.out HC.out (HSt.out true (by rw [HEv.out]; rfl)) HR'.out HOk.out HOv.out HLt.out HPos.out
          | false =>
            have d3 : W5.cell? ⟨w.heap.size, 3, none⟩ = some (.bool false) := by rw [← hev]; exact HS5.out.box.cell 3
            have HEv := Lib.hid hev
            clear hev
            go_wp2_with fail
            refine (family_is W5 HS5.out.env).mono ?_
            rintro e W6 ⟨rfl, hby, hB⟩
            have HF6 : Hid (Rd W6 W6.heap.size (some ⟨W5.heap.size, 0, none⟩) 4 fam) := Lib.hid (hby.rd_all fam_oct hby.lt)
            have HV6 := Lib.hid (HV.out.up hB)
            have HS6 := Lib.hid (HS5.out.below hB)
            clear hby hB HS5 HV f3 d3
            go_wp2_with fail
            refine (equal_is W6 W6.heap.size _ _ _ 4 _ 4 v fam HV6.out HF6.out (Nat.le_refl _) (by omega) (by omega)).mono ?_
            rintro e W7 ⟨rfl, hB⟩
            have HS7 := Lib.hid (HS6.out.below hB)
            clear hB HS6 HV6 HF6
            have HQ := Lib.hid (HSt.out (decide (v = fam)) (by rw [HEv.out]; rfl))
            clear HSt
            generalize decide (v = fam) = q at *
            have d3 : W7.cell? ⟨w.heap.size, 3, none⟩ = some (.bool h'.ev) := HS7.out.box.cell 3
            have f3 := HS7.out.box.frozen 3
            have HSet := Lib.hid (HS7.out.set (h' := { h' with ev := q }) 3 (.bool q) rfl)
            go_wp2
            exact wc_close HSet.out HC.out HQ.out HR'.out HOk.out HOv.out HLt.out HPos.out
        have e1 : (k == 1) = false := by simpa using h1
        by_cases h2 : k = 2
        · subst h2
          have hst : ∀ q : Bool, (h'.rf || decide (v = [])) = q → capStep h' 2 v = some { h' with rf := q } := fun q hq => by unfold capStep; rw [if_neg (by decide), if_pos rfl, hq]
          have HSt := Lib.hid hst
          have f5 := HS5.out.box.frozen 5
          clear hst h1
          cases hrf : h'.rf with
          | true =>
            have d5 : W5.cell? ⟨w.heap.size, 5, none⟩ = some (.bool true) := by rw [← hrf]; exact HS5.out.box.cell 5
            have HRf := Lib.hid hrf
            have HSet := Lib.hid (HS5.out.set (h' := { h' with rf := true }) 5 (.bool true) rfl)
            clear hrf
            go_wp2
            exact wc_close HSet.out HC.out (HSt.out true (by rw [HRf.out]; rfl)) HR'.out HOk.out HOv.out HLt.out HPos.out
          | false =>
            have d5 : W5.cell? ⟨w.heap.size, 5, none⟩ = some (.bool false) := by rw [← hrf]; exact HS5.out.box.cell 5
            have e5 : ((n5 : Int) == 0) = decide (v = []) := by rw [HNv.out]; cases v <;> simp <;> omega
            have HQ := Lib.hid (HSt.out (decide (v = [])) (by rw [hrf]; rfl))
            have HSet := Lib.hid (HS5.out.set (h' := { h' with rf := decide (v = []) }) 5 (.bool (decide (v = []))) rfl)
            clear hrf HSt
            generalize decide (v = []) = q at *
            go_wp2
            exact wc_close HSet.out HC.out HQ.out HR'.out HOk.out HOv.out HLt.out HPos.out
        have e2 : (k == 2) = false := by simpa using h2
        by_cases h6 : k = 65
        · subst h6
          clear h1 h2
          by_cases h4 : n5 = 4
          · have e4 : ((n5 : Int) != 4) = false := by rw [h4]; rfl
            have hv4 : v.length = 4 := by rw [← HNv.out]; exact h4
            have HSt : Hid (capStep h' 65 v = some { h' with wd := true, as_ := numOf v }) := Lib.hid (by unfold capStep; rw [if_neg (by decide), if_neg (by decide), if_pos rfl, if_pos hv4])
            have hnb := numOf_bd4 HOv.out (by omega : v.length ≤ 4)
            have HNm := Lib.hid (num4_is hv4)
            have hmod : numOf v % 4294967296 = numOf v := Int.emod_eq_of_lt hnb.1 hnb.2
            clear hv4 h4
            go_wp2_with fail
            refine (new_isX W5 A5 n5 n5 v HV.out (by omega)).mono ?_
            rintro e W6 ⟨g2, A2, c2, rfl, hg2, hcx, _, hB⟩
            have HS6 := Lib.hid (HS5.out.below hB)
            have HC6 := Lib.hid hcx.toIsCurT
            have HG2 := Lib.hid (Nat.lt_of_lt_of_le HS5.out.box.lt hg2)
            have HG3 := Lib.hid (Nat.lt_of_lt_of_le HS5.out.cur.toIsCurT.lt hg2)
            have hg2' := hg2
            clear hcx hB HV
            go_wp2_with fail
            refine (num_is W6 g2 v 0 0 4 HC6.out).mono ?_
            rintro e W7 ⟨rfl, _, hgr⟩
            rw [HNm.out]
            clear HNm
            generalize numOf v = N at *
            have hS7 : WcS A0 c0 w W7 w.heap.size g l a' h' := HS6.out.apart hgr HG3.out
            have HS7 := Lib.hid hS7
            clear hgr hS7 HS6 HC6 HS5
            have d4 : W7.cell? ⟨w.heap.size, 4, none⟩ = some (.bool h'.wd) := HS7.out.box.cell 4
            have f4 := HS7.out.box.frozen 4
            have hset1 := HS7.out.set (h' := { h' with wd := true }) 4 (.bool true) rfl
            have d0 : (W7.setCell ⟨w.heap.size, 4, none⟩ (.bool true)).cell? ⟨w.heap.size, 0, none⟩ = some (.int .u32 h'.as_) := hset1.box.cell 0
            have f0 := hset1.box.frozen 0
            have HSet := Lib.hid (hset1.set (h' := { h' with wd := true, as_ := N }) 0 (.int .u32 N) rfl)
            clear hset1
            go_wp2
            exact wc_close HSet.out HC.out HSt.out HR'.out HOk.out HOv.out HLt.out HPos.out
          · have e4 : ((n5 : Int) != 4) = true := by simp; omega
            have hv4 : ¬ v.length = 4 := by rw [← HNv.out]; exact h4
            have HSt : Hid (capStep h' 65 v = none) := Lib.hid (by unfold capStep; rw [if_neg (by decide), if_neg (by decide), if_pos rfl, if_neg hv4])
            have HC2 : Hid (capsR h l = none) := Lib.hid (by rw [HC.out, HSt.out])
            obtain ⟨old, ho, hos⟩ := HS5.out.res
            have HRes := Lib.hid ho
            have HLw := Lib.hid HS5.out.low
            clear hv4 ho h4
            go_wp2_with (refine h_store rfl _ _ rfl (w.heap.size + 1) hl0 rfl rfl 24 old HRes.out hos ?_)
            try simp only [Exit.inBlock, Exit.then]
            exact cap_end rfl _ w W5 w.heap.size (Nat.le_refl _) HLw.out old HRes.out hl0 _ rfl rfl rfl (fun hb => ⟨by rw [HC2.out]; rfl, hb⟩)
        have e6 : (k == 65) = false := by simpa using h6
        have HSt : Hid (capStep h' k v = some h') := Lib.hid (by unfold capStep; rw [if_neg h1, if_neg h2, if_neg h6])
        clear h1 h2 h6
        go_wp2
        exact wc_close HS5.out HC.out HSt.out HR'.out HOk.out HOv.out HLt.out HPos.out
    · have hal : a = l.length := by have := HSr.out.cur.toIsCurT.le; omega
      have HC : Hid (capsR h l = some h') := Lib.hid (by rw [HCap.out, hal, List.drop_length]; rfl)
      have hp : ¬ (0 : Int) < (l.length : Int) - a := by omega
      obtain ⟨old, ho, hos⟩ := HS4.out.res
      have HRes := Lib.hid ho
      have HLw := Lib.hid HS4.out.low
      have HBx := Lib.hid HS4.out.box
      clear ho hal ha HSr HS4 HCap
      go_wp2_with (first
        | (refine h_fetch rfl _ rfl w.heap.size h' 24 rfl HBx.out ?_)
        | (refine h_store rfl _ _ rfl (w.heap.size + 1) h' rfl rfl 24 old HRes.out hos ?_))
      try simp only [Exit.inBlock, Exit.then]
      exact cap_end rfl _ w W4 w.heap.size (Nat.le_refl _) HLw.out old HRes.out h' _ rfl rfl rfl (fun hb => ⟨by rw [HC.out]; rfl, hb⟩)
end Go.Proofs.YtgfjjkckamppoaaDoor
