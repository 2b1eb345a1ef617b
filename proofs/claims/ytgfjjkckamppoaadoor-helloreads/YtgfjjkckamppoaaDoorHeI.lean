/-
  Layer 8: withParameters.
-/
import Derived.Test.YtgfjjkckamppoaaDoorHeH
namespace Go.Proofs.YtgfjjkckamppoaaDoor
open Go.RowKit
set_option maxRecDepth 100000
set_option linter.unusedSimpArgs false
set_option linter.unusedVariables false

/-- The memory of withParameters: the hello's box b, the variables that are told, a cursor. -/
structure WpS (A0 : Option Addr) (c0 : Nat) (w W : World) (b g : Nat) (l : List Int) (a : Nat) (h : Hl) : Prop where
  box : HlAt W b h
  lb : w.heap.size ≤ b
  res : ResS w W (b + 1)
  cur : IsCurX A0 c0 W g l a 0
  env : EnvF W
  pos : 0 < w.heap.size
  gl : b + 2 < g
  ap : 0 < l.length → ∀ x, A0 = some x → x.block ≠ b
section
variable {A0 : Option Addr} {c0 : Nat} {w W W' : World} {b g a a' : Nat} {l : List Int} {h h' : Hl}
theorem WpS.below (k : WpS A0 c0 w W b g l a h) (hB : Below W.heap.size W W') : WpS A0 c0 w W' b g l a h :=
  ⟨k.box.below hB k.box.lt, k.lb, k.res.below hB, k.cur.keep (hB.mono k.cur.toIsCurT.lt), k.env.below hB, k.pos, k.gl, k.ap⟩
theorem WpS.step (k : WpS A0 c0 w W b g l a h) (hc : IsCurX A0 c0 W' g l a' 0) (hg : W.grownBy W' (some g)) : WpS A0 c0 w W' b g l a' h := by
  have := k.gl
  have := k.lb
  have := k.pos
  exact ⟨k.box.grown hg (fun e => by injection e with e; omega), k.lb, k.res.grown hg (by omega) (by omega) (by omega), hc, k.env.grown hg (by omega), k.pos, k.gl, k.ap⟩
theorem WpS.resg (k : WpS A0 c0 w W b g l a h) (hg : W.grownBy W' (some g)) : ResS w W' (b + 1) := by
  have := k.gl
  have := k.lb
  exact k.res.grown hg (by omega) (by omega) (by omega)
theorem WpS.row (k : WpS A0 c0 w W b g l a h) (h' : Hl) : WpS A0 c0 w (W.setRow b (hlc h').toArray) b g l a h' := by
  obtain ⟨o1, k1, z1⟩ := k.res.hb
  obtain ⟨o2, k2, z2⟩ := k.res.fb
  have := k.gl
  have := k.lb
  have hp := k.pos
  have hB : Below b W (W.setRow b (hlc h').toArray) := below_setRow W b _ (Nat.le_refl _)
  refine ⟨Blk.setRow k.box _, k.lb, ⟨k.res.low.trans (hB.mono k.lb), k.res.lb, ⟨o1, k1.setRow_other8 (by omega) _, z1⟩, ⟨o2, k2.setRow_other8 (by omega) _, z2⟩⟩, ?_, k.env.low hB (by omega), k.pos, k.gl, k.ap⟩
  exact k.cur.far (b := b) (fun i hi => setRow_other W b i _ hi) (by omega) k.ap
end
def parsO (h : Hl) (l : List Int) : Except (Int × List Int) Hl := match parsR h l with
  | .error s => .error (s, [])
  | .ok h' => .ok h'
theorem wp_close {A0 : Option Addr} {c0 : Nat} {w W wr : World} {b g a a' : Nat} {l r v : List Int} {h h' h2 : Hl} (hS : WpS A0 c0 w W b g l a' h2)
    (hC : parsR h l = parsR h2 r) (hr : r = l.drop a') (hok : HlOk h2) (hlt : l.length - a' + 2 ≤ l.length - a) (hpos : posOf wr g = a) :
    (∃ a h', WpS A0 c0 w W b g l a h' ∧ parsR h l = parsR h' (l.drop a) ∧ HlOk h') ∧ l.length - posOf W g < l.length - posOf wr g := by
  refine ⟨⟨a', h2, hS, by rw [hC, hr], hok⟩, ?_⟩
  rw [posOf_cur hS.cur.toIsCurT, hpos]
  omega
set_option maxHeartbeats 2000000 in
theorem wpars_is (w : World) (E : EnvF w) (h : Hl) (hk : HlOk h) (A : Option Addr) (n c : Nat) (l : List Int) (hr : Rd w w.heap.size A n l) (hn : n ≤ 1000) : Calls Tryd.prog 45 #[.agg (hlc h).toArray, .slice A n c] w (ToldH w (parsO h l)) := by
  have HO := Lib.hid hr.oct
  have hpos := E.lt
  have hres := res_new2 w (.cells (hlc h).toArray 24)
  have HX := Lib.hid (((Blk.new w 24 (hlc h).toArray).alloc (.cells #[.int .u32 0, .int .i64 0, .int .u32 0, .bool false, .bool false, .bool false] 24)).alloc (.cells #[.int .i64 0, .int .i64 0, .slice none 0 0] 34))
  have HE := Lib.hid (E.below hres.low)
  have HL := Lib.hid (hr.up hres.low)
  have HK := Lib.hid hk
  have hs2 : (((w.alloc (.cells (hlc h).toArray 24)).alloc (.cells #[.int .u32 0, .int .i64 0, .int .u32 0, .bool false, .bool false, .bool false] 24)).alloc (.cells #[.int .i64 0, .int .i64 0, .slice none 0 0] 34)).heap.size = w.heap.size + 3 := by simp
  have HS2 := Lib.hid hs2
  have HR := Lib.hid hres
  clear hr hres E hk hs2
  go_enter Tryd.func45, Tryd.ntmps45
  go_wp2_with fail
  refine (new_isX _ A n c l HL.out (by omega)).mono ?_
  generalize (((w.alloc (.cells (hlc h).toArray 24)).alloc (.cells #[.int .u32 0, .int .i64 0, .int .u32 0, .bool false, .bool false, .bool false] 24)).alloc (.cells #[.int .i64 0, .int .i64 0, .slice none 0 0] 34)) = w2 at *
  rintro e w3 ⟨g, A0, c0, rfl, hg, hcx, hap, hB3⟩
  have h2 := HS2.out
  have HS : Hid (WpS A0 c0 w w3 w.heap.size g l 0 h) := Lib.hid ⟨HX.out.below hB3 HX.out.lt, Nat.le_refl _, HR.out.below hB3, hcx, HE.out.below hB3, hpos, by omega, fun hl x hx => by have := hap hl x hx; omega⟩
  clear hcx hB3 hap HX HR HE HL HS2 h2 hg
  go_wp2
  go_loopw [8] (fun _ wr => ∃ a h', WpS A0 c0 w wr w.heap.size g l a h' ∧ parsR h l = parsR h' (l.drop a) ∧ HlOk h') (fun _ wr => l.length - posOf wr g)
  case atStart => exact ⟨0, h, HS.out, rfl, HK.out⟩
  case round =>
    obtain ⟨a, h', hS, hcap, hok⟩ := hrel
    have HSr := Lib.hid hS
    have HCap := Lib.hid hcap
    have HOk := Lib.hid hok
    have HPos := Lib.hid (posOf_cur hS.cur.toIsCurT)
    clear hS hcap hok HS
    go_wp2_with fail
    refine (leftC_is _ g l a 0 HSr.out.cur.toIsCurT).mono ?_
    rintro e w4 ⟨rfl, k1, rfl⟩
    have HS4 := Lib.hid (HSr.out.below (below_drewN (Below.refl _ _) k1))
    generalize wr.drewN k1 = W4 at *
    by_cases ha : a < l.length
    · have hp : (0 : Int) < (l.length : Int) - a := by omega
      go_wp2_with fail
      refine (rpart_is W4 g l a HS4.out.cur HO.out ha).mono ?_
      have hd0 : l.drop a ≠ [] := by intro e; have := congrArg List.length e; simp at this; omega
      rintro e W5 ⟨hg5, k, A5, n5, hk0, hk1, hpp⟩
      cases hpt : part1 (l.drop a) with
      | none =>
        rw [hpt] at hpp
        simp only at hpp
        subst hpp
        have HC : Hid (parsO h l = .error (0, [])) := Lib.hid (by unfold parsO; rw [HCap.out, parsR_none hd0 hpt])
        have HS5 := Lib.hid (HS4.out.resg hg5)
        clear hg5 HSr HS4 HCap
        go_wp2_with fail
        refine (refused_is W5 0 none 0 0).mono ?_
        rintro e W6 ⟨rfl, hB⟩
        have HS6 := Lib.hid (HS5.out.below hB)
        clear hB HS5
        go_wp2_with (first
          | (refine res_store HS6.out rfl _ _ rfl hl0 rfl rfl ?_)
          | (refine res_store2 HS6.out hl0 rfl _ _ rfl 2 0 none 0 0 rfl rfl ?_))
        try simp only [Exit.inBlock, Exit.then]
        exact res_end rfl _ w W6 _ HS6.out hl0 2 0 none 0 0 _ rfl rfl rfl rfl (fun hb => by rw [HC.out]; exact ToldH.no w _ 0 hb)
      | some q =>
        obtain ⟨k', v, r⟩ := q
        rw [hpt] at hpp
        simp only at hpp
        obtain ⟨rfl, hnv, rfl, hnew, a', hcx, hr', ha'⟩ := hpp
        have ho5 := part1_oct (fun x hx => HO.out x (List.mem_of_mem_drop hx)) hpt
        have hlt := part1_lt hpt
        rw [hr', List.length_drop, List.length_drop] at hlt
        have HC := Lib.hid (HCap.out.trans (parsR_some hd0 hpt))
        have HS5 := Lib.hid (HS4.out.step hcx hg5)
        have HV := Lib.hid hnew.rd
        have HR' := Lib.hid hr'
        have HOv := Lib.hid ho5.2.1
        have hn5 : n5 ≤ 255 := by rw [hnv]; exact ho5.2.2.2
        have HLt := Lib.hid hlt
        clear hcx hg5 hnew hr' hpt hd0 ho5 hlt hnv HS4 HSr HCap
        by_cases h2 : k = 2
        · subst h2
          go_wp2_with (refine h_fetch rfl _ rfl w.heap.size h' 24 rfl HS5.out.box ?_)
          refine (wcaps_is W5 HS5.out.env h' HOk.out A5 n5 n5 v HV.out (by omega)).mono ?_
          rintro e W6 ⟨rfl, hB⟩
          have HS6 := Lib.hid (HS5.out.below hB)
          clear hB HS5 HV
          cases hcr : capsR h' v with
          | none =>
            have HC2 : Hid (parsO h l = .error (0, [])) := Lib.hid (by unfold parsO; rw [HC.out, if_pos trivial, hcr])
            have HRow := Lib.hid (HS6.out.row hl0)
            clear hcr HC
            simp only [capV]
            go_wp2_with (refine h_store rfl _ _ rfl w.heap.size hl0 rfl rfl 24 _ HS6.out.box rfl ?_)
            refine (refused_is _ 0 none 0 0).mono ?_
            generalize (W6.setRow w.heap.size (hlc hl0).toArray) = W7 at *
            rintro e W8 ⟨rfl, hB⟩
            have HS8 := Lib.hid (HRow.out.res.below hB)
            clear hB HRow HS6
            go_wp2_with (first
              | (refine res_store HS8.out rfl _ _ rfl hl0 rfl rfl ?_)
              | (refine res_store2 HS8.out hl0 rfl _ _ rfl 2 0 none 0 0 rfl rfl ?_))
            try simp only [Exit.inBlock, Exit.then]
            exact res_end rfl _ w W8 _ HS8.out hl0 2 0 none 0 0 _ rfl rfl rfl rfl (fun hb => by rw [HC2.out]; exact ToldH.no w _ 0 hb)
          | some h3 =>
            have hC3 := HC.out
            rw [if_pos trivial, hcr] at hC3
            have HC3 := Lib.hid hC3
            have HOk3 := Lib.hid (capsR_ok HOk.out HOv.out hcr)
            have HRow := Lib.hid (HS6.out.row h3)
            clear hcr hC3 HC
            simp only [capV]
            go_wp2_with (refine h_store rfl _ _ rfl w.heap.size h3 rfl rfl 24 _ HS6.out.box rfl ?_)
            exact wp_close (v := v) (h' := h') HRow.out HC3.out HR'.out HOk3.out HLt.out HPos.out
        · have e2 : (k != 2) = true := by simpa using h2
          have HC2 : Hid (parsO h l = .error (4, [])) := Lib.hid (by unfold parsO; rw [HC.out, if_neg h2])
          have HRes := Lib.hid HS5.out.res
          clear h2 HC HS5
          go_wp2_with fail
          refine (refused_is W5 4 none 0 0).mono ?_
          rintro e W6 ⟨rfl, hB⟩
          have HS6 := Lib.hid (HRes.out.below hB)
          clear hB HRes
          go_wp2_with (first
            | (refine res_store HS6.out rfl _ _ rfl hl0 rfl rfl ?_)
            | (refine res_store2 HS6.out hl0 rfl _ _ rfl 2 4 none 0 0 rfl rfl ?_))
          try simp only [Exit.inBlock, Exit.then]
          exact res_end rfl _ w W6 _ HS6.out hl0 2 4 none 0 0 _ rfl rfl rfl rfl (fun hb => by rw [HC2.out]; exact ToldH.no w _ 4 hb)
    · have hal : a = l.length := by have := HSr.out.cur.toIsCurT.le; omega
      have HC : Hid (parsO h l = .ok h') := Lib.hid (by unfold parsO; rw [HCap.out, hal, List.drop_length]; rfl)
      have hp : ¬ (0 : Int) < (l.length : Int) - a := by omega
      have HRes := Lib.hid HS4.out.res
      have HBx := Lib.hid HS4.out.box
      clear hal ha HSr HS4 HCap
      go_wp2_with (first
        | (refine h_fetch rfl _ rfl w.heap.size h' 24 rfl HBx.out ?_)
        | (refine res_store HRes.out rfl _ _ rfl h' rfl rfl ?_)
        | (refine res_store2 HRes.out h' rfl _ _ rfl 0 0 none 0 0 rfl rfl ?_))
      try simp only [Exit.inBlock, Exit.then]
      exact res_end rfl _ w W4 _ HRes.out h' 0 0 none 0 0 _ rfl rfl rfl rfl (fun hb => by rw [HC.out]; exact ⟨hb, rfl⟩)
end Go.Proofs.YtgfjjkckamppoaaDoor
