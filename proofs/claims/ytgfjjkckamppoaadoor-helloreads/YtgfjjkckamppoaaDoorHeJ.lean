/-
  Layer 8: Read.
-/
import Derived.Test.YtgfjjkckamppoaaDoorHeI
import Derived.Deep.DeepCutAuto
namespace Go.Proofs.YtgfjjkckamppoaaDoor
open Go.RowKit
set_option maxRecDepth 100000
set_option linter.unusedSimpArgs false
set_option linter.unusedVariables false

theorem numk_ok (l : List Int) (at_ k : Nat) (hk : 1 ≤ k) (h8 : k ≤ 8) (h : at_ + k ≤ l.length) : numVal l at_ 0 k = numOf ((l.drop at_).take k) ∧ numAt l at_ 0 k = at_ + k ∧ numErr l at_ 0 k = 0 := by
  have hok : numOk (k : Int) := ⟨by omega, by omega⟩
  refine ⟨?_, ?_, ?_⟩
  · unfold numVal stepTook; rw [if_pos hok, if_pos (by omega)]; rfl
  · unfold numAt stepAt; rw [if_pos hok, if_pos (by omega)]; rfl
  · unfold numErr stepErr; rw [if_pos hok, if_pos rfl, if_neg (by omega), if_neg (by omega)]
theorem skip_ok (l : List Int) (at_ k : Nat) (h : at_ + k ≤ l.length) : stepAt l at_ 0 k = at_ + k ∧ stepErr l at_ 0 k = 0 := by
  refine ⟨?_, ?_⟩
  · unfold stepAt; rw [if_pos (by omega)]; rfl
  · unfold stepErr; rw [if_pos rfl, if_neg (by omega), if_neg (by omega)]
theorem take_ok (l : List Int) (at_ : Nat) (h : at_ ≤ l.length) : stepTook l at_ 0 ((l.length : Int) - at_) = l.drop at_ := by
  unfold stepTook
  rw [if_pos (by omega), show ((l.length : Int) - at_).toNat = l.length - at_ by omega, List.take_of_length_le (by simp)]
theorem rd_byte {w : World} {B n i : Nat} {A : Option Addr} {l : List Int} (h : Rd w B A n l) (hi : i < n) : ∃ b off, A = some ⟨b, off, none⟩ ∧ w.cell? ⟨b, off + i, none⟩ = some (.int .u8 (l.getD i 0)) := by
  obtain ⟨b, off, e, _, hc⟩ := h.at_ (by omega)
  exact ⟨b, off, e, hc i hi⟩
/-- The memory of Read: the variables that are told, the hello's box. -/
structure RgS (w W : World) (b : Nat) (h : Hl) : Prop where
  res : ResS w W w.heap.size
  box : HlAt W b h
  env : EnvF W
  lb : w.heap.size + 1 < b
theorem RgS.below {w W W' : World} {b : Nat} {h : Hl} (k : RgS w W b h) (hB : Below W.heap.size W W') : RgS w W' b h := ⟨k.res.below hB, k.box.below hB k.box.lt, k.env.below hB, k.lb⟩
theorem ResS.row {w W : World} {b g : Nat} (k : ResS w W b) (hg : w.heap.size ≤ g) (h1 : g ≠ b) (h2 : g ≠ b + 1) (cs : Array Value) : ResS w (W.setRow g cs) b := by
  obtain ⟨o1, k1, z1⟩ := k.hb
  obtain ⟨o2, k2, z2⟩ := k.fb
  exact ⟨k.low.trans (below_setRow W g _ hg), k.lb, ⟨o1, k1.setRow_other8 (by omega) _, z1⟩, ⟨o2, k2.setRow_other8 (by omega) _, z2⟩⟩
/-- What withParameters has told lies in its places. -/
def CutR (w wx : World) (b : Nat) (r : Except (Int × List Int) Hl) (s7 s8 : Value) : Prop := ResS w wx w.heap.size ∧ match r with
  | .ok h => s8 = .bool true ∧ HlAt wx b h
  | .error (s, d) => s8 = .bool false ∧ ∃ q A n c, s7 = .pointer (some ⟨q, 0, none⟩) ∧ Blk wx q 34 #[.int .i64 2, .int .i64 s, .slice A n c] ∧ n ≤ c ∧ Rd wx wx.heap.size A n d ∧ w.heap.size + 1 < q
/-- The same, whatever the hello's box holds. -/
structure RgT (w W : World) (b : Nat) : Prop where
  res : ResS w W w.heap.size
  box : ∃ old, Blk W b 24 old ∧ old.size = 6
  env : EnvF W
  pos : 0 < w.heap.size
  lb : w.heap.size + 1 < b
theorem RgT.below {w W W' : World} {b : Nat} (k : RgT w W b) (hB : Below W.heap.size W W') : RgT w W' b := by
  obtain ⟨o, h1, h2⟩ := k.box
  exact ⟨k.res.below hB, ⟨o, h1.below hB h1.lt, h2⟩, k.env.below hB, k.pos, k.lb⟩
theorem RgT.grown {w W W' : World} {b g : Nat} (k : RgT w W b) (hG : W.grownBy W' (some g)) (hg : w.heap.size + 1 < g) (hb : g < b) : RgT w W' b := by
  obtain ⟨o, h1, h2⟩ := k.box
  have := k.pos
  exact ⟨k.res.grown hG (by omega) (by omega) (by omega), ⟨o, h1.grown hG (fun e => by injection e with e; omega), h2⟩, k.env.grown hG (by omega), k.pos, k.lb⟩
theorem RgT.lt {w W : World} {b : Nat} (k : RgT w W b) : b < W.heap.size := by
  obtain ⟨o, h1, h2⟩ := k.box
  exact h1.lt
theorem RgT.row {w W : World} {b : Nat} (k : RgT w W b) (cs : Array Value) (hz : cs.size = 6) : RgT w (W.setRow b cs) b := by
  obtain ⟨o, h1, h2⟩ := k.box
  have hl := k.lb
  have := k.pos
  have hB : Below b W (W.setRow b cs) := below_setRow W b _ (Nat.le_refl _)
  exact ⟨k.res.row (by omega) (by omega) (by omega) cs, ⟨cs, Blk.setRow h1 cs, hz⟩, k.env.low hB (by omega), k.pos, k.lb⟩
theorem RgT.far {w W : World} {b g : Nat} (k : RgT w W b) (hg : b < g) (cs : Array Value) : RgT w (W.setRow g cs) b := by
  obtain ⟨o, h1, h2⟩ := k.box
  have hl := k.lb
  have := k.pos
  have hB : Below g W (W.setRow g cs) := below_setRow W g _ (Nat.le_refl _)
  exact ⟨k.res.row (by omega) (by omega) (by omega) cs, ⟨o, h1.setRow_other8 (by omega) cs, h2⟩, k.env.low hB (by omega), k.pos, k.lb⟩
theorem RgS.t {w W : World} {b : Nat} {h : Hl} (k : RgS w W b h) (hp : 0 < w.heap.size) : RgT w W b := ⟨k.res, ⟨_, k.box, rfl⟩, k.env, hp, k.lb⟩
theorem told_any {w' : World} {e : Ending} {h : Hl} {l : List Int} (hp : match parsO h l with
  | .ok h => e = .returned (.tuple #[.agg (hlc h).toArray, .agg #[.int .i64 0, .int .i64 0, .slice none 0 0], .bool true])
  | .error (s, d) => ∃ A n c, e = .returned (.tuple #[.agg (hlc hl0).toArray, .agg #[.int .i64 2, .int .i64 s, .slice A n c], .bool false]) ∧ n ≤ c ∧ Rd w' w'.heap.size A n d) :
    ∃ h2 c s A n k bb, e = .returned (.tuple #[.agg (hlc h2).toArray, .agg #[.int .i64 c, .int .i64 s, .slice A n k], .bool bb]) ∧ ((bb = true ∧ parsO h l = .ok h2) ∨ (bb = false ∧ parsO h l = .error (s, []) ∧ c = 2 ∧ n = 0)) := by
  cases hq : parsR h l with
  | ok h2 =>
    have hr : parsO h l = .ok h2 := by unfold parsO; rw [hq]
    rw [hr] at hp ⊢
    exact ⟨h2, 0, 0, none, 0, 0, true, hp, Or.inl ⟨rfl, rfl⟩⟩
  | error s =>
    have hr : parsO h l = .error (s, []) := by unfold parsO; rw [hq]
    rw [hr] at hp ⊢
    obtain ⟨A, n, c, he, _, hrd⟩ := hp
    exact ⟨hl0, 2, s, A, n, c, false, he, Or.inr ⟨rfl, rfl, rfl, hrd.len.symm⟩⟩
theorem told_cut {w wx : World} {b q : Nat} {r : Except (Int × List Int) Hl} {h2 : Hl} {c s : Int} {A : Option Addr} {n k : Nat} {bb : Bool} (hres : ResS w wx w.heap.size) (hb : HlAt wx b h2) (hq : Blk wx q 34 #[.int .i64 c, .int .i64 s, .slice A n k]) (hlt : w.heap.size + 1 < q)
    (hf : (bb = true ∧ r = .ok h2) ∨ (bb = false ∧ r = .error (s, []) ∧ c = 2 ∧ n = 0)) : CutR w wx b r (.pointer (some ⟨q, 0, none⟩)) (.bool bb) := by
  rcases hf with ⟨rfl, rfl⟩ | ⟨rfl, rfl, rfl, rfl⟩
  · exact ⟨hres, rfl, hb⟩
  · exact ⟨hres, rfl, q, A, 0, k, rfl, hq, Nat.zero_le _, Rd.nil_ _, hlt⟩
theorem parsO_ok {h h' : Hl} {l : List Int} (hk : HlOk h) (ho : Oct l) (hs : parsO h l = .ok h') : HlOk h' := by
  unfold parsO at hs
  split at hs
  · cases hs
  · rename_i h2 hq
    injection hs with hs
    subst hs
    exact parsR_ok hk ho hq
theorem parsO_err {h : Hl} {l d : List Int} {s : Int} (hs : parsO h l = .error (s, d)) : d = [] := by
  unfold parsO at hs
  split at hs
  · injection hs with hs
    injection hs with _ hs
    exact hs.symm
  · cases hs
theorem judge_err {h : Hl} {d : List Int} {s : Int} (hs : judgeR h = .error (s, d)) : d = [] := by
  unfold judgeR at hs
  repeat' split at hs
  all_goals first | (injection hs with hs; injection hs with _ hs; exact hs.symm) | (cases hs)
theorem told_judge {w' : World} {e : Ending} {h : Hl} (hp : match judgeR h with
  | .ok h => e = .returned (.tuple #[.agg (hlc h).toArray, .agg #[.int .i64 0, .int .i64 0, .slice none 0 0], .bool true])
  | .error (s, d) => ∃ A n c, e = .returned (.tuple #[.agg (hlc hl0).toArray, .agg #[.int .i64 2, .int .i64 s, .slice A n c], .bool false]) ∧ n ≤ c ∧ Rd w' w'.heap.size A n d) :
    ∃ h2 c s A n k bb, e = .returned (.tuple #[.agg (hlc h2).toArray, .agg #[.int .i64 c, .int .i64 s, .slice A n k], .bool bb]) ∧ ((bb = true ∧ judgeR h = .ok h2 ∧ c = 0 ∧ s = 0 ∧ A = none ∧ n = 0 ∧ k = 0) ∨ (bb = false ∧ h2 = hl0 ∧ judgeR h = .error (s, []) ∧ c = 2 ∧ n = 0)) := by
  cases hr : judgeR h with
  | ok h2 =>
    rw [hr] at hp
    exact ⟨h2, 0, 0, none, 0, 0, true, hp, Or.inl ⟨rfl, rfl, rfl, rfl, rfl, rfl, rfl⟩⟩
  | error q =>
    obtain ⟨s, d⟩ := q
    have hd := judge_err hr
    subst hd
    rw [hr] at hp
    obtain ⟨A, n, c, he, _, hrd⟩ := hp
    exact ⟨hl0, 2, s, A, n, c, false, he, Or.inr ⟨rfl, rfl, rfl, rfl, hrd.len.symm⟩⟩
theorem told_fin {w w' : World} {r : Except (Int × List Int) Hl} {h2 : Hl} {c s : Int} {A : Option Addr} {n k : Nat} {bb : Bool} (hB : Below w.heap.size w w')
    (hf : (bb = true ∧ r = .ok h2 ∧ c = 0 ∧ s = 0 ∧ A = none ∧ n = 0 ∧ k = 0) ∨ (bb = false ∧ h2 = hl0 ∧ r = .error (s, []) ∧ c = 2 ∧ n = 0)) :
    ToldH w r (.returned (.tuple #[.agg (hlc h2).toArray, .agg #[.int .i64 c, .int .i64 s, .slice A n k], .bool bb])) w' := by
  rcases hf with ⟨rfl, rfl, rfl, rfl, rfl, rfl, rfl⟩ | ⟨rfl, rfl, rfl, rfl, rfl⟩
  · exact ⟨hB, rfl⟩
  · exact ⟨hB, A, 0, k, rfl, Nat.zero_le _, Rd.nil_ _⟩
theorem ResS.own1 {w W : World} {b : Nat} (k : ResS w W b) (cs : Array Value) (hz : cs.size = 6) : ResS w (W.setRow b cs) b := by
  obtain ⟨o1, k1, z1⟩ := k.hb
  obtain ⟨o2, k2, z2⟩ := k.fb
  exact ⟨k.low.trans (below_setRow W b _ k.lb), k.lb, ⟨cs, Blk.setRow k1 cs, hz⟩, ⟨o2, k2.setRow_other8 (by omega) _, z2⟩⟩
theorem ResS.own2 {w W : World} {b : Nat} (k : ResS w W b) (cs : Array Value) (hz : cs.size = 3) : ResS w (W.setRow (b + 1) cs) b := by
  obtain ⟨o1, k1, z1⟩ := k.hb
  obtain ⟨o2, k2, z2⟩ := k.fb
  exact ⟨k.low.trans (below_setRow W (b + 1) _ (Nat.le_succ_of_le k.lb)), k.lb, ⟨o1, k1.setRow_other8 (by omega) _, z1⟩, ⟨cs, Blk.setRow k2 cs, hz⟩⟩
/-- What stands behind the tests. -/
def fullR (h : Hl) (l : List Int) : Except (Int × List Int) Hl := match parsO h l with
  | .error e => .error e
  | .ok h' => judgeR h'
set_option maxHeartbeats 4000000 in
theorem read_go (w : World) (E : EnvF w) (A : Option Addr) (n c : Nat) (l : List Int) (hr : Rd w w.heap.size A n l) (h10 : 10 ≤ n) (h4 : l.getD 0 0 = 4) (h9 : (n : Int) - 10 = l.getD 9 0) (hd : Hl) (hhd : hd = headR l) (pl : List Int) (hpl : pl = l.drop 10) : Calls Tryd.prog 15 #[.slice A n c] w (ToldH w (fullR hd pl)) := by
  have hlen := hr.len
  have hoct := hr.oct
  have hb9 := hoct.getD 9
  have hn : n ≤ 1000 := by omega
  have hres := res_new w
  have HE := Lib.hid (E.below hres.low)
  have E0 := Lib.hid E.lt
  have HL := Lib.hid (hr.up hres.low)
  have HR := Lib.hid hres
  have hs2 : ((w.alloc (.cells #[.int .u32 0, .int .i64 0, .int .u32 0, .bool false, .bool false, .bool false] 24)).alloc (.cells #[.int .i64 0, .int .i64 0, .slice none 0 0] 34)).heap.size = w.heap.size + 2 := by simp
  have HS2 := Lib.hid hs2
  obtain ⟨b0, off, rfl, c0⟩ := rd_byte HL.out (i := 0) (by omega)
  obtain ⟨b0', off', e, c9⟩ := rd_byte HL.out (i := 9) (by omega)
  injection e with e
  injection e with e1 e2
  subst e1 e2
  rw [h4, Nat.add_zero] at c0
  rw [← h9] at c9
  have HO := Lib.hid hoct
  have HLen := Lib.hid hlen
  have H4 := Lib.hid h4
  clear hr hres E hs2 hb9 hlen hoct h9 h4
  go_enter Tryd.func15, Tryd.ntmps15
  go_wp2_with fail
  refine (new_is _ _ n c l HL.out (by omega)).mono ?_
  generalize ((w.alloc (.cells #[.int .u32 0, .int .i64 0, .int .u32 0, .bool false, .bool false, .bool false] 24)).alloc (.cells #[.int .i64 0, .int .i64 0, .slice none 0 0] 34)) = w2 at *
  rintro e w3 ⟨g, rfl, hg, hcx, hB⟩
  have hgw : w.heap.size + 1 < g := by have := HS2.out; omega
  have HR3 := Lib.hid (HR.out.below hB)
  have HE3 := Lib.hid (HE.out.below hB)
  have HC3 := Lib.hid hcx
  clear hcx hB HR HE HL c0 c9 HS2 hg
  go_wp2_with fail
  refine (skip_is w3 g l 0 0 1 HC3.out).mono ?_
  rintro e w4 ⟨rfl, hc, hG⟩
  obtain ⟨s1, s2⟩ := skip_ok l 0 1 (by have := HLen.out; omega)
  simp only [Nat.zero_add, Int.cast_ofNat_Int] at s1 s2
  rw [s1, s2] at hc
  have HR4 := Lib.hid (HR3.out.grown hG (by omega) (by omega) (by omega))
  have HE4 := Lib.hid (HE3.out.grown hG (by omega))
  have HC4 := Lib.hid hc
  clear hc hG HR3 HE3 HC3 s1 s2
  obtain ⟨n1, n2, n3⟩ := numk_ok l 1 2 (by omega) (by omega) (by have := HLen.out; omega)
  obtain ⟨m1, m2, m3⟩ := numk_ok l 3 2 (by omega) (by omega) (by have := HLen.out; omega)
  obtain ⟨o1, o2, o3⟩ := numk_ok l 5 4 (by omega) (by omega) (by have := HLen.out; omega)
  obtain ⟨s1, s2⟩ := skip_ok l 9 1 (by have := HLen.out; omega)
  simp only [Nat.reduceAdd, Int.cast_ofNat_Int] at n1 n2 n3 m1 m2 m3 o1 o2 o3 s1 s2
  have b1 := numOf_bd2 (oct_dt HO.out 1 2) (by simp; omega)
  have b2 := numOf_bd2 (oct_dt HO.out 3 2) (by simp; omega)
  have b3 := numOf_bd4 (oct_dt HO.out 5 4) (by simp; omega)
  have HHd : Hid (hd = ⟨numOf ((l.drop 1).take 2), numOf ((l.drop 3).take 2), numOf ((l.drop 5).take 4), false, false, false⟩) := Lib.hid hhd
  have HHk : Hid (HlOk hd) := Lib.hid (by rw [hhd]; exact headR_ok HO.out)
  clear hhd
  generalize numOf ((l.drop 1).take 2) = v1 at *
  generalize numOf ((l.drop 3).take 2) = v2 at *
  generalize numOf ((l.drop 5).take 4) = v3 at *
  have q1 : v1 % 4294967296 = v1 := Int.emod_eq_of_lt b1.1 (by omega)
  have q3 : v3 % 4294967296 = v3 := Int.emod_eq_of_lt b3.1 b3.2
  have HN := Lib.hid (And.intro n1 (And.intro n2 n3))
  have HM := Lib.hid (And.intro m1 (And.intro m2 m3))
  have HOo := Lib.hid (And.intro o1 (And.intro o2 o3))
  have HSk := Lib.hid (And.intro s1 s2)
  clear n1 n2 n3 m1 m2 m3 o1 o2 o3 s1 s2
  go_wp2_with fail
  refine (num_is w4 g l 1 0 2 HC4.out).mono ?_
  rintro e w5 ⟨rfl, hc, hG⟩
  rw [HN.out.2.1, HN.out.2.2] at hc
  rw [HN.out.1]
  have HR5 := Lib.hid (HR4.out.grown hG (by omega) (by omega) (by omega))
  have HE5 := Lib.hid (HE4.out.grown hG (by omega))
  have HC5 := Lib.hid hc
  clear hc hG HR4 HE4 HC4
  go_wp2_with fail
  refine (num_is w5 g l 3 0 2 HC5.out).mono ?_
  rintro e w6 ⟨rfl, hc, hG⟩
  rw [HM.out.2.1, HM.out.2.2] at hc
  rw [HM.out.1]
  have HR6 := Lib.hid (HR5.out.grown hG (by omega) (by omega) (by omega))
  have HE6 := Lib.hid (HE5.out.grown hG (by omega))
  have HC6 := Lib.hid hc
  clear hc hG HR5 HE5 HC5
  go_wp2_with fail
  refine (num_is w6 g l 5 0 4 HC6.out).mono ?_
  rintro e w7 ⟨rfl, hc, hG⟩
  rw [HOo.out.2.1, HOo.out.2.2] at hc
  rw [HOo.out.1]
  have HR7 := Lib.hid (HR6.out.grown hG (by omega) (by omega) (by omega))
  have HE7 := Lib.hid (HE6.out.grown hG (by omega))
  have hal := below_one8 w7 (.cells #[.int .u32 0, .int .i64 0, .int .u32 0, .bool false, .bool false, .bool false] 24)
  have hC8 := hc.keep (hal.mono hc.lt)
  have hbx := Blk.new w7 24 #[.int .u32 0, .int .i64 0, .int .u32 0, .bool false, .bool false, .bool false]
  have h7 : g < w7.heap.size := hc.lt
  have H7 := Lib.hid h7
  have HRow := Lib.hid (Blk.setRow hbx (hlc (hd)).toArray)
  have HBx := Lib.hid hbx
  have hrb := below_setRow (w7.alloc (.cells #[.int .u32 0, .int .i64 0, .int .u32 0, .bool false, .bool false, .bool false] 24)) w7.heap.size (hlc (hd)).toArray (B := w7.heap.size) (Nat.le_refl _)
  have HR8 := Lib.hid ((HR7.out.below hal).row (g := w7.heap.size) (by omega) (by omega) (by omega) (hlc (hd)).toArray)
  have HE8 := Lib.hid ((HE7.out.below hal).low hrb (by have := HE7.out.lt; omega))
  have HC8 := Lib.hid (hC8.keep (hrb.mono h7))
  clear hc hG HR6 HE6 HC6 hal hC8 hbx hrb HR7 HE7 h7 HN HM HOo
  go_wp2_with (refine h_store rfl _ _ rfl w7.heap.size (hd) rfl (by rw [HHd.out]; rfl) 24 _ HBx.out rfl ?_)
  refine (skip_is _ g l 9 0 1 HC8.out).mono ?_
  generalize ((w7.alloc (.cells #[.int .u32 0, .int .i64 0, .int .u32 0, .bool false, .bool false, .bool false] 24)).setRow w7.heap.size (hlc (hd)).toArray) = w8 at *
  rintro e w9 ⟨rfl, hc, hG⟩
  rw [HSk.out.1, HSk.out.2] at hc
  have h7 := H7.out
  have HS9 : Hid (RgS w w9 w7.heap.size (hd)) := Lib.hid ⟨HR8.out.grown hG (by omega) (by omega) (by omega), HRow.out.grown hG (fun e => by injection e with e; omega), HE8.out.grown hG (by omega), by omega⟩
  have HC9 := Lib.hid hc
  have HG9 : Hid (g < w7.heap.size) := H7
  clear hc hG HR8 HE8 HC8 HRow HBx h7 H7 HSk HHd q1 q3 b1 b2 b3
  go_wp2_with fail
  generalize w7.heap.size = b at *
  have hsm : l.length ≤ 1000 := by have := HLen.out; omega
  have HT : Hid (stepTook l 10 0 ((l.length : Int) - 10) = pl) := Lib.hid (by rw [hpl]; exact take_ok l 10 (by have := HLen.out; omega))
  have HTl : Hid (pl.length ≤ 1000) := Lib.hid (by rw [hpl]; simp; omega)
  have HOp : Hid (Oct pl) := Lib.hid (by rw [hpl]; exact fun x hx => HO.out x (List.mem_of_mem_drop hx))
  clear hpl
  go_cut [7, 8] (fun s7 s8 wx => CutR w wx b (parsO hd pl) s7 s8)
  case first =>
    have hS9 := HS9.out.below (below_drew8 w9)
    refine wp_region_held_drew (S := fun W => RgT w W b) (by kernel_rfl) (hS9.t E0.out) (fun hS => ?_)
    refine wpAnyH_take (i := 1) (oi := ⟨some 58, _, _, _, _, _⟩) (v := ?_) rfl (by kernel_rfl) (by kernel_rfl) (by kernel_rfl) (fun _ _ _ h => h) (Or.inl ⟨by rfl, ?_⟩) hS ?_
    rotate_left
    · intro wq hq
      first | (go_simp; done) | (go_simp; rfl)
    try simp only [Act.put, List.setIfInBounds_toArray, List.set_cons_zero, List.set_cons_succ]
    refine wpAnyH_take (i := 2) (oi := ⟨some 59, _, _, _, _, _⟩) (v := ?_) rfl (by kernel_rfl) (by kernel_rfl) (by kernel_rfl) (fun _ _ _ h => h) (Or.inl ⟨by rfl, ?_⟩) hS ?_
    rotate_left
    · intro wq hq
      first | (go_simp; done) | (go_simp; rfl)
    try simp only [Act.put, List.setIfInBounds_toArray, List.set_cons_zero, List.set_cons_succ]
    have hC : IsCur w9.drew g l 10 0 := HC9.out.drewN 1
    have hX := hS9.box
    clear HC9 HS9 hS9
    generalize w9.drew = W0 at *
    refine wpAnyH_ready (rs := [0, 3, 10]) (by kernel_rfl) (by simp) ?_
    refine (AllReadyH.cons (o := ⟨some 57, _, _, _, _, _⟩) rfl (fun K hK => ?_) (AllReadyH.cons (o := ⟨some 60, _, _, _, _, _⟩) rfl (fun K hK => ?_) (AllReadyH.cons (o := ⟨some 7, _, _, _, _, _⟩) rfl (fun K hK => ?_) AllReadyH.nil)))
    · rw [if_pos (by rfl)]
      refine wp_load_mid 24 _ rfl b 0 rfl (hlc hd) _ hX.range Tryd.underlying24 rfl hsz ?_
      refine hK.out _ _ (hS) (fun hS => ?_)
      clear hK K
      try simp only [Act.put, List.setIfInBounds_toArray, List.set_cons_zero, List.set_cons_succ]
      clear hX
      refine wpAnyH_ready (rs := [3, 10]) (by kernel_rfl) (by simp) ?_
      refine (AllReadyH.cons (o := ⟨some 60, _, _, _, _, _⟩) rfl (fun K hK => ?_) (AllReadyH.cons (o := ⟨some 7, _, _, _, _, _⟩) rfl (fun K hK => ?_) AllReadyH.nil))
      · rw [if_pos (by rfl)]
        go_wp2_with fail
        refine (leftC_is W0 g l 10 0 hC).mono ?_
        rintro e W ⟨rfl, kk, rfl⟩
        have hB := below_drewN (Below.refl W0.heap.size W0) kk
        have hSn := hS.below hB
        have hC2 := hC.drewN kk
        clear hS hC hB
        generalize W0.drewN kk = W2 at *
        refine hK.out _ _ (hSn) (fun hS => ?_)
        clear hK K
        try simp only [Act.put, List.setIfInBounds_toArray, List.set_cons_zero, List.set_cons_succ]
        clear hSn
        have hC := hC2
        clear hC2
        refine wpAnyH_ready (rs := [4, 10]) (by kernel_rfl) (by simp) ?_
        refine (AllReadyH.cons (o := ⟨some 61, _, _, _, _, _⟩) rfl (fun K hK => ?_) (AllReadyH.cons (o := ⟨some 7, _, _, _, _, _⟩) rfl (fun K hK => ?_) AllReadyH.nil))
        · rw [if_pos (by rfl)]
          go_wp2_with fail
          refine (take_is W2 g l 10 0 _ hC).mono ?_
          rintro e W3 ⟨A4, rfl, hnw, _, hG⟩
          rw [HT.out] at hnw
          rw [HT.out]
          have hSn := hS.grown hG hgw HG9.out
          have hV := hnw.rd
          clear hS hC hG hnw
          refine hK.out _ _ (hSn) (fun hS => ?_)
          clear hK K
          try simp only [Act.put, List.setIfInBounds_toArray, List.set_cons_zero, List.set_cons_succ]
          clear hSn
          refine wpAnyH_ready (rs := [5, 10]) (by kernel_rfl) (by simp) ?_
          refine (AllReadyH.cons (o := ⟨some 62, _, _, _, _, _⟩) rfl (fun K hK => ?_) (AllReadyH.cons (o := ⟨some 7, _, _, _, _, _⟩) rfl (fun K hK => ?_) AllReadyH.nil))
          · rw [if_pos (by rfl)]
            go_wp2_with fail
            refine (wpars_is W3 hS.env hd HHk.out A4 _ _ pl hV HTl.out).mono ?_
            rintro e W4 ⟨hB, hp⟩
            obtain ⟨h2, c2, s2, Af, nf, cf, bb, rfl, hfin⟩ := told_any hp
            have hSn := hS.below hB
            clear hS hV hB hp
            refine hK.out _ _ (hSn) (fun hS => ?_)
            clear hK K
            try simp only [Act.put, List.setIfInBounds_toArray, List.set_cons_zero, List.set_cons_succ]
            clear hSn
            refine wpAnyH_take (i := 6) (oi := ⟨some 56, _, _, _, _, _⟩) (v := ?_) rfl (by kernel_rfl) (by kernel_rfl) (by kernel_rfl) (fun _ _ _ h => h) (Or.inl ⟨by rfl, ?_⟩) hS ?_
            rotate_left
            · intro wq hq
              first | (go_simp; done) | (go_simp; rfl)
            try simp only [Act.put, List.setIfInBounds_toArray, List.set_cons_zero, List.set_cons_succ]
            refine wpAnyH_take (i := 7) (oi := ⟨some 63, _, _, _, _, _⟩) (v := ?_) rfl (by kernel_rfl) (by kernel_rfl) (by kernel_rfl) (fun _ _ _ h => h) (Or.inl ⟨by rfl, ?_⟩) hS ?_
            rotate_left
            · intro wq hq
              first | (go_simp; done) | (go_simp; rfl)
            try simp only [Act.put, List.setIfInBounds_toArray, List.set_cons_zero, List.set_cons_succ]
            refine wpAnyH_take (i := 8) (oi := ⟨some 64, _, _, _, _, _⟩) (v := ?_) rfl (by kernel_rfl) (by kernel_rfl) (by kernel_rfl) (fun _ _ _ h => h) (Or.inl ⟨by rfl, ?_⟩) hS ?_
            rotate_left
            · intro wq hq
              first | (go_simp; done) | (go_simp; rfl)
            try simp only [Act.put, List.setIfInBounds_toArray, List.set_cons_zero, List.set_cons_succ]
            refine wpAnyH_take (i := 9) (oi := ⟨some 65, _, _, _, _, _⟩) (v := ?_) rfl (by kernel_rfl) (by kernel_rfl) (by kernel_rfl) (fun _ _ _ h => h) (Or.inl ⟨by rfl, ?_⟩) hS ?_
            rotate_left
            · intro wq hq
              first | (go_simp; done) | (go_simp; rfl)
            try simp only [Act.put, List.setIfInBounds_toArray, List.set_cons_zero, List.set_cons_succ]
            refine wpAnyH_ready (rs := [10]) (by kernel_rfl) (by simp) ?_
            refine (AllReadyH.cons (o := ⟨some 7, _, _, _, _, _⟩) rfl (fun K hK => ?_) AllReadyH.nil)
            · rw [if_pos (by rfl)]
              go_wp2
              have hQ := Blk.new W4 34 #[.int .i64 0, .int .i64 0, .slice none 0 0]
              have hal := below_one8 W4 (.cells #[.int .i64 0, .int .i64 0, .slice none 0 0] 34)
              have hSn := hS.below hal
              have hql := hS.lt
              clear hS hal
              generalize (W4.alloc (.cells #[.int .i64 0, .int .i64 0, .slice none 0 0] 34)) = W5 at *
              generalize W4.heap.size = q at *
              refine hK.out _ _ (hSn) (fun hS => ?_)
              clear hK K
              try simp only [Act.put, List.setIfInBounds_toArray, List.set_cons_zero, List.set_cons_succ]
              clear hSn
              obtain ⟨ob, hob, hobz⟩ := hS.box
              refine wpAnyH_ready (rs := [11]) (by kernel_rfl) (by simp) ?_
              refine AllReadyH.cons (o := ⟨none, _, _, _, _, _⟩) rfl (fun K hK => ?_) AllReadyH.nil
              rw [if_pos (by rfl)]
              refine wp_store_row 24 _ _ rfl b (hlc h2).toArray rfl rfl 24 _ hob hsz (by rw [hobz]; rfl) (hlc_one _) ?_
              have hb2 := Blk.setRow hob (hlc h2).toArray
              have hSn := hS.row (hlc h2).toArray rfl
              have hQ2 := hQ.setRow_other8 (g' := b) (by omega) (hlc h2).toArray
              clear hS hob hQ
              refine hK.out _ _ hSn (fun hS => ?_)
              clear hK K hSn
              try simp only [Act.put, List.setIfInBounds_toArray, List.set_cons_zero, List.set_cons_succ]
              generalize (W5.setRow b (hlc h2).toArray) = Wx at *
              refine wpAnyH_ready (rs := [12]) (by kernel_rfl) (by simp) ?_
              refine AllReadyH.cons (o := ⟨none, _, _, _, _, _⟩) rfl (fun K hK => ?_) AllReadyH.nil
              rw [if_pos (by rfl)]
              refine wp_store_row 34 _ _ rfl q #[.int .i64 c2, .int .i64 s2, .slice Af nf cf] rfl rfl 34 _ hQ2 fsz rfl (by kernel_rfl) ?_
              have hq2 := Blk.setRow hQ2 #[.int .i64 c2, .int .i64 s2, .slice Af nf cf]
              have hb3 := hb2.setRow_other8 (g' := q) (by omega) #[.int .i64 c2, .int .i64 s2, .slice Af nf cf]
              have hSn := hS.far (g := q) (by omega) #[.int .i64 c2, .int .i64 s2, .slice Af nf cf]
              have hlb := hS.lb
              clear hS hb2 hQ2
              refine hK.out _ _ hSn (fun hS => ?_)
              clear hK K hSn
              try simp only [Act.put, List.setIfInBounds_toArray, List.set_cons_zero, List.set_cons_succ]
              refine wpAnyH_take (i := 13) (oi := ⟨some 8, _, _, _, _, _⟩) (v := ?_) rfl (by kernel_rfl) (by kernel_rfl) (by kernel_rfl) (fun _ _ _ h => h) (Or.inl ⟨by rfl, ?_⟩) hS ?_
              rotate_left
              · intro wq hq
                first | (go_simp; done) | (go_simp; rfl)
              try simp only [Act.put, List.setIfInBounds_toArray, List.set_cons_zero, List.set_cons_succ]
              refine wpAnyH_done (by kernel_rfl) ?_ _
              go_wp2_with fail
              go_meet
              exact told_cut hS.res hb3 hq2 (by omega) hfin
          · rw [if_pos (by rfl)]
            go_wp2
            have hQ := Blk.new W3 34 #[.int .i64 0, .int .i64 0, .slice none 0 0]
            have hal := below_one8 W3 (.cells #[.int .i64 0, .int .i64 0, .slice none 0 0] 34)
            have hSn := hS.below hal
            have hql := hS.lt
            have hV2 := hV.up hal
            clear hS hal hV
            generalize (W3.alloc (.cells #[.int .i64 0, .int .i64 0, .slice none 0 0] 34)) = W6 at *
            generalize W3.heap.size = q at *
            refine hK.out _ _ (hSn) (fun hS => ?_)
            clear hK K
            try simp only [Act.put, List.setIfInBounds_toArray, List.set_cons_zero, List.set_cons_succ]
            clear hSn
            have hV := hV2
            clear hV2
            refine wpAnyH_ready (rs := [5]) (by kernel_rfl) (by simp) ?_
            refine (AllReadyH.cons (o := ⟨some 62, _, _, _, _, _⟩) rfl (fun K hK => ?_) AllReadyH.nil)
            · rw [if_pos (by rfl)]
              go_wp2_with fail
              refine (wpars_is W6 hS.env hd HHk.out A4 _ _ pl hV HTl.out).mono ?_
              rintro e W7 ⟨hB, hp⟩
              obtain ⟨h2, c2, s2, Af, nf, cf, bb, rfl, hfin⟩ := told_any hp
              have hSn := hS.below hB
              have hQ2 := hQ.below hB hQ.lt
              clear hS hV hB hp hQ
              refine hK.out _ _ (hSn) (fun hS => ?_)
              clear hK K
              try simp only [Act.put, List.setIfInBounds_toArray, List.set_cons_zero, List.set_cons_succ]
              clear hSn
              refine wpAnyH_take (i := 6) (oi := ⟨some 56, _, _, _, _, _⟩) (v := ?_) rfl (by kernel_rfl) (by kernel_rfl) (by kernel_rfl) (fun _ _ _ h => h) (Or.inl ⟨by rfl, ?_⟩) hS ?_
              rotate_left
              · intro wq hq
                first | (go_simp; done) | (go_simp; rfl)
              try simp only [Act.put, List.setIfInBounds_toArray, List.set_cons_zero, List.set_cons_succ]
              refine wpAnyH_take (i := 7) (oi := ⟨some 63, _, _, _, _, _⟩) (v := ?_) rfl (by kernel_rfl) (by kernel_rfl) (by kernel_rfl) (fun _ _ _ h => h) (Or.inl ⟨by rfl, ?_⟩) hS ?_
              rotate_left
              · intro wq hq
                first | (go_simp; done) | (go_simp; rfl)
              try simp only [Act.put, List.setIfInBounds_toArray, List.set_cons_zero, List.set_cons_succ]
              refine wpAnyH_take (i := 8) (oi := ⟨some 64, _, _, _, _, _⟩) (v := ?_) rfl (by kernel_rfl) (by kernel_rfl) (by kernel_rfl) (fun _ _ _ h => h) (Or.inl ⟨by rfl, ?_⟩) hS ?_
              rotate_left
              · intro wq hq
                first | (go_simp; done) | (go_simp; rfl)
              try simp only [Act.put, List.setIfInBounds_toArray, List.set_cons_zero, List.set_cons_succ]
              refine wpAnyH_take (i := 9) (oi := ⟨some 65, _, _, _, _, _⟩) (v := ?_) rfl (by kernel_rfl) (by kernel_rfl) (by kernel_rfl) (fun _ _ _ h => h) (Or.inl ⟨by rfl, ?_⟩) hS ?_
              rotate_left
              · intro wq hq
                first | (go_simp; done) | (go_simp; rfl)
              try simp only [Act.put, List.setIfInBounds_toArray, List.set_cons_zero, List.set_cons_succ]
              have hQ := hQ2
              clear hQ2
              obtain ⟨ob, hob, hobz⟩ := hS.box
              refine wpAnyH_ready (rs := [11]) (by kernel_rfl) (by simp) ?_
              refine AllReadyH.cons (o := ⟨none, _, _, _, _, _⟩) rfl (fun K hK => ?_) AllReadyH.nil
              rw [if_pos (by rfl)]
              refine wp_store_row 24 _ _ rfl b (hlc h2).toArray rfl rfl 24 _ hob hsz (by rw [hobz]; rfl) (hlc_one _) ?_
              have hb2 := Blk.setRow hob (hlc h2).toArray
              have hSn := hS.row (hlc h2).toArray rfl
              have hQ2 := hQ.setRow_other8 (g' := b) (by omega) (hlc h2).toArray
              clear hS hob hQ
              refine hK.out _ _ hSn (fun hS => ?_)
              clear hK K hSn
              try simp only [Act.put, List.setIfInBounds_toArray, List.set_cons_zero, List.set_cons_succ]
              generalize (W7.setRow b (hlc h2).toArray) = Wx at *
              refine wpAnyH_ready (rs := [12]) (by kernel_rfl) (by simp) ?_
              refine AllReadyH.cons (o := ⟨none, _, _, _, _, _⟩) rfl (fun K hK => ?_) AllReadyH.nil
              rw [if_pos (by rfl)]
              refine wp_store_row 34 _ _ rfl q #[.int .i64 c2, .int .i64 s2, .slice Af nf cf] rfl rfl 34 _ hQ2 fsz rfl (by kernel_rfl) ?_
              have hq2 := Blk.setRow hQ2 #[.int .i64 c2, .int .i64 s2, .slice Af nf cf]
              have hb3 := hb2.setRow_other8 (g' := q) (by omega) #[.int .i64 c2, .int .i64 s2, .slice Af nf cf]
              have hSn := hS.far (g := q) (by omega) #[.int .i64 c2, .int .i64 s2, .slice Af nf cf]
              have hlb := hS.lb
              clear hS hb2 hQ2
              refine hK.out _ _ hSn (fun hS => ?_)
              clear hK K hSn
              try simp only [Act.put, List.setIfInBounds_toArray, List.set_cons_zero, List.set_cons_succ]
              refine wpAnyH_take (i := 13) (oi := ⟨some 8, _, _, _, _, _⟩) (v := ?_) rfl (by kernel_rfl) (by kernel_rfl) (by kernel_rfl) (fun _ _ _ h => h) (Or.inl ⟨by rfl, ?_⟩) hS ?_
              rotate_left
              · intro wq hq
                first | (go_simp; done) | (go_simp; rfl)
              try simp only [Act.put, List.setIfInBounds_toArray, List.set_cons_zero, List.set_cons_succ]
              refine wpAnyH_done (by kernel_rfl) ?_ _
              go_wp2_with fail
              go_meet
              exact told_cut hS.res hb3 hq2 (by omega) hfin
        · rw [if_pos (by rfl)]
          go_wp2
          have hQ := Blk.new W2 34 #[.int .i64 0, .int .i64 0, .slice none 0 0]
          have hal := below_one8 W2 (.cells #[.int .i64 0, .int .i64 0, .slice none 0 0] 34)
          have hSn := hS.below hal
          have hql := hS.lt
          have hC2 := hC.keep (hal.mono hC.lt)
          clear hS hal hC
          generalize (W2.alloc (.cells #[.int .i64 0, .int .i64 0, .slice none 0 0] 34)) = W8 at *
          generalize W2.heap.size = q at *
          refine hK.out _ _ (hSn) (fun hS => ?_)
          clear hK K
          try simp only [Act.put, List.setIfInBounds_toArray, List.set_cons_zero, List.set_cons_succ]
          clear hSn
          have hC := hC2
          clear hC2
          refine wpAnyH_ready (rs := [4]) (by kernel_rfl) (by simp) ?_
          refine (AllReadyH.cons (o := ⟨some 61, _, _, _, _, _⟩) rfl (fun K hK => ?_) AllReadyH.nil)
          · rw [if_pos (by rfl)]
            go_wp2_with fail
            refine (take_is W8 g l 10 0 _ hC).mono ?_
            rintro e W9 ⟨A4, rfl, hnw, _, hG⟩
            rw [HT.out] at hnw
            rw [HT.out]
            have hSn := hS.grown hG hgw HG9.out
            have hV := hnw.rd
            have hQ2 := hQ.grown hG (fun e => by injection e with e; have := HG9.out; omega)
            clear hS hC hG hnw hQ
            refine hK.out _ _ (hSn) (fun hS => ?_)
            clear hK K
            try simp only [Act.put, List.setIfInBounds_toArray, List.set_cons_zero, List.set_cons_succ]
            clear hSn
            have hQ := hQ2
            clear hQ2
            refine wpAnyH_ready (rs := [5]) (by kernel_rfl) (by simp) ?_
            refine (AllReadyH.cons (o := ⟨some 62, _, _, _, _, _⟩) rfl (fun K hK => ?_) AllReadyH.nil)
            · rw [if_pos (by rfl)]
              go_wp2_with fail
              refine (wpars_is W9 hS.env hd HHk.out A4 _ _ pl hV HTl.out).mono ?_
              rintro e W10 ⟨hB, hp⟩
              obtain ⟨h2, c2, s2, Af, nf, cf, bb, rfl, hfin⟩ := told_any hp
              have hSn := hS.below hB
              have hQ2 := hQ.below hB hQ.lt
              clear hS hV hB hp hQ
              refine hK.out _ _ (hSn) (fun hS => ?_)
              clear hK K
              try simp only [Act.put, List.setIfInBounds_toArray, List.set_cons_zero, List.set_cons_succ]
              clear hSn
              refine wpAnyH_take (i := 6) (oi := ⟨some 56, _, _, _, _, _⟩) (v := ?_) rfl (by kernel_rfl) (by kernel_rfl) (by kernel_rfl) (fun _ _ _ h => h) (Or.inl ⟨by rfl, ?_⟩) hS ?_
              rotate_left
              · intro wq hq
                first | (go_simp; done) | (go_simp; rfl)
              try simp only [Act.put, List.setIfInBounds_toArray, List.set_cons_zero, List.set_cons_succ]
              refine wpAnyH_take (i := 7) (oi := ⟨some 63, _, _, _, _, _⟩) (v := ?_) rfl (by kernel_rfl) (by kernel_rfl) (by kernel_rfl) (fun _ _ _ h => h) (Or.inl ⟨by rfl, ?_⟩) hS ?_
              rotate_left
              · intro wq hq
                first | (go_simp; done) | (go_simp; rfl)
              try simp only [Act.put, List.setIfInBounds_toArray, List.set_cons_zero, List.set_cons_succ]
              refine wpAnyH_take (i := 8) (oi := ⟨some 64, _, _, _, _, _⟩) (v := ?_) rfl (by kernel_rfl) (by kernel_rfl) (by kernel_rfl) (fun _ _ _ h => h) (Or.inl ⟨by rfl, ?_⟩) hS ?_
              rotate_left
              · intro wq hq
                first | (go_simp; done) | (go_simp; rfl)
              try simp only [Act.put, List.setIfInBounds_toArray, List.set_cons_zero, List.set_cons_succ]
              refine wpAnyH_take (i := 9) (oi := ⟨some 65, _, _, _, _, _⟩) (v := ?_) rfl (by kernel_rfl) (by kernel_rfl) (by kernel_rfl) (fun _ _ _ h => h) (Or.inl ⟨by rfl, ?_⟩) hS ?_
              rotate_left
              · intro wq hq
                first | (go_simp; done) | (go_simp; rfl)
              try simp only [Act.put, List.setIfInBounds_toArray, List.set_cons_zero, List.set_cons_succ]
              have hQ := hQ2
              clear hQ2
              obtain ⟨ob, hob, hobz⟩ := hS.box
              refine wpAnyH_ready (rs := [11]) (by kernel_rfl) (by simp) ?_
              refine AllReadyH.cons (o := ⟨none, _, _, _, _, _⟩) rfl (fun K hK => ?_) AllReadyH.nil
              rw [if_pos (by rfl)]
              refine wp_store_row 24 _ _ rfl b (hlc h2).toArray rfl rfl 24 _ hob hsz (by rw [hobz]; rfl) (hlc_one _) ?_
              have hb2 := Blk.setRow hob (hlc h2).toArray
              have hSn := hS.row (hlc h2).toArray rfl
              have hQ2 := hQ.setRow_other8 (g' := b) (by omega) (hlc h2).toArray
              clear hS hob hQ
              refine hK.out _ _ hSn (fun hS => ?_)
              clear hK K hSn
              try simp only [Act.put, List.setIfInBounds_toArray, List.set_cons_zero, List.set_cons_succ]
              generalize (W10.setRow b (hlc h2).toArray) = Wx at *
              refine wpAnyH_ready (rs := [12]) (by kernel_rfl) (by simp) ?_
              refine AllReadyH.cons (o := ⟨none, _, _, _, _, _⟩) rfl (fun K hK => ?_) AllReadyH.nil
              rw [if_pos (by rfl)]
              refine wp_store_row 34 _ _ rfl q #[.int .i64 c2, .int .i64 s2, .slice Af nf cf] rfl rfl 34 _ hQ2 fsz rfl (by kernel_rfl) ?_
              have hq2 := Blk.setRow hQ2 #[.int .i64 c2, .int .i64 s2, .slice Af nf cf]
              have hb3 := hb2.setRow_other8 (g' := q) (by omega) #[.int .i64 c2, .int .i64 s2, .slice Af nf cf]
              have hSn := hS.far (g := q) (by omega) #[.int .i64 c2, .int .i64 s2, .slice Af nf cf]
              have hlb := hS.lb
              clear hS hb2 hQ2
              refine hK.out _ _ hSn (fun hS => ?_)
              clear hK K hSn
              try simp only [Act.put, List.setIfInBounds_toArray, List.set_cons_zero, List.set_cons_succ]
              refine wpAnyH_take (i := 13) (oi := ⟨some 8, _, _, _, _, _⟩) (v := ?_) rfl (by kernel_rfl) (by kernel_rfl) (by kernel_rfl) (fun _ _ _ h => h) (Or.inl ⟨by rfl, ?_⟩) hS ?_
              rotate_left
              · intro wq hq
                first | (go_simp; done) | (go_simp; rfl)
              try simp only [Act.put, List.setIfInBounds_toArray, List.set_cons_zero, List.set_cons_succ]
              refine wpAnyH_done (by kernel_rfl) ?_ _
              go_wp2_with fail
              go_meet
              exact told_cut hS.res hb3 hq2 (by omega) hfin
      · rw [if_pos (by rfl)]
        go_wp2
        have hQ := Blk.new W0 34 #[.int .i64 0, .int .i64 0, .slice none 0 0]
        have hal := below_one8 W0 (.cells #[.int .i64 0, .int .i64 0, .slice none 0 0] 34)
        have hSn := hS.below hal
        have hql := hS.lt
        have hC2 := hC.keep (hal.mono hC.lt)
        clear hS hal hC
        generalize (W0.alloc (.cells #[.int .i64 0, .int .i64 0, .slice none 0 0] 34)) = W11 at *
        generalize W0.heap.size = q at *
        refine hK.out _ _ (hSn) (fun hS => ?_)
        clear hK K
        try simp only [Act.put, List.setIfInBounds_toArray, List.set_cons_zero, List.set_cons_succ]
        clear hSn
        have hC := hC2
        clear hC2
        refine wpAnyH_ready (rs := [3]) (by kernel_rfl) (by simp) ?_
        refine (AllReadyH.cons (o := ⟨some 60, _, _, _, _, _⟩) rfl (fun K hK => ?_) AllReadyH.nil)
        · rw [if_pos (by rfl)]
          go_wp2_with fail
          refine (leftC_is W11 g l 10 0 hC).mono ?_
          rintro e W ⟨rfl, kk, rfl⟩
          have hB := below_drewN (Below.refl W11.heap.size W11) kk
          have hSn := hS.below hB
          have hC2 := hC.drewN kk
          have hQ2 := hQ.below hB hQ.lt
          clear hS hC hB hQ
          generalize W11.drewN kk = W12 at *
          refine hK.out _ _ (hSn) (fun hS => ?_)
          clear hK K
          try simp only [Act.put, List.setIfInBounds_toArray, List.set_cons_zero, List.set_cons_succ]
          clear hSn
          have hC := hC2
          clear hC2
          have hQ := hQ2
          clear hQ2
          refine wpAnyH_ready (rs := [4]) (by kernel_rfl) (by simp) ?_
          refine (AllReadyH.cons (o := ⟨some 61, _, _, _, _, _⟩) rfl (fun K hK => ?_) AllReadyH.nil)
          · rw [if_pos (by rfl)]
            go_wp2_with fail
            refine (take_is W12 g l 10 0 _ hC).mono ?_
            rintro e W13 ⟨A4, rfl, hnw, _, hG⟩
            rw [HT.out] at hnw
            rw [HT.out]
            have hSn := hS.grown hG hgw HG9.out
            have hV := hnw.rd
            have hQ2 := hQ.grown hG (fun e => by injection e with e; have := HG9.out; omega)
            clear hS hC hG hnw hQ
            refine hK.out _ _ (hSn) (fun hS => ?_)
            clear hK K
            try simp only [Act.put, List.setIfInBounds_toArray, List.set_cons_zero, List.set_cons_succ]
            clear hSn
            have hQ := hQ2
            clear hQ2
            refine wpAnyH_ready (rs := [5]) (by kernel_rfl) (by simp) ?_
            refine (AllReadyH.cons (o := ⟨some 62, _, _, _, _, _⟩) rfl (fun K hK => ?_) AllReadyH.nil)
            · rw [if_pos (by rfl)]
              go_wp2_with fail
              refine (wpars_is W13 hS.env hd HHk.out A4 _ _ pl hV HTl.out).mono ?_
              rintro e W14 ⟨hB, hp⟩
              obtain ⟨h2, c2, s2, Af, nf, cf, bb, rfl, hfin⟩ := told_any hp
              have hSn := hS.below hB
              have hQ2 := hQ.below hB hQ.lt
              clear hS hV hB hp hQ
              refine hK.out _ _ (hSn) (fun hS => ?_)
              clear hK K
              try simp only [Act.put, List.setIfInBounds_toArray, List.set_cons_zero, List.set_cons_succ]
              clear hSn
              refine wpAnyH_take (i := 6) (oi := ⟨some 56, _, _, _, _, _⟩) (v := ?_) rfl (by kernel_rfl) (by kernel_rfl) (by kernel_rfl) (fun _ _ _ h => h) (Or.inl ⟨by rfl, ?_⟩) hS ?_
              rotate_left
              · intro wq hq
                first | (go_simp; done) | (go_simp; rfl)
              try simp only [Act.put, List.setIfInBounds_toArray, List.set_cons_zero, List.set_cons_succ]
              refine wpAnyH_take (i := 7) (oi := ⟨some 63, _, _, _, _, _⟩) (v := ?_) rfl (by kernel_rfl) (by kernel_rfl) (by kernel_rfl) (fun _ _ _ h => h) (Or.inl ⟨by rfl, ?_⟩) hS ?_
              rotate_left
              · intro wq hq
                first | (go_simp; done) | (go_simp; rfl)
              try simp only [Act.put, List.setIfInBounds_toArray, List.set_cons_zero, List.set_cons_succ]
              refine wpAnyH_take (i := 8) (oi := ⟨some 64, _, _, _, _, _⟩) (v := ?_) rfl (by kernel_rfl) (by kernel_rfl) (by kernel_rfl) (fun _ _ _ h => h) (Or.inl ⟨by rfl, ?_⟩) hS ?_
              rotate_left
              · intro wq hq
                first | (go_simp; done) | (go_simp; rfl)
              try simp only [Act.put, List.setIfInBounds_toArray, List.set_cons_zero, List.set_cons_succ]
              refine wpAnyH_take (i := 9) (oi := ⟨some 65, _, _, _, _, _⟩) (v := ?_) rfl (by kernel_rfl) (by kernel_rfl) (by kernel_rfl) (fun _ _ _ h => h) (Or.inl ⟨by rfl, ?_⟩) hS ?_
              rotate_left
              · intro wq hq
                first | (go_simp; done) | (go_simp; rfl)
              try simp only [Act.put, List.setIfInBounds_toArray, List.set_cons_zero, List.set_cons_succ]
              have hQ := hQ2
              clear hQ2
              obtain ⟨ob, hob, hobz⟩ := hS.box
              refine wpAnyH_ready (rs := [11]) (by kernel_rfl) (by simp) ?_
              refine AllReadyH.cons (o := ⟨none, _, _, _, _, _⟩) rfl (fun K hK => ?_) AllReadyH.nil
              rw [if_pos (by rfl)]
              refine wp_store_row 24 _ _ rfl b (hlc h2).toArray rfl rfl 24 _ hob hsz (by rw [hobz]; rfl) (hlc_one _) ?_
              have hb2 := Blk.setRow hob (hlc h2).toArray
              have hSn := hS.row (hlc h2).toArray rfl
              have hQ2 := hQ.setRow_other8 (g' := b) (by omega) (hlc h2).toArray
              clear hS hob hQ
              refine hK.out _ _ hSn (fun hS => ?_)
              clear hK K hSn
              try simp only [Act.put, List.setIfInBounds_toArray, List.set_cons_zero, List.set_cons_succ]
              generalize (W14.setRow b (hlc h2).toArray) = Wx at *
              refine wpAnyH_ready (rs := [12]) (by kernel_rfl) (by simp) ?_
              refine AllReadyH.cons (o := ⟨none, _, _, _, _, _⟩) rfl (fun K hK => ?_) AllReadyH.nil
              rw [if_pos (by rfl)]
              refine wp_store_row 34 _ _ rfl q #[.int .i64 c2, .int .i64 s2, .slice Af nf cf] rfl rfl 34 _ hQ2 fsz rfl (by kernel_rfl) ?_
              have hq2 := Blk.setRow hQ2 #[.int .i64 c2, .int .i64 s2, .slice Af nf cf]
              have hb3 := hb2.setRow_other8 (g' := q) (by omega) #[.int .i64 c2, .int .i64 s2, .slice Af nf cf]
              have hSn := hS.far (g := q) (by omega) #[.int .i64 c2, .int .i64 s2, .slice Af nf cf]
              have hlb := hS.lb
              clear hS hb2 hQ2
              refine hK.out _ _ hSn (fun hS => ?_)
              clear hK K hSn
              try simp only [Act.put, List.setIfInBounds_toArray, List.set_cons_zero, List.set_cons_succ]
              refine wpAnyH_take (i := 13) (oi := ⟨some 8, _, _, _, _, _⟩) (v := ?_) rfl (by kernel_rfl) (by kernel_rfl) (by kernel_rfl) (fun _ _ _ h => h) (Or.inl ⟨by rfl, ?_⟩) hS ?_
              rotate_left
              · intro wq hq
                first | (go_simp; done) | (go_simp; rfl)
              try simp only [Act.put, List.setIfInBounds_toArray, List.set_cons_zero, List.set_cons_succ]
              refine wpAnyH_done (by kernel_rfl) ?_ _
              go_wp2_with fail
              go_meet
              exact told_cut hS.res hb3 hq2 (by omega) hfin
    · rw [if_pos (by rfl)]
      go_wp2_with fail
      refine (leftC_is W0 g l 10 0 hC).mono ?_
      rintro e W ⟨rfl, kk, rfl⟩
      have hB := below_drewN (Below.refl W0.heap.size W0) kk
      have hSn := hS.below hB
      have hC2 := hC.drewN kk
      have hX2 := hX.below hB hX.lt
      clear hS hC hB hX
      generalize W0.drewN kk = W15 at *
      refine hK.out _ _ (hSn) (fun hS => ?_)
      clear hK K
      try simp only [Act.put, List.setIfInBounds_toArray, List.set_cons_zero, List.set_cons_succ]
      clear hSn
      have hC := hC2
      clear hC2
      have hX := hX2
      clear hX2
      refine wpAnyH_ready (rs := [0, 4, 10]) (by kernel_rfl) (by simp) ?_
      refine (AllReadyH.cons (o := ⟨some 57, _, _, _, _, _⟩) rfl (fun K hK => ?_) (AllReadyH.cons (o := ⟨some 61, _, _, _, _, _⟩) rfl (fun K hK => ?_) (AllReadyH.cons (o := ⟨some 7, _, _, _, _, _⟩) rfl (fun K hK => ?_) AllReadyH.nil)))
      · rw [if_pos (by rfl)]
        refine wp_load_mid 24 _ rfl b 0 rfl (hlc hd) _ hX.range Tryd.underlying24 rfl hsz ?_
        refine hK.out _ _ (hS) (fun hS => ?_)
        clear hK K
        try simp only [Act.put, List.setIfInBounds_toArray, List.set_cons_zero, List.set_cons_succ]
        clear hX
        refine wpAnyH_ready (rs := [4, 10]) (by kernel_rfl) (by simp) ?_
        refine (AllReadyH.cons (o := ⟨some 61, _, _, _, _, _⟩) rfl (fun K hK => ?_) (AllReadyH.cons (o := ⟨some 7, _, _, _, _, _⟩) rfl (fun K hK => ?_) AllReadyH.nil))
        · rw [if_pos (by rfl)]
          go_wp2_with fail
          refine (take_is W15 g l 10 0 _ hC).mono ?_
          rintro e W17 ⟨A4, rfl, hnw, _, hG⟩
          rw [HT.out] at hnw
          rw [HT.out]
          have hSn := hS.grown hG hgw HG9.out
          have hV := hnw.rd
          clear hS hC hG hnw
          refine hK.out _ _ (hSn) (fun hS => ?_)
          clear hK K
          try simp only [Act.put, List.setIfInBounds_toArray, List.set_cons_zero, List.set_cons_succ]
          clear hSn
          refine wpAnyH_ready (rs := [5, 10]) (by kernel_rfl) (by simp) ?_
          refine (AllReadyH.cons (o := ⟨some 62, _, _, _, _, _⟩) rfl (fun K hK => ?_) (AllReadyH.cons (o := ⟨some 7, _, _, _, _, _⟩) rfl (fun K hK => ?_) AllReadyH.nil))
          · rw [if_pos (by rfl)]
            go_wp2_with fail
            refine (wpars_is W17 hS.env hd HHk.out A4 _ _ pl hV HTl.out).mono ?_
            rintro e W18 ⟨hB, hp⟩
            obtain ⟨h2, c2, s2, Af, nf, cf, bb, rfl, hfin⟩ := told_any hp
            have hSn := hS.below hB
            clear hS hV hB hp
            refine hK.out _ _ (hSn) (fun hS => ?_)
            clear hK K
            try simp only [Act.put, List.setIfInBounds_toArray, List.set_cons_zero, List.set_cons_succ]
            clear hSn
            refine wpAnyH_take (i := 6) (oi := ⟨some 56, _, _, _, _, _⟩) (v := ?_) rfl (by kernel_rfl) (by kernel_rfl) (by kernel_rfl) (fun _ _ _ h => h) (Or.inl ⟨by rfl, ?_⟩) hS ?_
            rotate_left
            · intro wq hq
              first | (go_simp; done) | (go_simp; rfl)
            try simp only [Act.put, List.setIfInBounds_toArray, List.set_cons_zero, List.set_cons_succ]
            refine wpAnyH_take (i := 7) (oi := ⟨some 63, _, _, _, _, _⟩) (v := ?_) rfl (by kernel_rfl) (by kernel_rfl) (by kernel_rfl) (fun _ _ _ h => h) (Or.inl ⟨by rfl, ?_⟩) hS ?_
            rotate_left
            · intro wq hq
              first | (go_simp; done) | (go_simp; rfl)
            try simp only [Act.put, List.setIfInBounds_toArray, List.set_cons_zero, List.set_cons_succ]
            refine wpAnyH_take (i := 8) (oi := ⟨some 64, _, _, _, _, _⟩) (v := ?_) rfl (by kernel_rfl) (by kernel_rfl) (by kernel_rfl) (fun _ _ _ h => h) (Or.inl ⟨by rfl, ?_⟩) hS ?_
            rotate_left
            · intro wq hq
              first | (go_simp; done) | (go_simp; rfl)
            try simp only [Act.put, List.setIfInBounds_toArray, List.set_cons_zero, List.set_cons_succ]
            refine wpAnyH_take (i := 9) (oi := ⟨some 65, _, _, _, _, _⟩) (v := ?_) rfl (by kernel_rfl) (by kernel_rfl) (by kernel_rfl) (fun _ _ _ h => h) (Or.inl ⟨by rfl, ?_⟩) hS ?_
            rotate_left
            · intro wq hq
              first | (go_simp; done) | (go_simp; rfl)
            try simp only [Act.put, List.setIfInBounds_toArray, List.set_cons_zero, List.set_cons_succ]
            refine wpAnyH_ready (rs := [10]) (by kernel_rfl) (by simp) ?_
            refine (AllReadyH.cons (o := ⟨some 7, _, _, _, _, _⟩) rfl (fun K hK => ?_) AllReadyH.nil)
            · rw [if_pos (by rfl)]
              go_wp2
              have hQ := Blk.new W18 34 #[.int .i64 0, .int .i64 0, .slice none 0 0]
              have hal := below_one8 W18 (.cells #[.int .i64 0, .int .i64 0, .slice none 0 0] 34)
              have hSn := hS.below hal
              have hql := hS.lt
              clear hS hal
              generalize (W18.alloc (.cells #[.int .i64 0, .int .i64 0, .slice none 0 0] 34)) = W19 at *
              generalize W18.heap.size = q at *
              refine hK.out _ _ (hSn) (fun hS => ?_)
              clear hK K
              try simp only [Act.put, List.setIfInBounds_toArray, List.set_cons_zero, List.set_cons_succ]
              clear hSn
              obtain ⟨ob, hob, hobz⟩ := hS.box
              refine wpAnyH_ready (rs := [11]) (by kernel_rfl) (by simp) ?_
              refine AllReadyH.cons (o := ⟨none, _, _, _, _, _⟩) rfl (fun K hK => ?_) AllReadyH.nil
              rw [if_pos (by rfl)]
              refine wp_store_row 24 _ _ rfl b (hlc h2).toArray rfl rfl 24 _ hob hsz (by rw [hobz]; rfl) (hlc_one _) ?_
              have hb2 := Blk.setRow hob (hlc h2).toArray
              have hSn := hS.row (hlc h2).toArray rfl
              have hQ2 := hQ.setRow_other8 (g' := b) (by omega) (hlc h2).toArray
              clear hS hob hQ
              refine hK.out _ _ hSn (fun hS => ?_)
              clear hK K hSn
              try simp only [Act.put, List.setIfInBounds_toArray, List.set_cons_zero, List.set_cons_succ]
              generalize (W19.setRow b (hlc h2).toArray) = Wx at *
              refine wpAnyH_ready (rs := [12]) (by kernel_rfl) (by simp) ?_
              refine AllReadyH.cons (o := ⟨none, _, _, _, _, _⟩) rfl (fun K hK => ?_) AllReadyH.nil
              rw [if_pos (by rfl)]
              refine wp_store_row 34 _ _ rfl q #[.int .i64 c2, .int .i64 s2, .slice Af nf cf] rfl rfl 34 _ hQ2 fsz rfl (by kernel_rfl) ?_
              have hq2 := Blk.setRow hQ2 #[.int .i64 c2, .int .i64 s2, .slice Af nf cf]
              have hb3 := hb2.setRow_other8 (g' := q) (by omega) #[.int .i64 c2, .int .i64 s2, .slice Af nf cf]
              have hSn := hS.far (g := q) (by omega) #[.int .i64 c2, .int .i64 s2, .slice Af nf cf]
              have hlb := hS.lb
              clear hS hb2 hQ2
              refine hK.out _ _ hSn (fun hS => ?_)
              clear hK K hSn
              try simp only [Act.put, List.setIfInBounds_toArray, List.set_cons_zero, List.set_cons_succ]
              refine wpAnyH_take (i := 13) (oi := ⟨some 8, _, _, _, _, _⟩) (v := ?_) rfl (by kernel_rfl) (by kernel_rfl) (by kernel_rfl) (fun _ _ _ h => h) (Or.inl ⟨by rfl, ?_⟩) hS ?_
              rotate_left
              · intro wq hq
                first | (go_simp; done) | (go_simp; rfl)
              try simp only [Act.put, List.setIfInBounds_toArray, List.set_cons_zero, List.set_cons_succ]
              refine wpAnyH_done (by kernel_rfl) ?_ _
              go_wp2_with fail
              go_meet
              exact told_cut hS.res hb3 hq2 (by omega) hfin
          · rw [if_pos (by rfl)]
            go_wp2
            have hQ := Blk.new W17 34 #[.int .i64 0, .int .i64 0, .slice none 0 0]
            have hal := below_one8 W17 (.cells #[.int .i64 0, .int .i64 0, .slice none 0 0] 34)
            have hSn := hS.below hal
            have hql := hS.lt
            have hV2 := hV.up hal
            clear hS hal hV
            generalize (W17.alloc (.cells #[.int .i64 0, .int .i64 0, .slice none 0 0] 34)) = W20 at *
            generalize W17.heap.size = q at *
            refine hK.out _ _ (hSn) (fun hS => ?_)
            clear hK K
            try simp only [Act.put, List.setIfInBounds_toArray, List.set_cons_zero, List.set_cons_succ]
            clear hSn
            have hV := hV2
            clear hV2
            refine wpAnyH_ready (rs := [5]) (by kernel_rfl) (by simp) ?_
            refine (AllReadyH.cons (o := ⟨some 62, _, _, _, _, _⟩) rfl (fun K hK => ?_) AllReadyH.nil)
            · rw [if_pos (by rfl)]
              go_wp2_with fail
              refine (wpars_is W20 hS.env hd HHk.out A4 _ _ pl hV HTl.out).mono ?_
              rintro e W21 ⟨hB, hp⟩
              obtain ⟨h2, c2, s2, Af, nf, cf, bb, rfl, hfin⟩ := told_any hp
              have hSn := hS.below hB
              have hQ2 := hQ.below hB hQ.lt
              clear hS hV hB hp hQ
              refine hK.out _ _ (hSn) (fun hS => ?_)
              clear hK K
              try simp only [Act.put, List.setIfInBounds_toArray, List.set_cons_zero, List.set_cons_succ]
              clear hSn
              refine wpAnyH_take (i := 6) (oi := ⟨some 56, _, _, _, _, _⟩) (v := ?_) rfl (by kernel_rfl) (by kernel_rfl) (by kernel_rfl) (fun _ _ _ h => h) (Or.inl ⟨by rfl, ?_⟩) hS ?_
              rotate_left
              · intro wq hq
                first | (go_simp; done) | (go_simp; rfl)
              try simp only [Act.put, List.setIfInBounds_toArray, List.set_cons_zero, List.set_cons_succ]
              refine wpAnyH_take (i := 7) (oi := ⟨some 63, _, _, _, _, _⟩) (v := ?_) rfl (by kernel_rfl) (by kernel_rfl) (by kernel_rfl) (fun _ _ _ h => h) (Or.inl ⟨by rfl, ?_⟩) hS ?_
              rotate_left
              · intro wq hq
                first | (go_simp; done) | (go_simp; rfl)
              try simp only [Act.put, List.setIfInBounds_toArray, List.set_cons_zero, List.set_cons_succ]
              refine wpAnyH_take (i := 8) (oi := ⟨some 64, _, _, _, _, _⟩) (v := ?_) rfl (by kernel_rfl) (by kernel_rfl) (by kernel_rfl) (fun _ _ _ h => h) (Or.inl ⟨by rfl, ?_⟩) hS ?_
              rotate_left
              · intro wq hq
                first | (go_simp; done) | (go_simp; rfl)
              try simp only [Act.put, List.setIfInBounds_toArray, List.set_cons_zero, List.set_cons_succ]
              refine wpAnyH_take (i := 9) (oi := ⟨some 65, _, _, _, _, _⟩) (v := ?_) rfl (by kernel_rfl) (by kernel_rfl) (by kernel_rfl) (fun _ _ _ h => h) (Or.inl ⟨by rfl, ?_⟩) hS ?_
              rotate_left
              · intro wq hq
                first | (go_simp; done) | (go_simp; rfl)
              try simp only [Act.put, List.setIfInBounds_toArray, List.set_cons_zero, List.set_cons_succ]
              have hQ := hQ2
              clear hQ2
              obtain ⟨ob, hob, hobz⟩ := hS.box
              refine wpAnyH_ready (rs := [11]) (by kernel_rfl) (by simp) ?_
              refine AllReadyH.cons (o := ⟨none, _, _, _, _, _⟩) rfl (fun K hK => ?_) AllReadyH.nil
              rw [if_pos (by rfl)]
              refine wp_store_row 24 _ _ rfl b (hlc h2).toArray rfl rfl 24 _ hob hsz (by rw [hobz]; rfl) (hlc_one _) ?_
              have hb2 := Blk.setRow hob (hlc h2).toArray
              have hSn := hS.row (hlc h2).toArray rfl
              have hQ2 := hQ.setRow_other8 (g' := b) (by omega) (hlc h2).toArray
              clear hS hob hQ
              refine hK.out _ _ hSn (fun hS => ?_)
              clear hK K hSn
              try simp only [Act.put, List.setIfInBounds_toArray, List.set_cons_zero, List.set_cons_succ]
              generalize (W21.setRow b (hlc h2).toArray) = Wx at *
              refine wpAnyH_ready (rs := [12]) (by kernel_rfl) (by simp) ?_
              refine AllReadyH.cons (o := ⟨none, _, _, _, _, _⟩) rfl (fun K hK => ?_) AllReadyH.nil
              rw [if_pos (by rfl)]
              refine wp_store_row 34 _ _ rfl q #[.int .i64 c2, .int .i64 s2, .slice Af nf cf] rfl rfl 34 _ hQ2 fsz rfl (by kernel_rfl) ?_
              have hq2 := Blk.setRow hQ2 #[.int .i64 c2, .int .i64 s2, .slice Af nf cf]
              have hb3 := hb2.setRow_other8 (g' := q) (by omega) #[.int .i64 c2, .int .i64 s2, .slice Af nf cf]
              have hSn := hS.far (g := q) (by omega) #[.int .i64 c2, .int .i64 s2, .slice Af nf cf]
              have hlb := hS.lb
              clear hS hb2 hQ2
              refine hK.out _ _ hSn (fun hS => ?_)
              clear hK K hSn
              try simp only [Act.put, List.setIfInBounds_toArray, List.set_cons_zero, List.set_cons_succ]
              refine wpAnyH_take (i := 13) (oi := ⟨some 8, _, _, _, _, _⟩) (v := ?_) rfl (by kernel_rfl) (by kernel_rfl) (by kernel_rfl) (fun _ _ _ h => h) (Or.inl ⟨by rfl, ?_⟩) hS ?_
              rotate_left
              · intro wq hq
                first | (go_simp; done) | (go_simp; rfl)
              try simp only [Act.put, List.setIfInBounds_toArray, List.set_cons_zero, List.set_cons_succ]
              refine wpAnyH_done (by kernel_rfl) ?_ _
              go_wp2_with fail
              go_meet
              exact told_cut hS.res hb3 hq2 (by omega) hfin
        · rw [if_pos (by rfl)]
          go_wp2
          have hQ := Blk.new W15 34 #[.int .i64 0, .int .i64 0, .slice none 0 0]
          have hal := below_one8 W15 (.cells #[.int .i64 0, .int .i64 0, .slice none 0 0] 34)
          have hSn := hS.below hal
          have hql := hS.lt
          have hC2 := hC.keep (hal.mono hC.lt)
          clear hS hal hC
          generalize (W15.alloc (.cells #[.int .i64 0, .int .i64 0, .slice none 0 0] 34)) = W22 at *
          generalize W15.heap.size = q at *
          refine hK.out _ _ (hSn) (fun hS => ?_)
          clear hK K
          try simp only [Act.put, List.setIfInBounds_toArray, List.set_cons_zero, List.set_cons_succ]
          clear hSn
          have hC := hC2
          clear hC2
          refine wpAnyH_ready (rs := [4]) (by kernel_rfl) (by simp) ?_
          refine (AllReadyH.cons (o := ⟨some 61, _, _, _, _, _⟩) rfl (fun K hK => ?_) AllReadyH.nil)
          · rw [if_pos (by rfl)]
            go_wp2_with fail
            refine (take_is W22 g l 10 0 _ hC).mono ?_
            rintro e W23 ⟨A4, rfl, hnw, _, hG⟩
            rw [HT.out] at hnw
            rw [HT.out]
            have hSn := hS.grown hG hgw HG9.out
            have hV := hnw.rd
            have hQ2 := hQ.grown hG (fun e => by injection e with e; have := HG9.out; omega)
            clear hS hC hG hnw hQ
            refine hK.out _ _ (hSn) (fun hS => ?_)
            clear hK K
            try simp only [Act.put, List.setIfInBounds_toArray, List.set_cons_zero, List.set_cons_succ]
            clear hSn
            have hQ := hQ2
            clear hQ2
            refine wpAnyH_ready (rs := [5]) (by kernel_rfl) (by simp) ?_
            refine (AllReadyH.cons (o := ⟨some 62, _, _, _, _, _⟩) rfl (fun K hK => ?_) AllReadyH.nil)
            · rw [if_pos (by rfl)]
              go_wp2_with fail
              refine (wpars_is W23 hS.env hd HHk.out A4 _ _ pl hV HTl.out).mono ?_
              rintro e W24 ⟨hB, hp⟩
              obtain ⟨h2, c2, s2, Af, nf, cf, bb, rfl, hfin⟩ := told_any hp
              have hSn := hS.below hB
              have hQ2 := hQ.below hB hQ.lt
              clear hS hV hB hp hQ
              refine hK.out _ _ (hSn) (fun hS => ?_)
              clear hK K
              try simp only [Act.put, List.setIfInBounds_toArray, List.set_cons_zero, List.set_cons_succ]
              clear hSn
              refine wpAnyH_take (i := 6) (oi := ⟨some 56, _, _, _, _, _⟩) (v := ?_) rfl (by kernel_rfl) (by kernel_rfl) (by kernel_rfl) (fun _ _ _ h => h) (Or.inl ⟨by rfl, ?_⟩) hS ?_
              rotate_left
              · intro wq hq
                first | (go_simp; done) | (go_simp; rfl)
              try simp only [Act.put, List.setIfInBounds_toArray, List.set_cons_zero, List.set_cons_succ]
              refine wpAnyH_take (i := 7) (oi := ⟨some 63, _, _, _, _, _⟩) (v := ?_) rfl (by kernel_rfl) (by kernel_rfl) (by kernel_rfl) (fun _ _ _ h => h) (Or.inl ⟨by rfl, ?_⟩) hS ?_
              rotate_left
              · intro wq hq
                first | (go_simp; done) | (go_simp; rfl)
              try simp only [Act.put, List.setIfInBounds_toArray, List.set_cons_zero, List.set_cons_succ]
              refine wpAnyH_take (i := 8) (oi := ⟨some 64, _, _, _, _, _⟩) (v := ?_) rfl (by kernel_rfl) (by kernel_rfl) (by kernel_rfl) (fun _ _ _ h => h) (Or.inl ⟨by rfl, ?_⟩) hS ?_
              rotate_left
              · intro wq hq
                first | (go_simp; done) | (go_simp; rfl)
              try simp only [Act.put, List.setIfInBounds_toArray, List.set_cons_zero, List.set_cons_succ]
              refine wpAnyH_take (i := 9) (oi := ⟨some 65, _, _, _, _, _⟩) (v := ?_) rfl (by kernel_rfl) (by kernel_rfl) (by kernel_rfl) (fun _ _ _ h => h) (Or.inl ⟨by rfl, ?_⟩) hS ?_
              rotate_left
              · intro wq hq
                first | (go_simp; done) | (go_simp; rfl)
              try simp only [Act.put, List.setIfInBounds_toArray, List.set_cons_zero, List.set_cons_succ]
              have hQ := hQ2
              clear hQ2
              obtain ⟨ob, hob, hobz⟩ := hS.box
              refine wpAnyH_ready (rs := [11]) (by kernel_rfl) (by simp) ?_
              refine AllReadyH.cons (o := ⟨none, _, _, _, _, _⟩) rfl (fun K hK => ?_) AllReadyH.nil
              rw [if_pos (by rfl)]
              refine wp_store_row 24 _ _ rfl b (hlc h2).toArray rfl rfl 24 _ hob hsz (by rw [hobz]; rfl) (hlc_one _) ?_
              have hb2 := Blk.setRow hob (hlc h2).toArray
              have hSn := hS.row (hlc h2).toArray rfl
              have hQ2 := hQ.setRow_other8 (g' := b) (by omega) (hlc h2).toArray
              clear hS hob hQ
              refine hK.out _ _ hSn (fun hS => ?_)
              clear hK K hSn
              try simp only [Act.put, List.setIfInBounds_toArray, List.set_cons_zero, List.set_cons_succ]
              generalize (W24.setRow b (hlc h2).toArray) = Wx at *
              refine wpAnyH_ready (rs := [12]) (by kernel_rfl) (by simp) ?_
              refine AllReadyH.cons (o := ⟨none, _, _, _, _, _⟩) rfl (fun K hK => ?_) AllReadyH.nil
              rw [if_pos (by rfl)]
              refine wp_store_row 34 _ _ rfl q #[.int .i64 c2, .int .i64 s2, .slice Af nf cf] rfl rfl 34 _ hQ2 fsz rfl (by kernel_rfl) ?_
              have hq2 := Blk.setRow hQ2 #[.int .i64 c2, .int .i64 s2, .slice Af nf cf]
              have hb3 := hb2.setRow_other8 (g' := q) (by omega) #[.int .i64 c2, .int .i64 s2, .slice Af nf cf]
              have hSn := hS.far (g := q) (by omega) #[.int .i64 c2, .int .i64 s2, .slice Af nf cf]
              have hlb := hS.lb
              clear hS hb2 hQ2
              refine hK.out _ _ hSn (fun hS => ?_)
              clear hK K hSn
              try simp only [Act.put, List.setIfInBounds_toArray, List.set_cons_zero, List.set_cons_succ]
              refine wpAnyH_take (i := 13) (oi := ⟨some 8, _, _, _, _, _⟩) (v := ?_) rfl (by kernel_rfl) (by kernel_rfl) (by kernel_rfl) (fun _ _ _ h => h) (Or.inl ⟨by rfl, ?_⟩) hS ?_
              rotate_left
              · intro wq hq
                first | (go_simp; done) | (go_simp; rfl)
              try simp only [Act.put, List.setIfInBounds_toArray, List.set_cons_zero, List.set_cons_succ]
              refine wpAnyH_done (by kernel_rfl) ?_ _
              go_wp2_with fail
              go_meet
              exact told_cut hS.res hb3 hq2 (by omega) hfin
      · rw [if_pos (by rfl)]
        go_wp2_with fail
        refine (take_is W15 g l 10 0 _ hC).mono ?_
        rintro e W25 ⟨A4, rfl, hnw, _, hG⟩
        rw [HT.out] at hnw
        rw [HT.out]
        have hSn := hS.grown hG hgw HG9.out
        have hV := hnw.rd
        have hX2 := hX.grown hG (fun e => by injection e with e; have := HG9.out; omega)
        clear hS hC hG hnw hX
        refine hK.out _ _ (hSn) (fun hS => ?_)
        clear hK K
        try simp only [Act.put, List.setIfInBounds_toArray, List.set_cons_zero, List.set_cons_succ]
        clear hSn
        have hX := hX2
        clear hX2
        refine wpAnyH_ready (rs := [0, 10]) (by kernel_rfl) (by simp) ?_
        refine (AllReadyH.cons (o := ⟨some 57, _, _, _, _, _⟩) rfl (fun K hK => ?_) (AllReadyH.cons (o := ⟨some 7, _, _, _, _, _⟩) rfl (fun K hK => ?_) AllReadyH.nil))
        · rw [if_pos (by rfl)]
          refine wp_load_mid 24 _ rfl b 0 rfl (hlc hd) _ hX.range Tryd.underlying24 rfl hsz ?_
          refine hK.out _ _ (hS) (fun hS => ?_)
          clear hK K
          try simp only [Act.put, List.setIfInBounds_toArray, List.set_cons_zero, List.set_cons_succ]
          clear hX
          refine wpAnyH_ready (rs := [5, 10]) (by kernel_rfl) (by simp) ?_
          refine (AllReadyH.cons (o := ⟨some 62, _, _, _, _, _⟩) rfl (fun K hK => ?_) (AllReadyH.cons (o := ⟨some 7, _, _, _, _, _⟩) rfl (fun K hK => ?_) AllReadyH.nil))
          · rw [if_pos (by rfl)]
            go_wp2_with fail
            refine (wpars_is W25 hS.env hd HHk.out A4 _ _ pl hV HTl.out).mono ?_
            rintro e W27 ⟨hB, hp⟩
            obtain ⟨h2, c2, s2, Af, nf, cf, bb, rfl, hfin⟩ := told_any hp
            have hSn := hS.below hB
            clear hS hV hB hp
            refine hK.out _ _ (hSn) (fun hS => ?_)
            clear hK K
            try simp only [Act.put, List.setIfInBounds_toArray, List.set_cons_zero, List.set_cons_succ]
            clear hSn
            refine wpAnyH_take (i := 6) (oi := ⟨some 56, _, _, _, _, _⟩) (v := ?_) rfl (by kernel_rfl) (by kernel_rfl) (by kernel_rfl) (fun _ _ _ h => h) (Or.inl ⟨by rfl, ?_⟩) hS ?_
            rotate_left
            · intro wq hq
              first | (go_simp; done) | (go_simp; rfl)
            try simp only [Act.put, List.setIfInBounds_toArray, List.set_cons_zero, List.set_cons_succ]
            refine wpAnyH_take (i := 7) (oi := ⟨some 63, _, _, _, _, _⟩) (v := ?_) rfl (by kernel_rfl) (by kernel_rfl) (by kernel_rfl) (fun _ _ _ h => h) (Or.inl ⟨by rfl, ?_⟩) hS ?_
            rotate_left
            · intro wq hq
              first | (go_simp; done) | (go_simp; rfl)
            try simp only [Act.put, List.setIfInBounds_toArray, List.set_cons_zero, List.set_cons_succ]
            refine wpAnyH_take (i := 8) (oi := ⟨some 64, _, _, _, _, _⟩) (v := ?_) rfl (by kernel_rfl) (by kernel_rfl) (by kernel_rfl) (fun _ _ _ h => h) (Or.inl ⟨by rfl, ?_⟩) hS ?_
            rotate_left
            · intro wq hq
              first | (go_simp; done) | (go_simp; rfl)
            try simp only [Act.put, List.setIfInBounds_toArray, List.set_cons_zero, List.set_cons_succ]
            refine wpAnyH_take (i := 9) (oi := ⟨some 65, _, _, _, _, _⟩) (v := ?_) rfl (by kernel_rfl) (by kernel_rfl) (by kernel_rfl) (fun _ _ _ h => h) (Or.inl ⟨by rfl, ?_⟩) hS ?_
            rotate_left
            · intro wq hq
              first | (go_simp; done) | (go_simp; rfl)
            try simp only [Act.put, List.setIfInBounds_toArray, List.set_cons_zero, List.set_cons_succ]
            refine wpAnyH_ready (rs := [10]) (by kernel_rfl) (by simp) ?_
            refine (AllReadyH.cons (o := ⟨some 7, _, _, _, _, _⟩) rfl (fun K hK => ?_) AllReadyH.nil)
            · rw [if_pos (by rfl)]
              go_wp2
              have hQ := Blk.new W27 34 #[.int .i64 0, .int .i64 0, .slice none 0 0]
              have hal := below_one8 W27 (.cells #[.int .i64 0, .int .i64 0, .slice none 0 0] 34)
              have hSn := hS.below hal
              have hql := hS.lt
              clear hS hal
              generalize (W27.alloc (.cells #[.int .i64 0, .int .i64 0, .slice none 0 0] 34)) = W28 at *
              generalize W27.heap.size = q at *
              refine hK.out _ _ (hSn) (fun hS => ?_)
              clear hK K
              try simp only [Act.put, List.setIfInBounds_toArray, List.set_cons_zero, List.set_cons_succ]
              clear hSn
              obtain ⟨ob, hob, hobz⟩ := hS.box
              refine wpAnyH_ready (rs := [11]) (by kernel_rfl) (by simp) ?_
              refine AllReadyH.cons (o := ⟨none, _, _, _, _, _⟩) rfl (fun K hK => ?_) AllReadyH.nil
              rw [if_pos (by rfl)]
              refine wp_store_row 24 _ _ rfl b (hlc h2).toArray rfl rfl 24 _ hob hsz (by rw [hobz]; rfl) (hlc_one _) ?_
              have hb2 := Blk.setRow hob (hlc h2).toArray
              have hSn := hS.row (hlc h2).toArray rfl
              have hQ2 := hQ.setRow_other8 (g' := b) (by omega) (hlc h2).toArray
              clear hS hob hQ
              refine hK.out _ _ hSn (fun hS => ?_)
              clear hK K hSn
              try simp only [Act.put, List.setIfInBounds_toArray, List.set_cons_zero, List.set_cons_succ]
              generalize (W28.setRow b (hlc h2).toArray) = Wx at *
              refine wpAnyH_ready (rs := [12]) (by kernel_rfl) (by simp) ?_
              refine AllReadyH.cons (o := ⟨none, _, _, _, _, _⟩) rfl (fun K hK => ?_) AllReadyH.nil
              rw [if_pos (by rfl)]
              refine wp_store_row 34 _ _ rfl q #[.int .i64 c2, .int .i64 s2, .slice Af nf cf] rfl rfl 34 _ hQ2 fsz rfl (by kernel_rfl) ?_
              have hq2 := Blk.setRow hQ2 #[.int .i64 c2, .int .i64 s2, .slice Af nf cf]
              have hb3 := hb2.setRow_other8 (g' := q) (by omega) #[.int .i64 c2, .int .i64 s2, .slice Af nf cf]
              have hSn := hS.far (g := q) (by omega) #[.int .i64 c2, .int .i64 s2, .slice Af nf cf]
              have hlb := hS.lb
              clear hS hb2 hQ2
              refine hK.out _ _ hSn (fun hS => ?_)
              clear hK K hSn
              try simp only [Act.put, List.setIfInBounds_toArray, List.set_cons_zero, List.set_cons_succ]
              refine wpAnyH_take (i := 13) (oi := ⟨some 8, _, _, _, _, _⟩) (v := ?_) rfl (by kernel_rfl) (by kernel_rfl) (by kernel_rfl) (fun _ _ _ h => h) (Or.inl ⟨by rfl, ?_⟩) hS ?_
              rotate_left
              · intro wq hq
                first | (go_simp; done) | (go_simp; rfl)
              try simp only [Act.put, List.setIfInBounds_toArray, List.set_cons_zero, List.set_cons_succ]
              refine wpAnyH_done (by kernel_rfl) ?_ _
              go_wp2_with fail
              go_meet
              exact told_cut hS.res hb3 hq2 (by omega) hfin
          · rw [if_pos (by rfl)]
            go_wp2
            have hQ := Blk.new W25 34 #[.int .i64 0, .int .i64 0, .slice none 0 0]
            have hal := below_one8 W25 (.cells #[.int .i64 0, .int .i64 0, .slice none 0 0] 34)
            have hSn := hS.below hal
            have hql := hS.lt
            have hV2 := hV.up hal
            clear hS hal hV
            generalize (W25.alloc (.cells #[.int .i64 0, .int .i64 0, .slice none 0 0] 34)) = W29 at *
            generalize W25.heap.size = q at *
            refine hK.out _ _ (hSn) (fun hS => ?_)
            clear hK K
            try simp only [Act.put, List.setIfInBounds_toArray, List.set_cons_zero, List.set_cons_succ]
            clear hSn
            have hV := hV2
            clear hV2
            refine wpAnyH_ready (rs := [5]) (by kernel_rfl) (by simp) ?_
            refine (AllReadyH.cons (o := ⟨some 62, _, _, _, _, _⟩) rfl (fun K hK => ?_) AllReadyH.nil)
            · rw [if_pos (by rfl)]
              go_wp2_with fail
              refine (wpars_is W29 hS.env hd HHk.out A4 _ _ pl hV HTl.out).mono ?_
              rintro e W30 ⟨hB, hp⟩
              obtain ⟨h2, c2, s2, Af, nf, cf, bb, rfl, hfin⟩ := told_any hp
              have hSn := hS.below hB
              have hQ2 := hQ.below hB hQ.lt
              clear hS hV hB hp hQ
              refine hK.out _ _ (hSn) (fun hS => ?_)
              clear hK K
              try simp only [Act.put, List.setIfInBounds_toArray, List.set_cons_zero, List.set_cons_succ]
              clear hSn
              refine wpAnyH_take (i := 6) (oi := ⟨some 56, _, _, _, _, _⟩) (v := ?_) rfl (by kernel_rfl) (by kernel_rfl) (by kernel_rfl) (fun _ _ _ h => h) (Or.inl ⟨by rfl, ?_⟩) hS ?_
              rotate_left
              · intro wq hq
                first | (go_simp; done) | (go_simp; rfl)
              try simp only [Act.put, List.setIfInBounds_toArray, List.set_cons_zero, List.set_cons_succ]
              refine wpAnyH_take (i := 7) (oi := ⟨some 63, _, _, _, _, _⟩) (v := ?_) rfl (by kernel_rfl) (by kernel_rfl) (by kernel_rfl) (fun _ _ _ h => h) (Or.inl ⟨by rfl, ?_⟩) hS ?_
              rotate_left
              · intro wq hq
                first | (go_simp; done) | (go_simp; rfl)
              try simp only [Act.put, List.setIfInBounds_toArray, List.set_cons_zero, List.set_cons_succ]
              refine wpAnyH_take (i := 8) (oi := ⟨some 64, _, _, _, _, _⟩) (v := ?_) rfl (by kernel_rfl) (by kernel_rfl) (by kernel_rfl) (fun _ _ _ h => h) (Or.inl ⟨by rfl, ?_⟩) hS ?_
              rotate_left
              · intro wq hq
                first | (go_simp; done) | (go_simp; rfl)
              try simp only [Act.put, List.setIfInBounds_toArray, List.set_cons_zero, List.set_cons_succ]
              refine wpAnyH_take (i := 9) (oi := ⟨some 65, _, _, _, _, _⟩) (v := ?_) rfl (by kernel_rfl) (by kernel_rfl) (by kernel_rfl) (fun _ _ _ h => h) (Or.inl ⟨by rfl, ?_⟩) hS ?_
              rotate_left
              · intro wq hq
                first | (go_simp; done) | (go_simp; rfl)
              try simp only [Act.put, List.setIfInBounds_toArray, List.set_cons_zero, List.set_cons_succ]
              have hQ := hQ2
              clear hQ2
              obtain ⟨ob, hob, hobz⟩ := hS.box
              refine wpAnyH_ready (rs := [11]) (by kernel_rfl) (by simp) ?_
              refine AllReadyH.cons (o := ⟨none, _, _, _, _, _⟩) rfl (fun K hK => ?_) AllReadyH.nil
              rw [if_pos (by rfl)]
              refine wp_store_row 24 _ _ rfl b (hlc h2).toArray rfl rfl 24 _ hob hsz (by rw [hobz]; rfl) (hlc_one _) ?_
              have hb2 := Blk.setRow hob (hlc h2).toArray
              have hSn := hS.row (hlc h2).toArray rfl
              have hQ2 := hQ.setRow_other8 (g' := b) (by omega) (hlc h2).toArray
              clear hS hob hQ
              refine hK.out _ _ hSn (fun hS => ?_)
              clear hK K hSn
              try simp only [Act.put, List.setIfInBounds_toArray, List.set_cons_zero, List.set_cons_succ]
              generalize (W30.setRow b (hlc h2).toArray) = Wx at *
              refine wpAnyH_ready (rs := [12]) (by kernel_rfl) (by simp) ?_
              refine AllReadyH.cons (o := ⟨none, _, _, _, _, _⟩) rfl (fun K hK => ?_) AllReadyH.nil
              rw [if_pos (by rfl)]
              refine wp_store_row 34 _ _ rfl q #[.int .i64 c2, .int .i64 s2, .slice Af nf cf] rfl rfl 34 _ hQ2 fsz rfl (by kernel_rfl) ?_
              have hq2 := Blk.setRow hQ2 #[.int .i64 c2, .int .i64 s2, .slice Af nf cf]
              have hb3 := hb2.setRow_other8 (g' := q) (by omega) #[.int .i64 c2, .int .i64 s2, .slice Af nf cf]
              have hSn := hS.far (g := q) (by omega) #[.int .i64 c2, .int .i64 s2, .slice Af nf cf]
              have hlb := hS.lb
              clear hS hb2 hQ2
              refine hK.out _ _ hSn (fun hS => ?_)
              clear hK K hSn
              try simp only [Act.put, List.setIfInBounds_toArray, List.set_cons_zero, List.set_cons_succ]
              refine wpAnyH_take (i := 13) (oi := ⟨some 8, _, _, _, _, _⟩) (v := ?_) rfl (by kernel_rfl) (by kernel_rfl) (by kernel_rfl) (fun _ _ _ h => h) (Or.inl ⟨by rfl, ?_⟩) hS ?_
              rotate_left
              · intro wq hq
                first | (go_simp; done) | (go_simp; rfl)
              try simp only [Act.put, List.setIfInBounds_toArray, List.set_cons_zero, List.set_cons_succ]
              refine wpAnyH_done (by kernel_rfl) ?_ _
              go_wp2_with fail
              go_meet
              exact told_cut hS.res hb3 hq2 (by omega) hfin
        · rw [if_pos (by rfl)]
          go_wp2
          have hQ := Blk.new W25 34 #[.int .i64 0, .int .i64 0, .slice none 0 0]
          have hal := below_one8 W25 (.cells #[.int .i64 0, .int .i64 0, .slice none 0 0] 34)
          have hSn := hS.below hal
          have hql := hS.lt
          have hV2 := hV.up hal
          have hX2 := hX.below hal hX.lt
          clear hS hal hV hX
          generalize (W25.alloc (.cells #[.int .i64 0, .int .i64 0, .slice none 0 0] 34)) = W31 at *
          generalize W25.heap.size = q at *
          refine hK.out _ _ (hSn) (fun hS => ?_)
          clear hK K
          try simp only [Act.put, List.setIfInBounds_toArray, List.set_cons_zero, List.set_cons_succ]
          clear hSn
          have hV := hV2
          clear hV2
          have hX := hX2
          clear hX2
          refine wpAnyH_ready (rs := [0]) (by kernel_rfl) (by simp) ?_
          refine (AllReadyH.cons (o := ⟨some 57, _, _, _, _, _⟩) rfl (fun K hK => ?_) AllReadyH.nil)
          · rw [if_pos (by rfl)]
            refine wp_load_mid 24 _ rfl b 0 rfl (hlc hd) _ hX.range Tryd.underlying24 rfl hsz ?_
            refine hK.out _ _ (hS) (fun hS => ?_)
            clear hK K
            try simp only [Act.put, List.setIfInBounds_toArray, List.set_cons_zero, List.set_cons_succ]
            clear hX
            refine wpAnyH_ready (rs := [5]) (by kernel_rfl) (by simp) ?_
            refine (AllReadyH.cons (o := ⟨some 62, _, _, _, _, _⟩) rfl (fun K hK => ?_) AllReadyH.nil)
            · rw [if_pos (by rfl)]
              go_wp2_with fail
              refine (wpars_is W31 hS.env hd HHk.out A4 _ _ pl hV HTl.out).mono ?_
              rintro e W33 ⟨hB, hp⟩
              obtain ⟨h2, c2, s2, Af, nf, cf, bb, rfl, hfin⟩ := told_any hp
              have hSn := hS.below hB
              have hQ2 := hQ.below hB hQ.lt
              clear hS hV hB hp hQ
              refine hK.out _ _ (hSn) (fun hS => ?_)
              clear hK K
              try simp only [Act.put, List.setIfInBounds_toArray, List.set_cons_zero, List.set_cons_succ]
              clear hSn
              refine wpAnyH_take (i := 6) (oi := ⟨some 56, _, _, _, _, _⟩) (v := ?_) rfl (by kernel_rfl) (by kernel_rfl) (by kernel_rfl) (fun _ _ _ h => h) (Or.inl ⟨by rfl, ?_⟩) hS ?_
              rotate_left
              · intro wq hq
                first | (go_simp; done) | (go_simp; rfl)
              try simp only [Act.put, List.setIfInBounds_toArray, List.set_cons_zero, List.set_cons_succ]
              refine wpAnyH_take (i := 7) (oi := ⟨some 63, _, _, _, _, _⟩) (v := ?_) rfl (by kernel_rfl) (by kernel_rfl) (by kernel_rfl) (fun _ _ _ h => h) (Or.inl ⟨by rfl, ?_⟩) hS ?_
              rotate_left
              · intro wq hq
                first | (go_simp; done) | (go_simp; rfl)
              try simp only [Act.put, List.setIfInBounds_toArray, List.set_cons_zero, List.set_cons_succ]
              refine wpAnyH_take (i := 8) (oi := ⟨some 64, _, _, _, _, _⟩) (v := ?_) rfl (by kernel_rfl) (by kernel_rfl) (by kernel_rfl) (fun _ _ _ h => h) (Or.inl ⟨by rfl, ?_⟩) hS ?_
              rotate_left
              · intro wq hq
                first | (go_simp; done) | (go_simp; rfl)
              try simp only [Act.put, List.setIfInBounds_toArray, List.set_cons_zero, List.set_cons_succ]
              refine wpAnyH_take (i := 9) (oi := ⟨some 65, _, _, _, _, _⟩) (v := ?_) rfl (by kernel_rfl) (by kernel_rfl) (by kernel_rfl) (fun _ _ _ h => h) (Or.inl ⟨by rfl, ?_⟩) hS ?_
              rotate_left
              · intro wq hq
                first | (go_simp; done) | (go_simp; rfl)
              try simp only [Act.put, List.setIfInBounds_toArray, List.set_cons_zero, List.set_cons_succ]
              have hQ := hQ2
              clear hQ2
              obtain ⟨ob, hob, hobz⟩ := hS.box
              refine wpAnyH_ready (rs := [11]) (by kernel_rfl) (by simp) ?_
              refine AllReadyH.cons (o := ⟨none, _, _, _, _, _⟩) rfl (fun K hK => ?_) AllReadyH.nil
              rw [if_pos (by rfl)]
              refine wp_store_row 24 _ _ rfl b (hlc h2).toArray rfl rfl 24 _ hob hsz (by rw [hobz]; rfl) (hlc_one _) ?_
              have hb2 := Blk.setRow hob (hlc h2).toArray
              have hSn := hS.row (hlc h2).toArray rfl
              have hQ2 := hQ.setRow_other8 (g' := b) (by omega) (hlc h2).toArray
              clear hS hob hQ
              refine hK.out _ _ hSn (fun hS => ?_)
              clear hK K hSn
              try simp only [Act.put, List.setIfInBounds_toArray, List.set_cons_zero, List.set_cons_succ]
              generalize (W33.setRow b (hlc h2).toArray) = Wx at *
              refine wpAnyH_ready (rs := [12]) (by kernel_rfl) (by simp) ?_
              refine AllReadyH.cons (o := ⟨none, _, _, _, _, _⟩) rfl (fun K hK => ?_) AllReadyH.nil
              rw [if_pos (by rfl)]
              refine wp_store_row 34 _ _ rfl q #[.int .i64 c2, .int .i64 s2, .slice Af nf cf] rfl rfl 34 _ hQ2 fsz rfl (by kernel_rfl) ?_
              have hq2 := Blk.setRow hQ2 #[.int .i64 c2, .int .i64 s2, .slice Af nf cf]
              have hb3 := hb2.setRow_other8 (g' := q) (by omega) #[.int .i64 c2, .int .i64 s2, .slice Af nf cf]
              have hSn := hS.far (g := q) (by omega) #[.int .i64 c2, .int .i64 s2, .slice Af nf cf]
              have hlb := hS.lb
              clear hS hb2 hQ2
              refine hK.out _ _ hSn (fun hS => ?_)
              clear hK K hSn
              try simp only [Act.put, List.setIfInBounds_toArray, List.set_cons_zero, List.set_cons_succ]
              refine wpAnyH_take (i := 13) (oi := ⟨some 8, _, _, _, _, _⟩) (v := ?_) rfl (by kernel_rfl) (by kernel_rfl) (by kernel_rfl) (fun _ _ _ h => h) (Or.inl ⟨by rfl, ?_⟩) hS ?_
              rotate_left
              · intro wq hq
                first | (go_simp; done) | (go_simp; rfl)
              try simp only [Act.put, List.setIfInBounds_toArray, List.set_cons_zero, List.set_cons_succ]
              refine wpAnyH_done (by kernel_rfl) ?_ _
              go_wp2_with fail
              go_meet
              exact told_cut hS.res hb3 hq2 (by omega) hfin
      · rw [if_pos (by rfl)]
        go_wp2
        have hQ := Blk.new W15 34 #[.int .i64 0, .int .i64 0, .slice none 0 0]
        have hal := below_one8 W15 (.cells #[.int .i64 0, .int .i64 0, .slice none 0 0] 34)
        have hSn := hS.below hal
        have hql := hS.lt
        have hC2 := hC.keep (hal.mono hC.lt)
        have hX2 := hX.below hal hX.lt
        clear hS hal hC hX
        generalize (W15.alloc (.cells #[.int .i64 0, .int .i64 0, .slice none 0 0] 34)) = W34 at *
        generalize W15.heap.size = q at *
        refine hK.out _ _ (hSn) (fun hS => ?_)
        clear hK K
        try simp only [Act.put, List.setIfInBounds_toArray, List.set_cons_zero, List.set_cons_succ]
        clear hSn
        have hC := hC2
        clear hC2
        have hX := hX2
        clear hX2
        refine wpAnyH_ready (rs := [0, 4]) (by kernel_rfl) (by simp) ?_
        refine (AllReadyH.cons (o := ⟨some 57, _, _, _, _, _⟩) rfl (fun K hK => ?_) (AllReadyH.cons (o := ⟨some 61, _, _, _, _, _⟩) rfl (fun K hK => ?_) AllReadyH.nil))
        · rw [if_pos (by rfl)]
          refine wp_load_mid 24 _ rfl b 0 rfl (hlc hd) _ hX.range Tryd.underlying24 rfl hsz ?_
          refine hK.out _ _ (hS) (fun hS => ?_)
          clear hK K
          try simp only [Act.put, List.setIfInBounds_toArray, List.set_cons_zero, List.set_cons_succ]
          clear hX
          refine wpAnyH_ready (rs := [4]) (by kernel_rfl) (by simp) ?_
          refine (AllReadyH.cons (o := ⟨some 61, _, _, _, _, _⟩) rfl (fun K hK => ?_) AllReadyH.nil)
          · rw [if_pos (by rfl)]
            go_wp2_with fail
            refine (take_is W34 g l 10 0 _ hC).mono ?_
            rintro e W36 ⟨A4, rfl, hnw, _, hG⟩
            rw [HT.out] at hnw
            rw [HT.out]
            have hSn := hS.grown hG hgw HG9.out
            have hV := hnw.rd
            have hQ2 := hQ.grown hG (fun e => by injection e with e; have := HG9.out; omega)
            clear hS hC hG hnw hQ
            refine hK.out _ _ (hSn) (fun hS => ?_)
            clear hK K
            try simp only [Act.put, List.setIfInBounds_toArray, List.set_cons_zero, List.set_cons_succ]
            clear hSn
            have hQ := hQ2
            clear hQ2
            refine wpAnyH_ready (rs := [5]) (by kernel_rfl) (by simp) ?_
            refine (AllReadyH.cons (o := ⟨some 62, _, _, _, _, _⟩) rfl (fun K hK => ?_) AllReadyH.nil)
            · rw [if_pos (by rfl)]
              go_wp2_with fail
              refine (wpars_is W36 hS.env hd HHk.out A4 _ _ pl hV HTl.out).mono ?_
              rintro e W37 ⟨hB, hp⟩
              obtain ⟨h2, c2, s2, Af, nf, cf, bb, rfl, hfin⟩ := told_any hp
              have hSn := hS.below hB
              have hQ2 := hQ.below hB hQ.lt
              clear hS hV hB hp hQ
              refine hK.out _ _ (hSn) (fun hS => ?_)
              clear hK K
              try simp only [Act.put, List.setIfInBounds_toArray, List.set_cons_zero, List.set_cons_succ]
              clear hSn
              refine wpAnyH_take (i := 6) (oi := ⟨some 56, _, _, _, _, _⟩) (v := ?_) rfl (by kernel_rfl) (by kernel_rfl) (by kernel_rfl) (fun _ _ _ h => h) (Or.inl ⟨by rfl, ?_⟩) hS ?_
              rotate_left
              · intro wq hq
                first | (go_simp; done) | (go_simp; rfl)
              try simp only [Act.put, List.setIfInBounds_toArray, List.set_cons_zero, List.set_cons_succ]
              refine wpAnyH_take (i := 7) (oi := ⟨some 63, _, _, _, _, _⟩) (v := ?_) rfl (by kernel_rfl) (by kernel_rfl) (by kernel_rfl) (fun _ _ _ h => h) (Or.inl ⟨by rfl, ?_⟩) hS ?_
              rotate_left
              · intro wq hq
                first | (go_simp; done) | (go_simp; rfl)
              try simp only [Act.put, List.setIfInBounds_toArray, List.set_cons_zero, List.set_cons_succ]
              refine wpAnyH_take (i := 8) (oi := ⟨some 64, _, _, _, _, _⟩) (v := ?_) rfl (by kernel_rfl) (by kernel_rfl) (by kernel_rfl) (fun _ _ _ h => h) (Or.inl ⟨by rfl, ?_⟩) hS ?_
              rotate_left
              · intro wq hq
                first | (go_simp; done) | (go_simp; rfl)
              try simp only [Act.put, List.setIfInBounds_toArray, List.set_cons_zero, List.set_cons_succ]
              refine wpAnyH_take (i := 9) (oi := ⟨some 65, _, _, _, _, _⟩) (v := ?_) rfl (by kernel_rfl) (by kernel_rfl) (by kernel_rfl) (fun _ _ _ h => h) (Or.inl ⟨by rfl, ?_⟩) hS ?_
              rotate_left
              · intro wq hq
                first | (go_simp; done) | (go_simp; rfl)
              try simp only [Act.put, List.setIfInBounds_toArray, List.set_cons_zero, List.set_cons_succ]
              have hQ := hQ2
              clear hQ2
              obtain ⟨ob, hob, hobz⟩ := hS.box
              refine wpAnyH_ready (rs := [11]) (by kernel_rfl) (by simp) ?_
              refine AllReadyH.cons (o := ⟨none, _, _, _, _, _⟩) rfl (fun K hK => ?_) AllReadyH.nil
              rw [if_pos (by rfl)]
              refine wp_store_row 24 _ _ rfl b (hlc h2).toArray rfl rfl 24 _ hob hsz (by rw [hobz]; rfl) (hlc_one _) ?_
              have hb2 := Blk.setRow hob (hlc h2).toArray
              have hSn := hS.row (hlc h2).toArray rfl
              have hQ2 := hQ.setRow_other8 (g' := b) (by omega) (hlc h2).toArray
              clear hS hob hQ
              refine hK.out _ _ hSn (fun hS => ?_)
              clear hK K hSn
              try simp only [Act.put, List.setIfInBounds_toArray, List.set_cons_zero, List.set_cons_succ]
              generalize (W37.setRow b (hlc h2).toArray) = Wx at *
              refine wpAnyH_ready (rs := [12]) (by kernel_rfl) (by simp) ?_
              refine AllReadyH.cons (o := ⟨none, _, _, _, _, _⟩) rfl (fun K hK => ?_) AllReadyH.nil
              rw [if_pos (by rfl)]
              refine wp_store_row 34 _ _ rfl q #[.int .i64 c2, .int .i64 s2, .slice Af nf cf] rfl rfl 34 _ hQ2 fsz rfl (by kernel_rfl) ?_
              have hq2 := Blk.setRow hQ2 #[.int .i64 c2, .int .i64 s2, .slice Af nf cf]
              have hb3 := hb2.setRow_other8 (g' := q) (by omega) #[.int .i64 c2, .int .i64 s2, .slice Af nf cf]
              have hSn := hS.far (g := q) (by omega) #[.int .i64 c2, .int .i64 s2, .slice Af nf cf]
              have hlb := hS.lb
              clear hS hb2 hQ2
              refine hK.out _ _ hSn (fun hS => ?_)
              clear hK K hSn
              try simp only [Act.put, List.setIfInBounds_toArray, List.set_cons_zero, List.set_cons_succ]
              refine wpAnyH_take (i := 13) (oi := ⟨some 8, _, _, _, _, _⟩) (v := ?_) rfl (by kernel_rfl) (by kernel_rfl) (by kernel_rfl) (fun _ _ _ h => h) (Or.inl ⟨by rfl, ?_⟩) hS ?_
              rotate_left
              · intro wq hq
                first | (go_simp; done) | (go_simp; rfl)
              try simp only [Act.put, List.setIfInBounds_toArray, List.set_cons_zero, List.set_cons_succ]
              refine wpAnyH_done (by kernel_rfl) ?_ _
              go_wp2_with fail
              go_meet
              exact told_cut hS.res hb3 hq2 (by omega) hfin
        · rw [if_pos (by rfl)]
          go_wp2_with fail
          refine (take_is W34 g l 10 0 _ hC).mono ?_
          rintro e W38 ⟨A4, rfl, hnw, _, hG⟩
          rw [HT.out] at hnw
          rw [HT.out]
          have hSn := hS.grown hG hgw HG9.out
          have hV := hnw.rd
          have hQ2 := hQ.grown hG (fun e => by injection e with e; have := HG9.out; omega)
          have hX2 := hX.grown hG (fun e => by injection e with e; have := HG9.out; omega)
          clear hS hC hG hnw hQ hX
          refine hK.out _ _ (hSn) (fun hS => ?_)
          clear hK K
          try simp only [Act.put, List.setIfInBounds_toArray, List.set_cons_zero, List.set_cons_succ]
          clear hSn
          have hQ := hQ2
          clear hQ2
          have hX := hX2
          clear hX2
          refine wpAnyH_ready (rs := [0]) (by kernel_rfl) (by simp) ?_
          refine (AllReadyH.cons (o := ⟨some 57, _, _, _, _, _⟩) rfl (fun K hK => ?_) AllReadyH.nil)
          · rw [if_pos (by rfl)]
            refine wp_load_mid 24 _ rfl b 0 rfl (hlc hd) _ hX.range Tryd.underlying24 rfl hsz ?_
            refine hK.out _ _ (hS) (fun hS => ?_)
            clear hK K
            try simp only [Act.put, List.setIfInBounds_toArray, List.set_cons_zero, List.set_cons_succ]
            clear hX
            refine wpAnyH_ready (rs := [5]) (by kernel_rfl) (by simp) ?_
            refine (AllReadyH.cons (o := ⟨some 62, _, _, _, _, _⟩) rfl (fun K hK => ?_) AllReadyH.nil)
            · rw [if_pos (by rfl)]
              go_wp2_with fail
              refine (wpars_is W38 hS.env hd HHk.out A4 _ _ pl hV HTl.out).mono ?_
              rintro e W40 ⟨hB, hp⟩
              obtain ⟨h2, c2, s2, Af, nf, cf, bb, rfl, hfin⟩ := told_any hp
              have hSn := hS.below hB
              have hQ2 := hQ.below hB hQ.lt
              clear hS hV hB hp hQ
              refine hK.out _ _ (hSn) (fun hS => ?_)
              clear hK K
              try simp only [Act.put, List.setIfInBounds_toArray, List.set_cons_zero, List.set_cons_succ]
              clear hSn
              refine wpAnyH_take (i := 6) (oi := ⟨some 56, _, _, _, _, _⟩) (v := ?_) rfl (by kernel_rfl) (by kernel_rfl) (by kernel_rfl) (fun _ _ _ h => h) (Or.inl ⟨by rfl, ?_⟩) hS ?_
              rotate_left
              · intro wq hq
                first | (go_simp; done) | (go_simp; rfl)
              try simp only [Act.put, List.setIfInBounds_toArray, List.set_cons_zero, List.set_cons_succ]
              refine wpAnyH_take (i := 7) (oi := ⟨some 63, _, _, _, _, _⟩) (v := ?_) rfl (by kernel_rfl) (by kernel_rfl) (by kernel_rfl) (fun _ _ _ h => h) (Or.inl ⟨by rfl, ?_⟩) hS ?_
              rotate_left
              · intro wq hq
                first | (go_simp; done) | (go_simp; rfl)
              try simp only [Act.put, List.setIfInBounds_toArray, List.set_cons_zero, List.set_cons_succ]
              refine wpAnyH_take (i := 8) (oi := ⟨some 64, _, _, _, _, _⟩) (v := ?_) rfl (by kernel_rfl) (by kernel_rfl) (by kernel_rfl) (fun _ _ _ h => h) (Or.inl ⟨by rfl, ?_⟩) hS ?_
              rotate_left
              · intro wq hq
                first | (go_simp; done) | (go_simp; rfl)
              try simp only [Act.put, List.setIfInBounds_toArray, List.set_cons_zero, List.set_cons_succ]
              refine wpAnyH_take (i := 9) (oi := ⟨some 65, _, _, _, _, _⟩) (v := ?_) rfl (by kernel_rfl) (by kernel_rfl) (by kernel_rfl) (fun _ _ _ h => h) (Or.inl ⟨by rfl, ?_⟩) hS ?_
              rotate_left
              · intro wq hq
                first | (go_simp; done) | (go_simp; rfl)
              try simp only [Act.put, List.setIfInBounds_toArray, List.set_cons_zero, List.set_cons_succ]
              have hQ := hQ2
              clear hQ2
              obtain ⟨ob, hob, hobz⟩ := hS.box
              refine wpAnyH_ready (rs := [11]) (by kernel_rfl) (by simp) ?_
              refine AllReadyH.cons (o := ⟨none, _, _, _, _, _⟩) rfl (fun K hK => ?_) AllReadyH.nil
              rw [if_pos (by rfl)]
              refine wp_store_row 24 _ _ rfl b (hlc h2).toArray rfl rfl 24 _ hob hsz (by rw [hobz]; rfl) (hlc_one _) ?_
              have hb2 := Blk.setRow hob (hlc h2).toArray
              have hSn := hS.row (hlc h2).toArray rfl
              have hQ2 := hQ.setRow_other8 (g' := b) (by omega) (hlc h2).toArray
              clear hS hob hQ
              refine hK.out _ _ hSn (fun hS => ?_)
              clear hK K hSn
              try simp only [Act.put, List.setIfInBounds_toArray, List.set_cons_zero, List.set_cons_succ]
              generalize (W40.setRow b (hlc h2).toArray) = Wx at *
              refine wpAnyH_ready (rs := [12]) (by kernel_rfl) (by simp) ?_
              refine AllReadyH.cons (o := ⟨none, _, _, _, _, _⟩) rfl (fun K hK => ?_) AllReadyH.nil
              rw [if_pos (by rfl)]
              refine wp_store_row 34 _ _ rfl q #[.int .i64 c2, .int .i64 s2, .slice Af nf cf] rfl rfl 34 _ hQ2 fsz rfl (by kernel_rfl) ?_
              have hq2 := Blk.setRow hQ2 #[.int .i64 c2, .int .i64 s2, .slice Af nf cf]
              have hb3 := hb2.setRow_other8 (g' := q) (by omega) #[.int .i64 c2, .int .i64 s2, .slice Af nf cf]
              have hSn := hS.far (g := q) (by omega) #[.int .i64 c2, .int .i64 s2, .slice Af nf cf]
              have hlb := hS.lb
              clear hS hb2 hQ2
              refine hK.out _ _ hSn (fun hS => ?_)
              clear hK K hSn
              try simp only [Act.put, List.setIfInBounds_toArray, List.set_cons_zero, List.set_cons_succ]
              refine wpAnyH_take (i := 13) (oi := ⟨some 8, _, _, _, _, _⟩) (v := ?_) rfl (by kernel_rfl) (by kernel_rfl) (by kernel_rfl) (fun _ _ _ h => h) (Or.inl ⟨by rfl, ?_⟩) hS ?_
              rotate_left
              · intro wq hq
                first | (go_simp; done) | (go_simp; rfl)
              try simp only [Act.put, List.setIfInBounds_toArray, List.set_cons_zero, List.set_cons_succ]
              refine wpAnyH_done (by kernel_rfl) ?_ _
              go_wp2_with fail
              go_meet
              exact told_cut hS.res hb3 hq2 (by omega) hfin
    · rw [if_pos (by rfl)]
      go_wp2
      have hQ := Blk.new W0 34 #[.int .i64 0, .int .i64 0, .slice none 0 0]
      have hal := below_one8 W0 (.cells #[.int .i64 0, .int .i64 0, .slice none 0 0] 34)
      have hSn := hS.below hal
      have hql := hS.lt
      have hC2 := hC.keep (hal.mono hC.lt)
      have hX2 := hX.below hal hX.lt
      clear hS hal hC hX
      generalize (W0.alloc (.cells #[.int .i64 0, .int .i64 0, .slice none 0 0] 34)) = W41 at *
      generalize W0.heap.size = q at *
      refine hK.out _ _ (hSn) (fun hS => ?_)
      clear hK K
      try simp only [Act.put, List.setIfInBounds_toArray, List.set_cons_zero, List.set_cons_succ]
      clear hSn
      have hC := hC2
      clear hC2
      have hX := hX2
      clear hX2
      refine wpAnyH_ready (rs := [0, 3]) (by kernel_rfl) (by simp) ?_
      refine (AllReadyH.cons (o := ⟨some 57, _, _, _, _, _⟩) rfl (fun K hK => ?_) (AllReadyH.cons (o := ⟨some 60, _, _, _, _, _⟩) rfl (fun K hK => ?_) AllReadyH.nil))
      · rw [if_pos (by rfl)]
        refine wp_load_mid 24 _ rfl b 0 rfl (hlc hd) _ hX.range Tryd.underlying24 rfl hsz ?_
        refine hK.out _ _ (hS) (fun hS => ?_)
        clear hK K
        try simp only [Act.put, List.setIfInBounds_toArray, List.set_cons_zero, List.set_cons_succ]
        clear hX
        refine wpAnyH_ready (rs := [3]) (by kernel_rfl) (by simp) ?_
        refine (AllReadyH.cons (o := ⟨some 60, _, _, _, _, _⟩) rfl (fun K hK => ?_) AllReadyH.nil)
        · rw [if_pos (by rfl)]
          go_wp2_with fail
          refine (leftC_is W41 g l 10 0 hC).mono ?_
          rintro e W ⟨rfl, kk, rfl⟩
          have hB := below_drewN (Below.refl W41.heap.size W41) kk
          have hSn := hS.below hB
          have hC2 := hC.drewN kk
          have hQ2 := hQ.below hB hQ.lt
          clear hS hC hB hQ
          generalize W41.drewN kk = W43 at *
          refine hK.out _ _ (hSn) (fun hS => ?_)
          clear hK K
          try simp only [Act.put, List.setIfInBounds_toArray, List.set_cons_zero, List.set_cons_succ]
          clear hSn
          have hC := hC2
          clear hC2
          have hQ := hQ2
          clear hQ2
          refine wpAnyH_ready (rs := [4]) (by kernel_rfl) (by simp) ?_
          refine (AllReadyH.cons (o := ⟨some 61, _, _, _, _, _⟩) rfl (fun K hK => ?_) AllReadyH.nil)
          · rw [if_pos (by rfl)]
            go_wp2_with fail
            refine (take_is W43 g l 10 0 _ hC).mono ?_
            rintro e W44 ⟨A4, rfl, hnw, _, hG⟩
            rw [HT.out] at hnw
            rw [HT.out]
            have hSn := hS.grown hG hgw HG9.out
            have hV := hnw.rd
            have hQ2 := hQ.grown hG (fun e => by injection e with e; have := HG9.out; omega)
            clear hS hC hG hnw hQ
            refine hK.out _ _ (hSn) (fun hS => ?_)
            clear hK K
            try simp only [Act.put, List.setIfInBounds_toArray, List.set_cons_zero, List.set_cons_succ]
            clear hSn
            have hQ := hQ2
            clear hQ2
            refine wpAnyH_ready (rs := [5]) (by kernel_rfl) (by simp) ?_
            refine (AllReadyH.cons (o := ⟨some 62, _, _, _, _, _⟩) rfl (fun K hK => ?_) AllReadyH.nil)
            · rw [if_pos (by rfl)]
              go_wp2_with fail
              refine (wpars_is W44 hS.env hd HHk.out A4 _ _ pl hV HTl.out).mono ?_
              rintro e W45 ⟨hB, hp⟩
              obtain ⟨h2, c2, s2, Af, nf, cf, bb, rfl, hfin⟩ := told_any hp
              have hSn := hS.below hB
              have hQ2 := hQ.below hB hQ.lt
              clear hS hV hB hp hQ
              refine hK.out _ _ (hSn) (fun hS => ?_)
              clear hK K
              try simp only [Act.put, List.setIfInBounds_toArray, List.set_cons_zero, List.set_cons_succ]
              clear hSn
              refine wpAnyH_take (i := 6) (oi := ⟨some 56, _, _, _, _, _⟩) (v := ?_) rfl (by kernel_rfl) (by kernel_rfl) (by kernel_rfl) (fun _ _ _ h => h) (Or.inl ⟨by rfl, ?_⟩) hS ?_
              rotate_left
              · intro wq hq
                first | (go_simp; done) | (go_simp; rfl)
              try simp only [Act.put, List.setIfInBounds_toArray, List.set_cons_zero, List.set_cons_succ]
              refine wpAnyH_take (i := 7) (oi := ⟨some 63, _, _, _, _, _⟩) (v := ?_) rfl (by kernel_rfl) (by kernel_rfl) (by kernel_rfl) (fun _ _ _ h => h) (Or.inl ⟨by rfl, ?_⟩) hS ?_
              rotate_left
              · intro wq hq
                first | (go_simp; done) | (go_simp; rfl)
              try simp only [Act.put, List.setIfInBounds_toArray, List.set_cons_zero, List.set_cons_succ]
              refine wpAnyH_take (i := 8) (oi := ⟨some 64, _, _, _, _, _⟩) (v := ?_) rfl (by kernel_rfl) (by kernel_rfl) (by kernel_rfl) (fun _ _ _ h => h) (Or.inl ⟨by rfl, ?_⟩) hS ?_
              rotate_left
              · intro wq hq
                first | (go_simp; done) | (go_simp; rfl)
              try simp only [Act.put, List.setIfInBounds_toArray, List.set_cons_zero, List.set_cons_succ]
              refine wpAnyH_take (i := 9) (oi := ⟨some 65, _, _, _, _, _⟩) (v := ?_) rfl (by kernel_rfl) (by kernel_rfl) (by kernel_rfl) (fun _ _ _ h => h) (Or.inl ⟨by rfl, ?_⟩) hS ?_
              rotate_left
              · intro wq hq
                first | (go_simp; done) | (go_simp; rfl)
              try simp only [Act.put, List.setIfInBounds_toArray, List.set_cons_zero, List.set_cons_succ]
              have hQ := hQ2
              clear hQ2
              obtain ⟨ob, hob, hobz⟩ := hS.box
              refine wpAnyH_ready (rs := [11]) (by kernel_rfl) (by simp) ?_
              refine AllReadyH.cons (o := ⟨none, _, _, _, _, _⟩) rfl (fun K hK => ?_) AllReadyH.nil
              rw [if_pos (by rfl)]
              refine wp_store_row 24 _ _ rfl b (hlc h2).toArray rfl rfl 24 _ hob hsz (by rw [hobz]; rfl) (hlc_one _) ?_
              have hb2 := Blk.setRow hob (hlc h2).toArray
              have hSn := hS.row (hlc h2).toArray rfl
              have hQ2 := hQ.setRow_other8 (g' := b) (by omega) (hlc h2).toArray
              clear hS hob hQ
              refine hK.out _ _ hSn (fun hS => ?_)
              clear hK K hSn
              try simp only [Act.put, List.setIfInBounds_toArray, List.set_cons_zero, List.set_cons_succ]
              generalize (W45.setRow b (hlc h2).toArray) = Wx at *
              refine wpAnyH_ready (rs := [12]) (by kernel_rfl) (by simp) ?_
              refine AllReadyH.cons (o := ⟨none, _, _, _, _, _⟩) rfl (fun K hK => ?_) AllReadyH.nil
              rw [if_pos (by rfl)]
              refine wp_store_row 34 _ _ rfl q #[.int .i64 c2, .int .i64 s2, .slice Af nf cf] rfl rfl 34 _ hQ2 fsz rfl (by kernel_rfl) ?_
              have hq2 := Blk.setRow hQ2 #[.int .i64 c2, .int .i64 s2, .slice Af nf cf]
              have hb3 := hb2.setRow_other8 (g' := q) (by omega) #[.int .i64 c2, .int .i64 s2, .slice Af nf cf]
              have hSn := hS.far (g := q) (by omega) #[.int .i64 c2, .int .i64 s2, .slice Af nf cf]
              have hlb := hS.lb
              clear hS hb2 hQ2
              refine hK.out _ _ hSn (fun hS => ?_)
              clear hK K hSn
              try simp only [Act.put, List.setIfInBounds_toArray, List.set_cons_zero, List.set_cons_succ]
              refine wpAnyH_take (i := 13) (oi := ⟨some 8, _, _, _, _, _⟩) (v := ?_) rfl (by kernel_rfl) (by kernel_rfl) (by kernel_rfl) (fun _ _ _ h => h) (Or.inl ⟨by rfl, ?_⟩) hS ?_
              rotate_left
              · intro wq hq
                first | (go_simp; done) | (go_simp; rfl)
              try simp only [Act.put, List.setIfInBounds_toArray, List.set_cons_zero, List.set_cons_succ]
              refine wpAnyH_done (by kernel_rfl) ?_ _
              go_wp2_with fail
              go_meet
              exact told_cut hS.res hb3 hq2 (by omega) hfin
      · rw [if_pos (by rfl)]
        go_wp2_with fail
        refine (leftC_is W41 g l 10 0 hC).mono ?_
        rintro e W ⟨rfl, kk, rfl⟩
        have hB := below_drewN (Below.refl W41.heap.size W41) kk
        have hSn := hS.below hB
        have hC2 := hC.drewN kk
        have hQ2 := hQ.below hB hQ.lt
        have hX2 := hX.below hB hX.lt
        clear hS hC hB hQ hX
        generalize W41.drewN kk = W46 at *
        refine hK.out _ _ (hSn) (fun hS => ?_)
        clear hK K
        try simp only [Act.put, List.setIfInBounds_toArray, List.set_cons_zero, List.set_cons_succ]
        clear hSn
        have hC := hC2
        clear hC2
        have hQ := hQ2
        clear hQ2
        have hX := hX2
        clear hX2
        refine wpAnyH_ready (rs := [0, 4]) (by kernel_rfl) (by simp) ?_
        refine (AllReadyH.cons (o := ⟨some 57, _, _, _, _, _⟩) rfl (fun K hK => ?_) (AllReadyH.cons (o := ⟨some 61, _, _, _, _, _⟩) rfl (fun K hK => ?_) AllReadyH.nil))
        · rw [if_pos (by rfl)]
          refine wp_load_mid 24 _ rfl b 0 rfl (hlc hd) _ hX.range Tryd.underlying24 rfl hsz ?_
          refine hK.out _ _ (hS) (fun hS => ?_)
          clear hK K
          try simp only [Act.put, List.setIfInBounds_toArray, List.set_cons_zero, List.set_cons_succ]
          clear hX
          refine wpAnyH_ready (rs := [4]) (by kernel_rfl) (by simp) ?_
          refine (AllReadyH.cons (o := ⟨some 61, _, _, _, _, _⟩) rfl (fun K hK => ?_) AllReadyH.nil)
          · rw [if_pos (by rfl)]
            go_wp2_with fail
            refine (take_is W46 g l 10 0 _ hC).mono ?_
            rintro e W48 ⟨A4, rfl, hnw, _, hG⟩
            rw [HT.out] at hnw
            rw [HT.out]
            have hSn := hS.grown hG hgw HG9.out
            have hV := hnw.rd
            have hQ2 := hQ.grown hG (fun e => by injection e with e; have := HG9.out; omega)
            clear hS hC hG hnw hQ
            refine hK.out _ _ (hSn) (fun hS => ?_)
            clear hK K
            try simp only [Act.put, List.setIfInBounds_toArray, List.set_cons_zero, List.set_cons_succ]
            clear hSn
            have hQ := hQ2
            clear hQ2
            refine wpAnyH_ready (rs := [5]) (by kernel_rfl) (by simp) ?_
            refine (AllReadyH.cons (o := ⟨some 62, _, _, _, _, _⟩) rfl (fun K hK => ?_) AllReadyH.nil)
            · rw [if_pos (by rfl)]
              go_wp2_with fail
              refine (wpars_is W48 hS.env hd HHk.out A4 _ _ pl hV HTl.out).mono ?_
              rintro e W49 ⟨hB, hp⟩
              obtain ⟨h2, c2, s2, Af, nf, cf, bb, rfl, hfin⟩ := told_any hp
              have hSn := hS.below hB
              have hQ2 := hQ.below hB hQ.lt
              clear hS hV hB hp hQ
              refine hK.out _ _ (hSn) (fun hS => ?_)
              clear hK K
              try simp only [Act.put, List.setIfInBounds_toArray, List.set_cons_zero, List.set_cons_succ]
              clear hSn
              refine wpAnyH_take (i := 6) (oi := ⟨some 56, _, _, _, _, _⟩) (v := ?_) rfl (by kernel_rfl) (by kernel_rfl) (by kernel_rfl) (fun _ _ _ h => h) (Or.inl ⟨by rfl, ?_⟩) hS ?_
              rotate_left
              · intro wq hq
                first | (go_simp; done) | (go_simp; rfl)
              try simp only [Act.put, List.setIfInBounds_toArray, List.set_cons_zero, List.set_cons_succ]
              refine wpAnyH_take (i := 7) (oi := ⟨some 63, _, _, _, _, _⟩) (v := ?_) rfl (by kernel_rfl) (by kernel_rfl) (by kernel_rfl) (fun _ _ _ h => h) (Or.inl ⟨by rfl, ?_⟩) hS ?_
              rotate_left
              · intro wq hq
                first | (go_simp; done) | (go_simp; rfl)
              try simp only [Act.put, List.setIfInBounds_toArray, List.set_cons_zero, List.set_cons_succ]
              refine wpAnyH_take (i := 8) (oi := ⟨some 64, _, _, _, _, _⟩) (v := ?_) rfl (by kernel_rfl) (by kernel_rfl) (by kernel_rfl) (fun _ _ _ h => h) (Or.inl ⟨by rfl, ?_⟩) hS ?_
              rotate_left
              · intro wq hq
                first | (go_simp; done) | (go_simp; rfl)
              try simp only [Act.put, List.setIfInBounds_toArray, List.set_cons_zero, List.set_cons_succ]
              refine wpAnyH_take (i := 9) (oi := ⟨some 65, _, _, _, _, _⟩) (v := ?_) rfl (by kernel_rfl) (by kernel_rfl) (by kernel_rfl) (fun _ _ _ h => h) (Or.inl ⟨by rfl, ?_⟩) hS ?_
              rotate_left
              · intro wq hq
                first | (go_simp; done) | (go_simp; rfl)
              try simp only [Act.put, List.setIfInBounds_toArray, List.set_cons_zero, List.set_cons_succ]
              have hQ := hQ2
              clear hQ2
              obtain ⟨ob, hob, hobz⟩ := hS.box
              refine wpAnyH_ready (rs := [11]) (by kernel_rfl) (by simp) ?_
              refine AllReadyH.cons (o := ⟨none, _, _, _, _, _⟩) rfl (fun K hK => ?_) AllReadyH.nil
              rw [if_pos (by rfl)]
              refine wp_store_row 24 _ _ rfl b (hlc h2).toArray rfl rfl 24 _ hob hsz (by rw [hobz]; rfl) (hlc_one _) ?_
              have hb2 := Blk.setRow hob (hlc h2).toArray
              have hSn := hS.row (hlc h2).toArray rfl
              have hQ2 := hQ.setRow_other8 (g' := b) (by omega) (hlc h2).toArray
              clear hS hob hQ
              refine hK.out _ _ hSn (fun hS => ?_)
              clear hK K hSn
              try simp only [Act.put, List.setIfInBounds_toArray, List.set_cons_zero, List.set_cons_succ]
              generalize (W49.setRow b (hlc h2).toArray) = Wx at *
              refine wpAnyH_ready (rs := [12]) (by kernel_rfl) (by simp) ?_
              refine AllReadyH.cons (o := ⟨none, _, _, _, _, _⟩) rfl (fun K hK => ?_) AllReadyH.nil
              rw [if_pos (by rfl)]
              refine wp_store_row 34 _ _ rfl q #[.int .i64 c2, .int .i64 s2, .slice Af nf cf] rfl rfl 34 _ hQ2 fsz rfl (by kernel_rfl) ?_
              have hq2 := Blk.setRow hQ2 #[.int .i64 c2, .int .i64 s2, .slice Af nf cf]
              have hb3 := hb2.setRow_other8 (g' := q) (by omega) #[.int .i64 c2, .int .i64 s2, .slice Af nf cf]
              have hSn := hS.far (g := q) (by omega) #[.int .i64 c2, .int .i64 s2, .slice Af nf cf]
              have hlb := hS.lb
              clear hS hb2 hQ2
              refine hK.out _ _ hSn (fun hS => ?_)
              clear hK K hSn
              try simp only [Act.put, List.setIfInBounds_toArray, List.set_cons_zero, List.set_cons_succ]
              refine wpAnyH_take (i := 13) (oi := ⟨some 8, _, _, _, _, _⟩) (v := ?_) rfl (by kernel_rfl) (by kernel_rfl) (by kernel_rfl) (fun _ _ _ h => h) (Or.inl ⟨by rfl, ?_⟩) hS ?_
              rotate_left
              · intro wq hq
                first | (go_simp; done) | (go_simp; rfl)
              try simp only [Act.put, List.setIfInBounds_toArray, List.set_cons_zero, List.set_cons_succ]
              refine wpAnyH_done (by kernel_rfl) ?_ _
              go_wp2_with fail
              go_meet
              exact told_cut hS.res hb3 hq2 (by omega) hfin
        · rw [if_pos (by rfl)]
          go_wp2_with fail
          refine (take_is W46 g l 10 0 _ hC).mono ?_
          rintro e W50 ⟨A4, rfl, hnw, _, hG⟩
          rw [HT.out] at hnw
          rw [HT.out]
          have hSn := hS.grown hG hgw HG9.out
          have hV := hnw.rd
          have hQ2 := hQ.grown hG (fun e => by injection e with e; have := HG9.out; omega)
          have hX2 := hX.grown hG (fun e => by injection e with e; have := HG9.out; omega)
          clear hS hC hG hnw hQ hX
          refine hK.out _ _ (hSn) (fun hS => ?_)
          clear hK K
          try simp only [Act.put, List.setIfInBounds_toArray, List.set_cons_zero, List.set_cons_succ]
          clear hSn
          have hQ := hQ2
          clear hQ2
          have hX := hX2
          clear hX2
          refine wpAnyH_ready (rs := [0]) (by kernel_rfl) (by simp) ?_
          refine (AllReadyH.cons (o := ⟨some 57, _, _, _, _, _⟩) rfl (fun K hK => ?_) AllReadyH.nil)
          · rw [if_pos (by rfl)]
            refine wp_load_mid 24 _ rfl b 0 rfl (hlc hd) _ hX.range Tryd.underlying24 rfl hsz ?_
            refine hK.out _ _ (hS) (fun hS => ?_)
            clear hK K
            try simp only [Act.put, List.setIfInBounds_toArray, List.set_cons_zero, List.set_cons_succ]
            clear hX
            refine wpAnyH_ready (rs := [5]) (by kernel_rfl) (by simp) ?_
            refine (AllReadyH.cons (o := ⟨some 62, _, _, _, _, _⟩) rfl (fun K hK => ?_) AllReadyH.nil)
            · rw [if_pos (by rfl)]
              go_wp2_with fail
              refine (wpars_is W50 hS.env hd HHk.out A4 _ _ pl hV HTl.out).mono ?_
              rintro e W52 ⟨hB, hp⟩
              obtain ⟨h2, c2, s2, Af, nf, cf, bb, rfl, hfin⟩ := told_any hp
              have hSn := hS.below hB
              have hQ2 := hQ.below hB hQ.lt
              clear hS hV hB hp hQ
              refine hK.out _ _ (hSn) (fun hS => ?_)
              clear hK K
              try simp only [Act.put, List.setIfInBounds_toArray, List.set_cons_zero, List.set_cons_succ]
              clear hSn
              refine wpAnyH_take (i := 6) (oi := ⟨some 56, _, _, _, _, _⟩) (v := ?_) rfl (by kernel_rfl) (by kernel_rfl) (by kernel_rfl) (fun _ _ _ h => h) (Or.inl ⟨by rfl, ?_⟩) hS ?_
              rotate_left
              · intro wq hq
                first | (go_simp; done) | (go_simp; rfl)
              try simp only [Act.put, List.setIfInBounds_toArray, List.set_cons_zero, List.set_cons_succ]
              refine wpAnyH_take (i := 7) (oi := ⟨some 63, _, _, _, _, _⟩) (v := ?_) rfl (by kernel_rfl) (by kernel_rfl) (by kernel_rfl) (fun _ _ _ h => h) (Or.inl ⟨by rfl, ?_⟩) hS ?_
              rotate_left
              · intro wq hq
                first | (go_simp; done) | (go_simp; rfl)
              try simp only [Act.put, List.setIfInBounds_toArray, List.set_cons_zero, List.set_cons_succ]
              refine wpAnyH_take (i := 8) (oi := ⟨some 64, _, _, _, _, _⟩) (v := ?_) rfl (by kernel_rfl) (by kernel_rfl) (by kernel_rfl) (fun _ _ _ h => h) (Or.inl ⟨by rfl, ?_⟩) hS ?_
              rotate_left
              · intro wq hq
                first | (go_simp; done) | (go_simp; rfl)
              try simp only [Act.put, List.setIfInBounds_toArray, List.set_cons_zero, List.set_cons_succ]
              refine wpAnyH_take (i := 9) (oi := ⟨some 65, _, _, _, _, _⟩) (v := ?_) rfl (by kernel_rfl) (by kernel_rfl) (by kernel_rfl) (fun _ _ _ h => h) (Or.inl ⟨by rfl, ?_⟩) hS ?_
              rotate_left
              · intro wq hq
                first | (go_simp; done) | (go_simp; rfl)
              try simp only [Act.put, List.setIfInBounds_toArray, List.set_cons_zero, List.set_cons_succ]
              have hQ := hQ2
              clear hQ2
              obtain ⟨ob, hob, hobz⟩ := hS.box
              refine wpAnyH_ready (rs := [11]) (by kernel_rfl) (by simp) ?_
              refine AllReadyH.cons (o := ⟨none, _, _, _, _, _⟩) rfl (fun K hK => ?_) AllReadyH.nil
              rw [if_pos (by rfl)]
              refine wp_store_row 24 _ _ rfl b (hlc h2).toArray rfl rfl 24 _ hob hsz (by rw [hobz]; rfl) (hlc_one _) ?_
              have hb2 := Blk.setRow hob (hlc h2).toArray
              have hSn := hS.row (hlc h2).toArray rfl
              have hQ2 := hQ.setRow_other8 (g' := b) (by omega) (hlc h2).toArray
              clear hS hob hQ
              refine hK.out _ _ hSn (fun hS => ?_)
              clear hK K hSn
              try simp only [Act.put, List.setIfInBounds_toArray, List.set_cons_zero, List.set_cons_succ]
              generalize (W52.setRow b (hlc h2).toArray) = Wx at *
              refine wpAnyH_ready (rs := [12]) (by kernel_rfl) (by simp) ?_
              refine AllReadyH.cons (o := ⟨none, _, _, _, _, _⟩) rfl (fun K hK => ?_) AllReadyH.nil
              rw [if_pos (by rfl)]
              refine wp_store_row 34 _ _ rfl q #[.int .i64 c2, .int .i64 s2, .slice Af nf cf] rfl rfl 34 _ hQ2 fsz rfl (by kernel_rfl) ?_
              have hq2 := Blk.setRow hQ2 #[.int .i64 c2, .int .i64 s2, .slice Af nf cf]
              have hb3 := hb2.setRow_other8 (g' := q) (by omega) #[.int .i64 c2, .int .i64 s2, .slice Af nf cf]
              have hSn := hS.far (g := q) (by omega) #[.int .i64 c2, .int .i64 s2, .slice Af nf cf]
              have hlb := hS.lb
              clear hS hb2 hQ2
              refine hK.out _ _ hSn (fun hS => ?_)
              clear hK K hSn
              try simp only [Act.put, List.setIfInBounds_toArray, List.set_cons_zero, List.set_cons_succ]
              refine wpAnyH_take (i := 13) (oi := ⟨some 8, _, _, _, _, _⟩) (v := ?_) rfl (by kernel_rfl) (by kernel_rfl) (by kernel_rfl) (fun _ _ _ h => h) (Or.inl ⟨by rfl, ?_⟩) hS ?_
              rotate_left
              · intro wq hq
                first | (go_simp; done) | (go_simp; rfl)
              try simp only [Act.put, List.setIfInBounds_toArray, List.set_cons_zero, List.set_cons_succ]
              refine wpAnyH_done (by kernel_rfl) ?_ _
              go_wp2_with fail
              go_meet
              exact told_cut hS.res hb3 hq2 (by omega) hfin
  case rest =>
    cases hpo : parsO hd pl with
    | ok h2 =>
      have HJ0 : Hid (fullR hd pl = judgeR h2) := Lib.hid (by unfold fullR; rw [hpo])
      have HOk2 := Lib.hid (parsO_ok HHk.out HOp.out hpo)
      rw [hpo] at hcut
      obtain ⟨hres, rfl, hbx⟩ := hcut
      have HRes := Lib.hid hres
      have HBx := Lib.hid hbx
      clear hres hbx
      clear hpo
      go_wp2_with (refine h_fetch rfl _ rfl b h2 24 rfl HBx.out ?_)
      refine (judged_is wc h2 HOk2.out).mono ?_
      rintro e W ⟨hB, hp⟩
      obtain ⟨h3, c3, s3, Af, nf, cf, bb, rfl, hfin⟩ := told_judge hp
      have HS2 := Lib.hid (HRes.out.below hB)
      have HFin := Lib.hid hfin
      clear hB hp hfin HRes HBx
      go_wp2_with (first
        | (refine res_store HS2.out rfl _ _ rfl h3 rfl rfl ?_)
        | (refine res_store2 HS2.out h3 rfl _ _ rfl c3 s3 Af nf cf rfl rfl ?_))
      try simp only [Exit.inBlock, Exit.then]
      exact res_end rfl _ w W _ HS2.out h3 c3 s3 Af nf cf _ rfl rfl rfl rfl (fun hb => by rw [HJ0.out]; exact told_fin hb HFin.out)
    | error q =>
      obtain ⟨s, d⟩ := q
      have HJ0 : Hid (fullR hd pl = .error (s, d)) := Lib.hid (by unfold fullR; rw [hpo])
      have hd0 := parsO_err hpo
      subst hd0
      rw [hpo] at hcut
      obtain ⟨hres, rfl, q, A2, n2, c2, rfl, hq, _, hrd, hlt⟩ := hcut
      obtain rfl : n2 = 0 := hrd.len.symm
      have HRes := Lib.hid hres
      have HQ := Lib.hid hq
      clear hres hq hrd
      clear hpo
      go_wp2_with fail
      refine wp_region_held_drew (S := fun W => ResS w W w.heap.size ∧ Blk W q 34 #[.int .i64 2, .int .i64 s, .slice A2 0 c2]) (by kernel_rfl) (⟨HRes.out.below (below_drew8 wc), HQ.out.below (below_drew8 wc) HQ.out.lt⟩) (fun hS => ?_)
      have HS0 := Lib.hid hS
      refine wpAnyH_take (i := 0) (oi := ⟨some 68, _, _, _, _, _⟩) (v := ?_) rfl (by kernel_rfl) (by kernel_rfl) (by kernel_rfl) (fun _ _ _ h => h) (Or.inl ⟨by rfl, ?_⟩) hS ?_
      rotate_left
      · intro wq hq
        first | (go_simp; done) | (go_simp; rfl)
      try simp only [Act.put, List.setIfInBounds_toArray, List.set_cons_zero, List.set_cons_succ]
      refine wpAnyH_take (i := 1) (oi := ⟨some 69, _, _, _, _, _⟩) rfl (by kernel_rfl) (by kernel_rfl) (by kernel_rfl) (fun _ _ _ h => h) (yieldsIf_load_mid (by rfl) 34 _ rfl _ _ rfl ([.int .i64 2, .int .i64 s, .slice A2 0 c2]) _ (fun wq hq => (Blk.range (cs := [.int .i64 2, .int .i64 s, .slice A2 0 c2]) hq.2)) Tryd.underlying34 rfl (fsz)) hS ?_
      try simp only [Act.put, List.setIfInBounds_toArray, List.set_cons_zero, List.set_cons_succ]
      obtain ⟨o1, k1, z1⟩ := hS.1.hb
      obtain ⟨o2, k2, z2⟩ := hS.1.fb
      refine wpAnyH_ready (rs := [2]) (by kernel_rfl) (by simp) ?_
      refine AllReadyH.cons (o := ⟨none, _, _, _, _, _⟩) rfl (fun K hK => ?_) AllReadyH.nil
      rw [if_pos (by rfl)]
      refine wp_store_row 24 _ _ rfl w.heap.size (hlc hl0).toArray rfl rfl 24 _ k1 hsz (by rw [z1]; rfl) (hlc_one _) ?_
      refine hK.out _ _ ⟨hS.1.own1 (hlc hl0).toArray rfl, hS.2.setRow_other8 (by omega) _⟩ (fun hS => ?_)
      clear hK K
      try simp only [Act.put, List.setIfInBounds_toArray, List.set_cons_zero, List.set_cons_succ]
      refine wpAnyH_ready (rs := [3]) (by kernel_rfl) (by simp) ?_
      refine AllReadyH.cons (o := ⟨none, _, _, _, _, _⟩) rfl (fun K hK => ?_) AllReadyH.nil
      rw [if_pos (by rfl)]
      refine wp_store_row 34 _ _ rfl (w.heap.size + 1) #[.int .i64 2, .int .i64 s, .slice A2 0 c2] rfl rfl 34 _ (k2.setRow_other8 (by omega) _) fsz (by rw [z2]; rfl) (by kernel_rfl) ?_
      refine hK.out _ _ ⟨hS.1.own2 #[.int .i64 2, .int .i64 s, .slice A2 0 c2] rfl, hS.2.setRow_other8 (by omega) _⟩ (fun hS => ?_)
      clear hK K
      try simp only [Act.put, List.setIfInBounds_toArray, List.set_cons_zero, List.set_cons_succ]
      refine wpAnyH_take (i := 4) (oi := ⟨some 4, _, _, _, _, _⟩) (v := ?_) rfl (by kernel_rfl) (by kernel_rfl) (by kernel_rfl) (fun _ _ _ h => h) (Or.inl ⟨by rfl, ?_⟩) hS ?_
      rotate_left
      · intro wq hq
        first | (go_simp; done) | (go_simp; rfl)
      try simp only [Act.put, List.setIfInBounds_toArray, List.set_cons_zero, List.set_cons_succ]
      refine wpAnyH_done (by kernel_rfl) ?_ _
      clear hS k1 k2
      go_wp2
      try simp only [Exit.inBlock, Exit.then]
      exact res_end rfl _ w wc.drew _ HS0.out.1 hl0 2 s A2 0 c2 _ rfl rfl rfl rfl (fun hb => by rw [HJ0.out]; exact told_fin hb (Or.inr ⟨rfl, rfl, rfl, rfl, rfl⟩))

set_option maxHeartbeats 1000000 in
theorem read_early (w : World) (A : Option Addr) (n c : Nat) (l : List Int) (hr : Rd w w.heap.size A n l) (h10 : n < 10) : Calls Tryd.prog 15 #[.slice A n c] w (ToldH w (.error (0, []))) := by
  have hres := res_new w
  have HR := Lib.hid hres
  clear hr hres
  go_enter Tryd.func15, Tryd.ntmps15
  go_wp2_with fail
  refine (refused_is _ 0 none 0 0).mono ?_
  generalize ((w.alloc (.cells #[.int .u32 0, .int .i64 0, .int .u32 0, .bool false, .bool false, .bool false] 24)).alloc (.cells #[.int .i64 0, .int .i64 0, .slice none 0 0] 34)) = w1 at *
  rintro e W ⟨rfl, hB⟩
  have HS2 := Lib.hid (HR.out.below hB)
  clear hB HR
  go_wp2_with (first
    | (refine res_store HS2.out rfl _ _ rfl hl0 rfl rfl ?_)
    | (refine res_store2 HS2.out hl0 rfl _ _ rfl 2 0 none 0 0 rfl rfl ?_))
  try simp only [Exit.inBlock, Exit.then]
  exact res_end rfl _ w W _ HS2.out hl0 2 0 none 0 0 (.bool false) rfl rfl rfl rfl (fun hb => ToldH.no w _ 0 hb)
set_option maxHeartbeats 1000000 in
theorem read_version (w : World) (A : Option Addr) (n c : Nat) (l : List Int) (hr : Rd w w.heap.size A n l) (h10 : 10 ≤ n) (x : Int) (hx : l.getD 0 0 = x) (h4 : x ≠ 4) : Calls Tryd.prog 15 #[.slice A n c] w (ToldH w (.error (1, [0, 4]))) := by
  have hres := res_new w
  have HL := Lib.hid (hr.up hres.low)
  have HR := Lib.hid hres
  obtain ⟨b0, off, rfl, c0⟩ := rd_byte HL.out (i := 0) (by omega)
  rw [hx, Nat.add_zero] at c0
  have e4 : (x != 4) = true := by simpa using h4
  have hs1 : ((w.alloc (.cells #[.int .u32 0, .int .i64 0, .int .u32 0, .bool false, .bool false, .bool false] 24)).alloc (.cells #[.int .i64 0, .int .i64 0, .slice none 0 0] 34)).heap.size = w.heap.size + 1 + 1 := by simp
  have hby := Blk.new ((w.alloc (.cells #[.int .u32 0, .int .i64 0, .int .u32 0, .bool false, .bool false, .bool false] 24)).alloc (.cells #[.int .i64 0, .int .i64 0, .slice none 0 0] 34)) 5 #[.int .u8 0, .int .u8 4]
  rw [hs1] at hby
  have HBy := Lib.hid hby
  clear hby hs1
  clear hr hres HL h4 hx
  go_enter Tryd.func15, Tryd.ntmps15
  go_wp2_with fail
  refine (refused_is _ 1 _ 2 2).mono ?_
  generalize ((w.alloc (.cells #[.int .u32 0, .int .i64 0, .int .u32 0, .bool false, .bool false, .bool false] 24)).alloc (.cells #[.int .i64 0, .int .i64 0, .slice none 0 0] 34)) = w1 at *
  rintro e W ⟨rfl, hB⟩
  have HS2 := Lib.hid ((HR.out.below (below_one8 _ _)).below hB)
  have hB2 := HBy.out.below hB HBy.out.lt
  have HD := Lib.hid hB2
  clear hB2
  clear hB c0
  go_wp2_with (first
    | (refine res_store HS2.out rfl _ _ rfl hl0 rfl rfl ?_)
    | (refine res_store2 HS2.out hl0 rfl _ _ rfl 2 1 _ 2 2 rfl rfl ?_))
  try simp only [Exit.inBlock, Exit.then]
  refine res_end rfl _ w W _ HS2.out hl0 2 1 _ 2 2 (.bool false) rfl rfl rfl rfl (fun hb => ⟨hb, _, 2, 2, rfl, Nat.le_refl _, ?_⟩)
  have hD2 : Byt _ (w.heap.size + 1 + 1) 5 [0, 4] := (HD.out.setRow_other8 (g' := w.heap.size) (by omega) (hlc hl0).toArray).setRow_other8 (g' := w.heap.size + 1) (by omega) #[.int .i64 2, .int .i64 1, .slice (some ⟨w.heap.size + 1 + 1, 0, none⟩) 2 2]
  exact hD2.rd_all (oct2 (by omega) (by omega)) hD2.lt
set_option maxHeartbeats 1000000 in
theorem read_length (w : World) (A : Option Addr) (n c : Nat) (l : List Int) (hr : Rd w w.heap.size A n l) (h10 : 10 ≤ n) (hn : n ≤ 140737488355328) (h4 : l.getD 0 0 = 4) (x : Int) (hx : l.getD 9 0 = x) (h9 : (n : Int) - 10 ≠ x) : Calls Tryd.prog 15 #[.slice A n c] w (ToldH w (.error (0, []))) := by
  have hb9 := hr.oct.getD 9
  rw [hx] at hb9
  have hres := res_new w
  have HL := Lib.hid (hr.up hres.low)
  have HR := Lib.hid hres
  obtain ⟨b0, off, rfl, c0⟩ := rd_byte HL.out (i := 0) (by omega)
  obtain ⟨b0', off', e, c9⟩ := rd_byte HL.out (i := 9) (by omega)
  injection e with e
  injection e with e1 e2
  subst e1 e2
  rw [h4, Nat.add_zero] at c0
  rw [hx] at c9
  have e9 : ((n : Int) - 10 != x) = true := by simpa using h9
  clear hr hres HL h4 hx h9
  go_enter Tryd.func15, Tryd.ntmps15
  go_wp2_with fail
  refine (refused_is _ 0 none 0 0).mono ?_
  generalize ((w.alloc (.cells #[.int .u32 0, .int .i64 0, .int .u32 0, .bool false, .bool false, .bool false] 24)).alloc (.cells #[.int .i64 0, .int .i64 0, .slice none 0 0] 34)) = w1 at *
  rintro e W ⟨rfl, hB⟩
  have HS2 := Lib.hid (HR.out.below hB)
  clear hB HR c0 c9
  go_wp2_with (first
    | (refine res_store HS2.out rfl _ _ rfl hl0 rfl rfl ?_)
    | (refine res_store2 HS2.out hl0 rfl _ _ rfl 2 0 none 0 0 rfl rfl ?_))
  try simp only [Exit.inBlock, Exit.then]
  exact res_end rfl _ w W _ HS2.out hl0 2 0 none 0 0 (.bool false) rfl rfl rfl rfl (fun hb => ToldH.no w _ 0 hb)
theorem readH_is (w : World) (E : EnvF w) (A : Option Addr) (n c : Nat) (l : List Int) (hr : Rd w w.heap.size A n l) (hn : n ≤ 140737488355328) : Calls Tryd.prog 15 #[.slice A n c] w (ToldH w (readR l)) := by
  have hl := hr.len
  by_cases h10 : n < 10
  · have e : readR l = .error (0, []) := by unfold readR; rw [if_pos (by omega)]
    rw [e]
    exact read_early w A n c l hr h10
  by_cases h4 : l.getD 0 0 = 4
  · by_cases h9 : (n : Int) - 10 = l.getD 9 0
    · have e : readR l = fullR (headR l) (l.drop 10) := by
        unfold readR fullR parsO
        rw [if_neg (by omega), if_neg (by simpa using h4), if_neg (by rw [hl]; simpa using h9)]
        cases parsR (headR l) (l.drop 10) <;> rfl
      rw [e]
      exact read_go w E A n c l hr (by omega) h4 h9 _ rfl _ rfl
    · have e : readR l = .error (0, []) := by
        unfold readR
        rw [if_neg (by omega), if_neg (by simpa using h4), if_pos (by rw [hl]; exact h9)]
      rw [e]
      exact read_length w A n c l hr (by omega) hn h4 _ rfl h9
  · have e : readR l = .error (1, [0, 4]) := by
      unfold readR
      rw [if_neg (by omega), if_pos h4]
    rw [e]
    exact read_version w A n c l hr (by omega) _ rfl h4
end Go.Proofs.YtgfjjkckamppoaaDoor
