/-
  Layer 8: the document's wrong; mathematics of its Read; what stands in its loop.
-/
import Derived.Test.YtgfjjkckamppoaaDoorHrD
import Derived.Test.YtgfjjkckamppoaaDoorHeR
namespace Go.Proofs.YtgfjjkckamppoaaDoor
open Go.RowKit
set_option maxRecDepth 100000
set_option linter.unusedSimpArgs false
set_option linter.unusedVariables false

theorem BodyX.farR {w W : World} {A : Option Addr} {l : List Int} {b : Nat} (h : BodyX w W A l) (k : ResS w W b) (cs cs2 : Array Value) : Rd ((W.setRow b cs).setRow (b + 1) cs2) ((W.setRow b cs).setRow (b + 1) cs2).heap.size A l.length l := by
  obtain ⟨o1, k1, z1⟩ := k.hb
  obtain ⟨o2, k2, z2⟩ := k.fb
  exact ((h.row k1 (by decide) cs).row (Blk.setRow_other8 k2 (show b + 1 ≠ b by omega) cs) (by decide) cs2).rd
def WrgP (w : World) (s : Int) (l : List Int) (e : Ending) (w' : World) : Prop := Below w.heap.size w w' ∧ ∃ A c, e = .returned (.tuple #[.agg (hlc hl0).toArray, .agg #[.int .i64 2, .int .i64 s, .slice A l.length c], .bool false]) ∧ l.length ≤ c ∧ BodyX w w' A l
set_option maxHeartbeats 2000000 in
theorem wrong_is (w : World) (s : Int) (A : Option Addr) (n c : Nat) (l : List Int) (hr : Rd w w.heap.size A n l) (hn : n ≤ 1000) : Calls Tryd.prog 49 #[.int .i64 s, .slice A n c] w (WrgP w s l) := by
  have hS := res_new w
  have hs2 : ((w.alloc (.cells #[.int .u32 0, .int .i64 0, .int .u32 0, .bool false, .bool false, .bool false] 24)).alloc (.cells #[.int .i64 0, .int .i64 0, .slice none 0 0] 34)).heap.size = w.heap.size + 2 := by simp
  have HS := Lib.hid hS
  have HR := Lib.hid (hr.up hS.low)
  have HS2 := Lib.hid hs2
  have hl := hr.len
  clear hr hS hs2
  go_enter Tryd.func49, Tryd.ntmps49
  go_wp2_with (at_builtin; refine app_bs rfl _ _ rfl (ownB_zero ((w.alloc (.cells #[.int .u32 0, .int .i64 0, .int .u32 0, .bool false, .bool false, .bool false] 24)).alloc (.cells #[.int .i64 0, .int .i64 0, .slice none 0 0] 34)) (w.heap.size + 2) (Nat.le_of_eq HS2.out.symm)) (by simp) (HR.out.up (below_one8 _ _)) (by simp; omega) (by rw [HS2.out]; rfl) rfl ?_)
  intro v' W ho hb _ _
  have hB : Below ((w.alloc (.cells #[.int .u32 0, .int .i64 0, .int .u32 0, .bool false, .bool false, .bool false] 24)).alloc (.cells #[.int .i64 0, .int .i64 0, .slice none 0 0] 34)).heap.size ((w.alloc (.cells #[.int .u32 0, .int .i64 0, .int .u32 0, .bool false, .bool false, .bool false] 24)).alloc (.cells #[.int .i64 0, .int .i64 0, .slice none 0 0] 34)) W := (below_one8 _ (.cells #[] 5)).trans (by rw [HS2.out]; exact hb)
  have HS3 := Lib.hid (HS.out.below hB)
  have hx := ho.bodyX2 (w := w) (by omega)
  obtain ⟨Av, cv, rfl, hcv, _, _⟩ := ho.at_
  have HX := Lib.hid (hx Av _ cv rfl)
  obtain ⟨m, hm⟩ : ∃ m, m = l.length := ⟨_, rfl⟩
  try simp only [List.nil_append] at hcv ⊢
  rw [← hm] at hcv ⊢
  have HM := Lib.hid hm
  clear hB ho hb hx HS HR HS2 hm hl
  go_wp2_with (first
    | (refine res_store HS3.out rfl _ _ rfl hl0 rfl rfl ?_)
    | (refine res_store2 HS3.out hl0 rfl _ _ rfl 2 s Av m cv rfl rfl ?_))
  try simp only [Exit.inBlock, Exit.then]
  have hX := (HX.out.row (HS3.out.hb.choose_spec.1) (by decide) (hlc hl0).toArray).row (Blk.setRow_other8 (HS3.out.fb.choose_spec.1) (by omega) (hlc hl0).toArray) (by decide) #[.int .i64 2, .int .i64 s, .slice Av m cv]
  exact res_end rfl _ w W _ HS3.out hl0 2 s Av m cv (.bool false) rfl rfl rfl rfl (fun hb => ⟨hb, Av, cv, by rw [HM.out], by rw [← HM.out]; exact hcv, hX⟩)

/-- A hello with what a list of parameters says. -/
def parsL : Hl → List Raw → Except Int Hl
  | h, [] => .ok h
  | h, r :: rs => if r.2.1 = 2 then (match capsR h r.2.2 with
    | none => .error 0
    | some h' => parsL h' rs) else .error 4
theorem parsR_parts : ∀ (m : Nat) (h : Hl) (l : List Int), l.length ≤ m → parsR h l = match parsL h (partsR l).1 with
    | .error s => .error s
    | .ok h' => if (partsR l).2 then .ok h' else .error 0
  | 0, h, l, hm => by
    obtain rfl : l = [] := List.eq_nil_of_length_eq_zero (by omega)
    rfl
  | m + 1, h, l, hm => by
    by_cases h0 : l = []
    · subst h0; rfl
    · cases hp : part1 l with
      | none => rw [parsR_none h0 hp, partsR_none h0 hp]; rfl
      | some q =>
        obtain ⟨k, v, r'⟩ := q
        have := part1_lt hp
        rw [parsR_some h0 hp, partsR_some h0 hp]
        simp only [parsL]
        split
        · cases capsR h v with
          | none => rfl
          | some h' => exact parsR_parts m h' r' (by omega)
        · rfl
theorem parsL_step {rs : List Raw} {m : Nat} (hm : m < rs.length) (h : Hl) {f k : Int} {b : List Int} (hr : rs[m] = (f, k, b)) : parsL h (rs.drop m) = if k = 2 then (match capsR h b with
    | none => .error 0
    | some h' => parsL h' (rs.drop (m + 1))) else .error 4 := by
  rw [List.drop_eq_getElem_cons hm, hr]; rfl
theorem partsF_vals : ∀ (m : Nat) (r : List Int), Oct r → ∀ x ∈ (partsF m r).1, x.2.2.length ≤ 255
  | 0, r, ho, x, hx => by simp [partsF] at hx
  | m + 1, r, ho, x, hx => by
    by_cases h0 : r = []
    · subst h0; rw [partsF_nil] at hx; cases hx
    · cases hp : part1 r with
      | none => rw [partsF_none h0 hp] at hx; cases hx
      | some q =>
        obtain ⟨k, v, r'⟩ := q
        have hq := part1_oct ho hp
        rw [partsF_some h0 hp] at hx
        rcases List.mem_cons.1 hx with rfl | hx
        · exact hq.2.2.2
        · exact partsF_vals m r' hq.2.2.1 x hx
/-- What stands in the loop of Read. -/
structure RpS (w W : World) (h : Hl) (b lo : Nat) (v : Value) (rs : List Raw) : Prop where
  res : ResS w W w.heap.size
  box : Blk W b 24 (hlc h).toArray
  own : OwnR lo W v rs
  hb : w.heap.size + 1 < b
  lb : b < lo
  le : lo ≤ W.heap.size
theorem RpS.below {w W W' : World} {h : Hl} {b lo : Nat} {v : Value} {rs : List Raw} (k : RpS w W h b lo v rs) (hB : Below W.heap.size W W') : RpS w W' h b lo v rs :=
  ⟨k.res.below hB, k.box.below hB k.box.lt, k.own.below hB, k.hb, k.lb, Nat.le_trans k.le hB.size⟩
theorem RpS.row {w W : World} {h : Hl} {b lo : Nat} {v : Value} {rs : List Raw} (k : RpS w W h b lo v rs) (h' : Hl) : RpS w (W.setRow b (hlc h').toArray) h' b lo v rs := by
  have hB : Below b W (W.setRow b (hlc h').toArray) := below_setRow W b _ (Nat.le_refl _)
  obtain ⟨o1, k1, z1⟩ := k.res.hb
  obtain ⟨o2, k2, z2⟩ := k.res.fb
  have := k.hb
  refine ⟨⟨k.res.low.trans (hB.mono (by omega)), k.res.lb, ⟨o1, k1.below hB (by omega), z1⟩, ⟨o2, k2.below hB (by omega), z2⟩⟩, k.box.setRow _, k.own.keep fun j c t hj hlo _ => setRow_other _ _ _ _ (by have := k.lb; omega), k.hb, k.lb, ?_⟩
  rw [size_setRow]; exact k.le
theorem num_ok8 (l : List Int) (at_ k : Nat) (hk : 1 ≤ k) (h8 : k ≤ 8) (h : at_ + k ≤ l.length) : numVal l at_ 0 k = numOf ((l.drop at_).take k) ∧ numAt l at_ 0 k = at_ + k ∧ numErr l at_ 0 k = 0 := by
  have hok : numOk (k : Int) := ⟨by omega, by omega⟩
  refine ⟨?_, ?_, ?_⟩
  · unfold numVal stepTook; rw [if_pos hok, if_pos (by omega)]; rfl
  · unfold numAt stepAt; rw [if_pos hok, if_pos (by omega)]; rfl
  · unfold numErr stepErr; rw [if_pos hok, if_pos rfl, if_neg (by omega), if_neg (by omega)]
end Go.Proofs.YtgfjjkckamppoaaDoor
