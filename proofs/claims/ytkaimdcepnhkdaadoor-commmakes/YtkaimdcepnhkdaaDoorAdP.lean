/-
  Layer 2 (addr): groups as an address; fill.
-/
import Derived.Test.YtkaimdcepnhkdaaDoorAdO
namespace Go.Proofs.YtkaimdcepnhkdaaDoor
open Go.RowKit
set_option linter.unusedSimpArgs false
set_option linter.unusedVariables false

/-- Two bytes a group. -/
def ungrp : List Int → List Int
  | [] => []
  | x :: r => x / 256 :: x % 256 :: ungrp r
theorem ungrp_len : ∀ l, (ungrp l).length = 2 * l.length
  | [] => rfl
  | x :: r => by simp [ungrp, ungrp_len r]; omega
theorem ungrp_app : ∀ a b, ungrp (a ++ b) = ungrp a ++ ungrp b
  | [], b => rfl
  | x :: a, b => by simp [ungrp, ungrp_app a b]
theorem ungrp_oct : ∀ l : List Int, (∀ x ∈ l, 0 ≤ x ∧ x < 65536) → Oct (ungrp l)
  | [], _ => by intro x h; cases h
  | y :: r, h => by
    have hy := h y (by simp)
    intro x hx
    simp only [ungrp, List.mem_cons] at hx
    rcases hx with rfl | rfl | hx
    · omega
    · omega
    · exact ungrp_oct r (fun z hz => h z (by simp [hz])) x hx

theorem fill_is (w : World) (n : Int) (b : Bool) : Calls Tryd.prog 135 #[.int .i64 n, .bool b] w fun e w' => e = .returned (.bool (if b then decide (n < 8) else decide (n = 8))) ∧ w = w' := by
  cases b
  · by_cases h : n = 8
    · subst h
      go_enter Tryd.func135, Tryd.ntmps135
      go_wp2
      go_ret
      exact ⟨rfl, rfl⟩
    · have hb : (n == 8) = false := by simpa using h
      have hd : Hid (decide (n = 8) = false) := Lib.hid (by simpa using h)
      clear h
      go_enter Tryd.func135, Tryd.ntmps135
      go_wp2
      go_ret
      refine ⟨?_, rfl⟩
      show _ = Ending.returned (.bool (decide (n = 8)))
      rw [hd.out]
      rfl
  · go_enter Tryd.func135, Tryd.ntmps135
    go_wp2
    go_ret
    exact ⟨rfl, rfl⟩

abbrev zip6 : Array Value := #[Value.bool true, Value.int .u8 0, Value.int .u8 0, Value.int .u8 0, Value.int .u8 0, Value.int .u8 0, Value.int .u8 0, Value.int .u8 0, Value.int .u8 0, Value.int .u8 0, Value.int .u8 0, Value.int .u8 0, Value.int .u8 0, Value.int .u8 0, Value.int .u8 0, Value.int .u8 0, Value.int .u8 0]
/-- 'x[k]' of an array of one-cell elements that is a value. -/
theorem run_index_one {P : Program} {t e : TypeId} {n : Nat} (hu : P.underlying t = some (.array n e)) (hi0 : (P.info? e).map (·.size) = some 1) (ha : ∀ W, (isAgg e).run P W = .ok false W) (cs : Array Value) (k : Nat) (v : Value) (hk : k < n) (hv : cs[k]? = some v) (W : World) :
    (Instr.index t (.agg cs) (.int .i64 (k : Int))).run P W = .ok v W := by
  obtain ⟨i, hi, hs⟩ := Option.map_eq_some_iff.1 hi0
  simp [Instr.index, asIntOf, run_underlying hu, part, ha, sizeOf, typeInfo, hi, hs, hk, hv]
set_option maxHeartbeats 1000000 in
set_option maxRecDepth 100000 in
theorem gip_is (w : World) (gs : List Int) (hl : gs.length = 8) (hbd : ∀ x ∈ gs, 0 ≤ x ∧ x < 65536) :
    Calls Tryd.prog 136 #[.agg (u16s gs).toArray] w fun e w' => e = .returned (.agg (ipc true (ungrp gs)).toArray) ∧ Below w.heap.size w w' := by
  have HR := Lib.hid (range_new w 130 (u16s gs))
  have HR1 := Lib.hid (range_alloc HR.out (.cells zip16 24) (by simp))
  have HR2 := Lib.hid (range_alloc HR1.out (.cells zip16 24) (by simp; omega))
  have HN := Lib.hid (Blk.new ((w.alloc (.cells (u16s gs).toArray 130)).alloc (.cells zip16 24)) 24 zip16)
  rw [show ((w.alloc (.cells (u16s gs).toArray 130)).alloc (.cells zip16 24)).heap.size = w.heap.size + 1 + 1 by simp] at HN
  have HR3 : Hid (((((w.alloc (.cells (u16s gs).toArray 130)).alloc (.cells zip16 24)).alloc (.cells zip16 24)).setRow (w.heap.size + 1 + 1) (ipc true (List.replicate 16 0)).toArray).rangeAt w.heap.size 0 (u16s gs)) := Lib.hid (range_below HR2.out (below_setRow _ (w.heap.size + 1 + 1) _ (Nat.le_refl _)) (by omega))
  have HN2 := Lib.hid (Blk.setRow HN.out (ipc true (List.replicate 16 0)).toArray)
  have HZ0 : Hid (Blk ((w.alloc (.cells (u16s gs).toArray 130)).alloc (.cells zip16 24)) (w.heap.size + 1) 24 zip16) := Lib.hid (by have h := Blk.new (w.alloc (.cells (u16s gs).toArray 130)) 24 zip16; simpa using h)
  have HZ : Hid (Blk ((((w.alloc (.cells (u16s gs).toArray 130)).alloc (.cells zip16 24)).alloc (.cells zip16 24)).setRow (w.heap.size + 1 + 1) (ipc true (List.replicate 16 0)).toArray) (w.heap.size + 1) 24 zip16) := Lib.hid ((HZ0.out.alloc _).below (below_setRow _ (w.heap.size + 1 + 1) _ (Nat.le_refl _)) (by omega))
  have HB : Hid (Below w.heap.size w ((((w.alloc (.cells (u16s gs).toArray 130)).alloc (.cells zip16 24)).alloc (.cells zip16 24)).setRow (w.heap.size + 1 + 1) (ipc true (List.replicate 16 0)).toArray)) := Lib.hid (((((Below.refl _ _).alloc (Nat.le_refl _) _).alloc (by simp) _).alloc (by simp; omega) _).trans (below_setRow _ _ _ (by omega)))
  go_enter Tryd.func136, Tryd.ntmps136
  go_wp2_with (first
    | (refine ip_store rfl _ _ rfl (w.heap.size + 1 + 1) true (List.replicate 16 0) rfl rfl rfl 24 zip16 HN.out rfl ?_)
    | (refine grp_fetch rfl _ rfl w.heap.size gs hl rfl HR3.out ?_))
  go_loopw [4, 5, 8] (fun _ _ i wr => ∃ k : Nat, k ≤ 8 ∧ i = .int .i64 k ∧ Blk wr (w.heap.size + 1 + 1) 24 (ipc true (ungrp (gs.take k) ++ List.replicate (16 - 2 * k) 0)).toArray ∧ Blk wr (w.heap.size + 1) 24 zip16 ∧ Below w.heap.size w wr) (fun _ _ i _ => 8 - (intOf i).toNat)
  case atStart => exact ⟨0, by omega, rfl, HN2.out, HZ.out, HB.out⟩
  case round =>
    obtain ⟨k, hk, rfl, ha, hz, hB⟩ := hrel
    have HA := Lib.hid ha
    have HZz := Lib.hid hz
    have HBb := Lib.hid hB
    clear ha hz hB HR HR1 HR2 HR3 HN HN2 HZ0 HZ HB
    by_cases hlt : k < 8
    · have hx := hbd gs[k] (List.getElem_mem (by omega))
      have hkl : (ungrp (gs.take k)).length = 2 * k := by rw [ungrp_len, List.length_take]; omega
      have HS : Hid (ungrp (gs.take (k + 1)) = ungrp (gs.take k) ++ [gs[k] / 256, gs[k] % 256]) := Lib.hid (by rw [List.take_succ_eq_append_getElem (by omega), ungrp_app]; rfl)
      have hA := HA.out
      rw [show 16 - 2 * k = 16 - 2 * (k + 1) + 1 + 1 by omega, List.replicate_succ, List.replicate_succ] at hA
      have hc1 := hA.cell (1 + 2 * k)
      rw [ipc_get true _ _ _ (2 * k) hkl] at hc1
      have hf1 := hA.frozen (1 + 2 * k)
      have hA2 := hA.set_ (1 + 2 * k) (.int .u8 (gs[k] / 256))
      rw [ipc_set true _ _ _ _ (2 * k) hkl, show ungrp (gs.take k) ++ gs[k] / 256 :: 0 :: List.replicate (16 - 2 * (k + 1)) 0 = (ungrp (gs.take k) ++ [gs[k] / 256]) ++ 0 :: List.replicate (16 - 2 * (k + 1)) 0 by simp] at hA2
      have hkl2 : (ungrp (gs.take k) ++ [gs[k] / 256]).length = 2 * k + 1 := by simp [hkl]
      have hc2 := hA2.cell (1 + (2 * k + 1))
      rw [ipc_get true _ _ _ (2 * k + 1) hkl2] at hc2
      have hf2 := hA2.frozen (1 + (2 * k + 1))
      have hA3 := hA2.set_ (1 + (2 * k + 1)) (.int .u8 (gs[k] % 256))
      rw [ipc_set true _ _ _ _ (2 * k + 1) hkl2, show (ungrp (gs.take k) ++ [gs[k] / 256]) ++ gs[k] % 256 :: List.replicate (16 - 2 * (k + 1)) 0 = ungrp (gs.take (k + 1)) ++ List.replicate (16 - 2 * (k + 1)) 0 by rw [HS.out]; simp] at hA3
      have HA3 := Lib.hid hA3
      have HG := Lib.hid (show (u16s gs).toArray[k]? = some (.int .u16 gs[k]) by simp [show k < gs.length by omega])
      have hg := HG.out
      have Hz3 := Lib.hid ((HZz.out.far (p := ⟨w.heap.size + 1 + 1, 1 + 2 * k, none⟩) (by simp) (.int .u8 (gs[k] / 256))).far (p := ⟨w.heap.size + 1 + 1, 1 + (2 * k + 1), none⟩) (by simp) (.int .u8 (gs[k] % 256)))
      have HB3 := Lib.hid ((HBb.out.setCell (p := ⟨w.heap.size + 1 + 1, 1 + 2 * k, none⟩) (show w.heap.size ≤ w.heap.size + 1 + 1 by omega) (.int .u8 (gs[k] / 256))).setCell (p := ⟨w.heap.size + 1 + 1, 1 + (2 * k + 1), none⟩) (show w.heap.size ≤ w.heap.size + 1 + 1 by omega) (.int .u8 (gs[k] % 256)))
      have hidx := run_index_one (P := Tryd.prog) (t := 130) (e := 50) (n := 8) Tryd.underlying130 (by kernel_rfl) (run_isAgg_plain Tryd.underlying50 rfl) (u16s gs).toArray k _ (by omega) hg
      clear hA hA2 hA3 hkl hkl2 HS HA HZz HBb hg
      generalize gs[k] = x at *
      go_wp2
      exact ⟨⟨k + 1, by omega, by go_num, HA3.out, Hz3.out, HB3.out⟩, by simp [intOf]; omega⟩
    · obtain rfl : k = 8 := by omega
      have hA := HA.out
      rw [show 16 - 2 * 8 = 0 by omega, List.replicate_zero, List.append_nil, List.take_of_length_le (by omega)] at hA
      have HA2 := Lib.hid hA
      have HL := Lib.hid (show (ungrp gs).length = 16 by rw [ungrp_len]; omega)
      clear hA HA
      go_wp2_with (first
        | (refine ip_fetch rfl _ rfl (w.heap.size + 1 + 1) 0 true (ungrp gs) HL.out rfl HA2.out.range ?_)
        | (refine ip_store rfl _ _ rfl (w.heap.size + 1) true (ungrp gs) HL.out rfl rfl 24 zip16 HZz.out rfl ?_))
      refine bodyPost_ret (v := .agg (ipc true (ungrp gs)).toArray) ?_ rfl ⟨rfl, HBb.out.trans (below_setRow _ _ _ (by omega))⟩
      exact results_cell_row rfl _ _ (w.heap.size + 1) 24 _ (0, 0) _ rfl (Blk.setRow HZz.out _) Tryd.underlying24 rfl (by simpa using ip_size true _ HL.out)
end Go.Proofs.YtkaimdcepnhkdaaDoor
