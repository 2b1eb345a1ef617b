/-
  Layer 2 (addr): alive.
-/
import Derived.Test.YtkaimdcepnhkdaaDoorAdU
namespace Go.Proofs.YtkaimdcepnhkdaaDoor
open Go.RowKit
set_option linter.unusedSimpArgs false
set_option linter.unusedVariables false

def x1 : ByteArray := ⟨#[50, 48, 48, 49, 58, 48, 68, 66, 56, 58, 58, 48, 58, 49]⟩
def l1 : List Int := [32, 1, 13, 184, 0, 0, 0, 0, 0, 0, 0, 0, 0, 0, 0, 1]
theorem ev1 : rdIp x1 = some (true, l1) := by kernel_rfl
theorem ev2 : ipS true l1 = ⟨#[50, 48, 48, 49, 58, 100, 98, 56, 58, 58, 49]⟩ := by kernel_rfl
def l3 : List Int := [10, 1, 2, 3, 0, 0, 0, 0, 0, 0, 0, 0, 0, 0, 0, 0]
def l4 : List Int := [10, 0, 0, 0, 0, 0, 0, 0, 0, 0, 0, 0, 0, 0, 0, 0]
theorem ev3 : four 167838211 = l3 := by kernel_rfl
theorem ev4 : cutB false l3 8 = true := by kernel_rfl
theorem ev5 : firstBits l3 8 = l4 := by kernel_rfl
theorem ev6 : rightPfB false l4 8 = true := by kernel_rfl
theorem ev7 : pfS false l4 8 = ⟨#[49, 48, 46, 48, 46, 48, 46, 48, 47, 56]⟩ := by kernel_rfl
def x8 : ByteArray := ⟨#[49, 48, 46, 49, 46, 48, 46, 48, 47, 56]⟩
theorem ev8 : rdPf x8 = none := by kernel_rfl
def x9 : ByteArray := ⟨#[49, 48, 46, 48, 46, 48, 46, 49, 58, 49, 48, 48]⟩
def l9 : List Int := [0, 1, 10, 0, 0, 1, 0, 100]
theorem ev9 : rdRd x9 = some l9 := by kernel_rfl
theorem ev2r : rightB true l1 = true := rfl
theorem o1 : Oct l1 := by intro x h; simp [l1] at h; omega
theorem o3 : Oct l3 := by intro x h; simp [l3] at h; omega
theorem o4 : Oct l4 := by intro x h; simp [l4] at h; omega
theorem o9 : Oct l9 := by intro x h; simp [l9] at h; omega
theorem built9 : Tryd.prog.built 95 [(0, .int .u8 0), (1, .int .u8 1), (2, .int .u8 10), (3, .int .u8 0), (4, .int .u8 0), (5, .int .u8 1), (6, .int .u8 0), (7, .int .u8 100)] = some (u8s l9).toArray := by kernel_rfl
set_option maxHeartbeats 8000000 in
set_option maxRecDepth 100000 in
theorem alive_is (w : World) (E : Env w) : Calls Tryd.prog 25 #[] w fun e w' => e = .returned (.bool true) ∧ Below w.heap.size w w' := by
  have H1 : Hid (Calls Tryd.prog 13 #[.string ⟨#[50, 48, 48, 49, 58, 48, 68, 66, 56, 58, 58, 48, 58, 49]⟩] w fun e w' => e = .returned (.tuple #[.agg (ipc true l1).toArray, .int .i64 0]) ∧ Below w.heap.size w w') := Lib.hid ((pip_is w E x1 (by decide)).mono fun e w' h => by
    have := h.1; rw [ev1] at this; exact ⟨this, h.2⟩)
  go_enter Tryd.func25, Tryd.ntmps25
  go_wp2_with fail
  refine H1.out.mono ?_
  rintro e w1 ⟨rfl, hB1⟩
  clear H1
  have E1 := Lib.hid (E.below hB1)
  have HB1 : Hid (Below w.heap.size w ((w1.alloc (.cells zip16 24)).setRow w1.heap.size (ipc true l1).toArray)) := Lib.hid ((hB1.alloc hB1.size _).trans (below_setRow _ _ _ hB1.size))
  have E2 := Lib.hid (E.below HB1.out)
  have hz1 := hB1.size
  have HA := Lib.hid (Blk.setRow (Blk.new w1 24 zip16) (ipc true l1).toArray)
  clear hB1 E1
  go_wp2_with (first
    | (refine ip_store rfl _ _ rfl w1.heap.size true l1 rfl rfl rfl 24 zip16 (Blk.new w1 24 zip16) rfl ?_)
    | (refine ip_fetch rfl _ rfl w1.heap.size 0 true l1 rfl rfl HA.out.range ?_))
  refine (iptext_is _ E2.out true l1 rfl o1).mono ?_
  rintro e w2 ⟨hB2, he⟩
  rw [ev2r, if_pos rfl, ev2] at he
  subst he
  have HB2 : Hid (Below w.heap.size w w2) := Lib.hid (HB1.out.trans (hB2.mono (by rw [size_sra]; omega)))
  clear hB2 HB1 HA E2
  go_wp2_with fail
  refine (four_is w2 167838211 (by decide) (by decide)).mono ?_
  rintro e w3 ⟨rfl, hB3⟩
  rw [ev3]
  have HB3 : Hid (Below w.heap.size w w3) := Lib.hid (HB2.out.trans (hB3.mono HB2.out.size))
  clear hB3 HB2
  go_wp2_with fail
  refine (cut_is w3 false l3 8 rfl o3).mono ?_
  rintro e w4 ⟨hB4, he⟩
  rw [ev4, if_pos rfl, ev5] at he
  subst he
  have hB4 := HB3.out.trans (hB4.mono HB3.out.size)
  have HB4 : Hid (Below w.heap.size w ((w4.alloc (.cells noPf.toArray 40)).setRow w4.heap.size (pfc false l4 8).toArray)) := Lib.hid ((hB4.alloc hB4.size _).trans (below_setRow _ _ _ hB4.size))
  have E4 := Lib.hid (E.below HB4.out)
  have hz4 := hB4.size
  have HA := Lib.hid (Blk.setRow (Blk.new w4 40 noPf.toArray) (pfc false l4 8).toArray)
  clear hB4 HB3
  go_wp2_with (first
    | (refine pf_store rfl _ _ rfl w4.heap.size false l4 8 rfl rfl rfl 40 noPf.toArray (Blk.new w4 40 noPf.toArray) rfl ?_)
    | (refine pf_fetch rfl _ rfl w4.heap.size false l4 8 rfl rfl HA.out.range ?_))
  refine (pftext_is _ E4.out false l4 8 rfl o4 (by decide)).mono ?_
  rintro e w5 ⟨hB5, he⟩
  rw [ev6, if_pos rfl, ev7] at he
  subst he
  have HB5 : Hid (Below w.heap.size w w5) := Lib.hid (HB4.out.trans (hB5.mono (by rw [size_sra]; omega)))
  have E5 := Lib.hid (E.below HB5.out)
  clear hB5 HB4 HA E4
  have H6 : Hid (Calls Tryd.prog 30 #[.string ⟨#[49, 48, 46, 49, 46, 48, 46, 48, 47, 56]⟩] w5 fun e w' => e = .returned (.tuple #[.agg noPf.toArray, .int .i64 4]) ∧ Below w5.heap.size w5 w') := Lib.hid ((ppf_is w5 E5.out x8 (by decide)).mono fun e w' h => by
    have := h.1; rw [ev8] at this; exact ⟨this, h.2⟩)
  go_wp2_with fail
  refine H6.out.mono ?_
  rintro e w6 ⟨rfl, hB6⟩
  clear H6 E5
  have hB6 := HB5.out.trans (hB6.mono HB5.out.size)
  have HB6 : Hid (Below w.heap.size w ((w6.alloc (.cells noPf.toArray 40)).setRow w6.heap.size noPf.toArray)) := Lib.hid ((hB6.alloc hB6.size _).trans (below_setRow _ _ _ hB6.size))
  have E6 := Lib.hid (E.below HB6.out)
  have hz6 := hB6.size
  clear hB6 HB5
  have H7 : Hid (Calls Tryd.prog 78 #[.string ⟨#[49, 48, 46, 48, 46, 48, 46, 49, 58, 49, 48, 48]⟩] ((w6.alloc (.cells noPf.toArray 40)).setRow w6.heap.size noPf.toArray) fun e w' => e = .returned (.tuple #[.agg (u8s l9).toArray, .int .i64 0]) ∧ Below w.heap.size w w') := Lib.hid ((prd_is _ E6.out x9 (by decide)).mono fun e w' h => by
    have := h.1; rw [ev9] at this; exact ⟨this, HB6.out.trans (h.2.mono (by rw [size_sra]; omega))⟩)
  go_wp2_with (refine pf_store rfl _ _ rfl w6.heap.size false (List.replicate 16 0) 0 rfl rfl rfl 40 noPf.toArray (Blk.new w6 40 noPf.toArray) rfl ?_)
  refine H7.out.mono ?_
  rintro e w7 ⟨rfl, hB7⟩
  clear H7 E6 HB6
  have HB7 : Hid (Below w.heap.size w ((w7.alloc (.cells zr8 95)).setRow w7.heap.size (u8s l9).toArray)) := Lib.hid ((hB7.alloc hB7.size _).trans (below_setRow _ _ _ hB7.size))
  have HA := Lib.hid (Blk.setRow (Blk.new w7 95 zr8) (u8s l9).toArray)
  have HQ : ∀ w, (binOp .eql 95 (.agg (u8s l9).toArray) (.agg #[.int .u8 0, .int .u8 1, .int .u8 10, .int .u8 0, .int .u8 0, .int .u8 1, .int .u8 0, .int .u8 100])).run Tryd.prog w = .ok (.bool true) w := fun w => run_eql_u8s (P := Tryd.prog) (t := 95) (e := 5) (n := 8) (by kernel_rfl) Tryd.underlying95 Tryd.underlying5 (by kernel_rfl) (by kernel_rfl) l9 l9 rfl rfl o9 o9 true (by decide) w
  go_wp2_with (first
    | (refine rd_store rfl _ _ rfl w7.heap.size l9 rfl rfl rfl 95 zr8 (Blk.new w7 95 zr8) rfl ?_)
    | (refine rd_fetch rfl _ rfl w7.heap.size l9 rfl rfl HA.out.range ?_))
  go_ret
  exact ⟨rfl, HB7.out⟩
end Go.Proofs.YtkaimdcepnhkdaaDoor
