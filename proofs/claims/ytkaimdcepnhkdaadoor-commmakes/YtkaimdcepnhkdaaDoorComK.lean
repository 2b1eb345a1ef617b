/-
  Layer 4 (comm): alive.
-/
import Derived.Test.YtkaimdcepnhkdaaDoorComJ
namespace Go.Proofs.YtkaimdcepnhkdaaDoor
open Go.RowKit
set_option linter.unusedSimpArgs false
set_option linter.unusedVariables false

def t1 : List Int := [0, 2, 253, 232, 0, 0, 0, 100]
def t2 : List Int := [2, 2, 0, 1, 17, 112, 0, 7]
def t3 : List Int := [6, 0, 1, 0, 0, 0, 0, 5]
theorem al1 : mtO 65000 100 = some t1 := by kernel_rfl
theorem al2 : mtO 70000 7 = some t2 := by kernel_rfl
theorem al3 : mtO 70000 70000 = none := by kernel_rfl
theorem al4 : mob true 5 = t3 := by kernel_rfl
theorem ax1 : txt t1 = ⟨#[114, 116, 32, 54, 53, 48, 48, 48, 58, 49, 48, 48]⟩ := by kernel_rfl
theorem ax2 : txt t2 = ⟨#[114, 116, 32, 55, 48, 48, 48, 48, 76, 58, 55]⟩ := by kernel_rfl
theorem ax3 : txt t3 = ⟨#[109, 111, 98, 105, 108, 105, 116, 121, 32, 53, 32, 115, 116, 105, 99, 107, 121]⟩ := by kernel_rfl
theorem ot1 : Oct t1 := by intro x h; simp [t1] at h; omega
theorem ot2 : Oct t2 := by intro x h; simp [t2] at h; omega
theorem ot3 : Oct t3 := by intro x h; simp [t3] at h; omega
theorem mt_at (w : World) (a n : Int) (a0 : 0 ≤ a) (a1 : a < 4294967296) (n0 : 0 ≤ n) (n1 : n < 4294967296) (l : List Int) (h : mtO a n = some l) :
    Calls Tryd.prog 36 #[.int .u32 a, .int .u32 n] w fun x w' => x = .returned (.tuple #[.agg (u8s l).toArray, .int .i64 0]) ∧ Below w.heap.size w w' := by
  have := mt_is w a n a0 a1 n0 n1
  rw [h] at this
  exact this
theorem mt_no (w : World) (a n : Int) (a0 : 0 ≤ a) (a1 : a < 4294967296) (n0 : 0 ≤ n) (n1 : n < 4294967296) (h : mtO a n = none) :
    Calls Tryd.prog 36 #[.int .u32 a, .int .u32 n] w fun x w' => x = .returned (.tuple #[.agg (u8s z8).toArray, .int .i64 2]) ∧ Below w.heap.size w w' := by
  have := mt_is w a n a0 a1 n0 n1
  rw [h] at this
  exact this
/-- A new variable, filled. -/
theorem new_comm {w0 w : World} (hB : Below w0.heap.size w0 w) (l : List Int) : Blk ((w.alloc (.cells zc8 52)).setRow w.heap.size (u8s l).toArray) w.heap.size 52 (u8s l).toArray ∧ Below w0.heap.size w0 ((w.alloc (.cells zc8 52)).setRow w.heap.size (u8s l).toArray) ∧ Below w.heap.size w ((w.alloc (.cells zc8 52)).setRow w.heap.size (u8s l).toArray) :=
  ⟨Blk.setRow (Blk.new w 52 zc8) _, (hB.alloc hB.size _).trans (below_setRow _ _ _ hB.size), ((Below.refl _ _).alloc (Nat.le_refl _) _).trans (below_setRow _ _ _ (Nat.le_refl _))⟩
set_option maxHeartbeats 4000000 in
set_option maxRecDepth 100000 in
theorem alive4_is (w : World) (E : Env w) : Calls Tryd.prog 48 #[] w fun e w' => e = .returned (.bool true) ∧ Below w.heap.size w w' := by
  go_enter Tryd.func48, Tryd.ntmps48
  go_wp2_with fail
  refine (mt_at _ 65000 100 (by decide) (by decide) (by decide) (by decide) t1 al1).mono ?_
  rintro e w1 ⟨rfl, hB⟩
  obtain ⟨b1, l1, -⟩ := new_comm hB t1
  have HN1 := Lib.hid (Blk.new w1 52 zc8)
  have HB1 := Lib.hid b1
  have HL1 := Lib.hid l1
  clear hB b1 l1
  go_wp2_with (refine comm_store rfl _ _ rfl w1.heap.size t1 rfl rfl rfl 52 zc8 HN1.out rfl ?_)
  refine (mt_at _ 70000 7 (by decide) (by decide) (by decide) (by decide) t2 al2).mono ?_
  rintro e w2 ⟨rfl, hB⟩
  have hB0 := HL1.out.trans (hB.mono HL1.out.size)
  obtain ⟨b2, l2, s2⟩ := new_comm hB0 t2
  have HN2 := Lib.hid (Blk.new w2 52 zc8)
  have HB12 := Lib.hid ((HB1.out.below hB HB1.out.lt).below s2 (Nat.lt_of_lt_of_le HB1.out.lt hB.size))
  have HB2 := Lib.hid b2
  have HL2 := Lib.hid l2
  clear hB hB0 b2 l2 s2 HN1 HB1 HL1
  go_wp2_with (refine comm_store rfl _ _ rfl w2.heap.size t2 rfl rfl rfl 52 zc8 HN2.out rfl ?_)
  refine (mt_no _ 70000 70000 (by decide) (by decide) (by decide) (by decide) al3).mono ?_
  rintro e w3 ⟨rfl, hB⟩
  have hB0 := HL2.out.trans (hB.mono HL2.out.size)
  obtain ⟨b3, l3, s3⟩ := new_comm hB0 z8
  have HN3 := Lib.hid (Blk.new w3 52 zc8)
  have HB13 := Lib.hid ((HB12.out.below hB HB12.out.lt).below s3 (Nat.lt_of_lt_of_le HB12.out.lt hB.size))
  have HB23 := Lib.hid ((HB2.out.below hB HB2.out.lt).below s3 (Nat.lt_of_lt_of_le HB2.out.lt hB.size))
  have HL3 := Lib.hid l3
  clear hB hB0 b3 l3 s3 HN2 HB12 HB2 HL2
  have E3 := Lib.hid (E.below HL3.out)
  go_wp2_with (first
    | (refine comm_store rfl _ _ rfl w3.heap.size z8 rfl rfl rfl 52 zc8 HN3.out rfl ?_)
    | (refine comm_fetch rfl _ rfl w1.heap.size 0 t1 rfl rfl HB13.out.range ?_))
  refine (tx_is _ E3.out t1 rfl ot1).mono ?_
  rintro e w4 ⟨rfl, hB⟩
  rw [ax1]
  have HB24 := Lib.hid (HB23.out.below hB HB23.out.lt)
  have HL4 := Lib.hid (HL3.out.trans (hB.mono HL3.out.size))
  have E4 := Lib.hid (E3.out.below hB)
  clear hB HN3 HB13 HB23 HL3 E3
  go_wp2_with (refine comm_fetch rfl _ rfl w2.heap.size 0 t2 rfl rfl HB24.out.range ?_)
  refine (tx_is _ E4.out t2 rfl ot2).mono ?_
  rintro e w5 ⟨rfl, hB⟩
  rw [ax2]
  have HL5 := Lib.hid (HL4.out.trans (hB.mono HL4.out.size))
  have E5 := Lib.hid (E4.out.below hB)
  clear hB HB24 HL4 E4
  go_wp2_with fail
  refine (mm_is _ true 5 (by decide) (by decide)).mono ?_
  rintro e w6 ⟨rfl, hB⟩
  rw [al4]
  have HL6 := Lib.hid (HL5.out.trans (hB.mono HL5.out.size))
  have E6 := Lib.hid (E5.out.below hB)
  clear hB HL5 E5
  go_wp2_with fail
  refine (tx_is _ E6.out t3 rfl ot3).mono ?_
  rintro e w7 ⟨rfl, hB⟩
  rw [ax3]
  have HL7 := Lib.hid (HL6.out.trans (hB.mono HL6.out.size))
  clear hB HL6 E6
  go_wp2
  go_ret
  exact ⟨rfl, HL7.out⟩
end Go.Proofs.YtkaimdcepnhkdaaDoor
