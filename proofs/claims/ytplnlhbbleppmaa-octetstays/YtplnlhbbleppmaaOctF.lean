/-
  Layer 1 (octet): what the document fixes by number.
-/
import Derived.Test.YtplnlhbbleppmaaOctE
namespace Go.Proofs.Ytplnlhbbleppmaa
open Go.RowKit

theorem be_258 : be 2 258 = [1, 2] := by decide
theorem num_a1 : numVal [1, 2, 3] 0 0 2 = 258 := by decide
theorem num_a2 : numAt [1, 2, 3] 0 0 2 = 2 := by decide
theorem num_a3 : numErr [1, 2, 3] 0 0 2 = 0 := by decide
theorem num_b1 : numVal [1, 2, 3] 2 0 2 = 0 := by decide
theorem num_b2 : numAt [1, 2, 3] 2 0 2 = 2 := by decide
theorem num_b3 : numErr [1, 2, 3] 2 0 2 = 3 := by decide

set_option maxRecDepth 100000 in
set_option maxHeartbeats 1000000 in
theorem alive_is (w : World) : Calls Try.prog 14 #[] w fun e w' => e = .returned (.bool true) ∧ Below w.heap.size w w' := by
  go_enter Try.func14, Try.ntmps14
  go_wp2_with fail
  refine (put_fits w none 0 0 [] 258 2 (Rd.nil_ _) (by decide) (by decide) (by decide) (by decide) (by decide) (by decide)).mono ?_
  rintro e w1 ⟨rfl, hb1, hB1⟩
  have Hb1 := Lib.hid hb1
  have HB1 := Lib.hid hB1
  clear hb1 hB1
  go_wp2_with fail
  refine (put_no w1 none 0 0 256 1 (by decide) (by decide) (by decide)).mono ?_
  rintro e w2 ⟨rfl, rfl⟩
  go_wp2_with fail
  have hn : Byt (w1.alloc (.cells #[.int .u8 1, .int .u8 2, .int .u8 3] 5)) w1.heap.size 5 [1, 2, 3] := Blk.new w1 5 _
  have hB2 : Below w.heap.size w (w1.alloc (.cells #[.int .u8 1, .int .u8 2, .int .u8 3] 5)) := HB1.out.alloc HB1.out.size _
  have hb2 : Byt (w1.alloc (.cells #[.int .u8 1, .int .u8 2, .int .u8 3] 5)) w.heap.size 5 [1, 2] := Hb1.out.alloc _
  have hrd := hn.rd_all (B := (w1.alloc (.cells #[.int .u8 1, .int .u8 2, .int .u8 3] 5)).heap.size) (by unfold Oct; decide) hn.lt
  have Hrd := Lib.hid hrd
  have HB2 := Lib.hid hB2
  have Hb2 := Lib.hid hb2
  clear hn hB2 hb2 hrd Hb1 HB1
  refine (new_is _ _ 3 3 [1, 2, 3] Hrd.out (by decide)).mono ?_
  generalize (w1.alloc (.cells #[.int .u8 1, .int .u8 2, .int .u8 3] 5)) = w2 at *
  rintro e w3 ⟨g, rfl, hg, hcur, hB3⟩
  have c0 : w3.cell? ⟨w.heap.size, 0, none⟩ = some (.int .u8 1) := (Hb2.out.below hB3 Hb2.out.lt).cell (i := 0) (by decide)
  have c1 : w3.cell? ⟨w.heap.size, 1, none⟩ = some (.int .u8 2) := (Hb2.out.below hB3 Hb2.out.lt).cell (i := 1) (by decide)
  have HB3 := Lib.hid (HB2.out.trans (hB3.mono HB2.out.size))
  have Hg := Lib.hid (Nat.le_trans HB2.out.size hg)
  have Hcur := Lib.hid hcur
  clear hg hcur hB3 HB2 Hb2 Hrd
  go_wp2_with fail
  refine (num_is w3 g [1, 2, 3] 0 0 2 Hcur.out).mono ?_
  rintro e w4 ⟨rfl, hcur, hon⟩
  rw [num_a2, num_a3] at hcur
  have Hcur2 := Lib.hid hcur
  have HB4 := Lib.hid (below_only HB3.out hon HB3.out.size (fun k hk => by cases hk; exact Hg.out))
  clear hcur hon Hcur HB3 c0 c1
  rw [num_a1]
  go_wp2_with fail
  refine (at_is w4 g [1, 2, 3] 2 0 Hcur2.out).mono ?_
  rintro e w5 ⟨rfl, rfl⟩
  go_wp2_with fail
  refine (leftC_is w4 g [1, 2, 3] 2 0 Hcur2.out).mono ?_
  rintro e w5 ⟨rfl, k, rfl⟩
  go_wp2_with fail
  refine (num_is (w4.drewN k) g [1, 2, 3] 2 0 2 (Hcur2.out.drewN k)).mono ?_
  rintro e w6 ⟨rfl, hcur, hon⟩
  rw [num_b2, num_b3] at hcur
  have Hcur3 := Lib.hid hcur
  have HB5 := Lib.hid (below_only (below_drewN HB4.out k) hon HB4.out.size (fun k hk => by cases hk; exact Hg.out))
  clear hcur hon Hcur2 HB4
  rw [num_b1]
  go_wp2_with fail
  refine (err_is w6 g [1, 2, 3] 2 3 Hcur3.out).mono ?_
  rintro e w7 ⟨rfl, rfl⟩
  go_wp2
  go_ret
  exact ⟨rfl, HB5.out⟩
end Go.Proofs.Ytplnlhbbleppmaa
