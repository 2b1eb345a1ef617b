/-
  Layer 8: words for HelloMutual.
-/
import Derived.Test.YtgfjjkckamppoaaDoorHeM
namespace Go.Proofs.YtgfjjkckamppoaaDoor
open Go.RowKit
set_option maxRecDepth 100000
set_option linter.unusedSimpArgs false
set_option linter.unusedVariables false

/-- The memory of HelloMutual: both hellos' boxes. -/
structure MuS (w W : World) (a b : Hl) : Prop where
  low : Below w.heap.size w W
  ba : HlAt W w.heap.size a
  bb : HlAt W (w.heap.size + 1) b
  env : EnvF W
theorem MuS.below {w W W' : World} {a b : Hl} (k : MuS w W a b) (hB : Below W.heap.size W W') : MuS w W' a b := ⟨k.low.trans (hB.mono k.low.size), k.ba.below hB k.ba.lt, k.bb.below hB k.bb.lt, k.env.below hB⟩
theorem mu_new (w : World) (E : EnvF w) (a b : Hl) : MuS w ((w.alloc (.cells (hlc a).toArray 24)).alloc (.cells (hlc b).toArray 24)) a b := by
  have hB := (below_one8 w (.cells (hlc a).toArray 24)).trans ((below_one8 (w.alloc (.cells (hlc a).toArray 24)) (.cells (hlc b).toArray 24)).mono (below_one8 _ _).size)
  have h2 := Blk.new (w.alloc (.cells (hlc a).toArray 24)) 24 (hlc b).toArray
  rw [show (w.alloc (.cells (hlc a).toArray 24)).heap.size = w.heap.size + 1 by simp] at h2
  exact ⟨hB, (Blk.new w 24 (hlc a).toArray).alloc _, h2, E.below hB⟩
theorem MuS.c {w W : World} {a b : Hl} (k : MuS w W a b) : W.cell? ⟨w.heap.size, 0, none⟩ = some (.int .u32 a.as_) ∧ W.cell? ⟨w.heap.size, 1, none⟩ = some (.int .i64 a.hold) ∧ W.cell? ⟨w.heap.size, 2, none⟩ = some (.int .u32 a.id_) ∧ W.cell? ⟨w.heap.size, 3, none⟩ = some (.bool a.ev) ∧
    W.cell? ⟨w.heap.size + 1, 0, none⟩ = some (.int .u32 b.as_) ∧ W.cell? ⟨w.heap.size + 1, 1, none⟩ = some (.int .i64 b.hold) ∧ W.cell? ⟨w.heap.size + 1, 2, none⟩ = some (.int .u32 b.id_) ∧ W.cell? ⟨w.heap.size + 1, 3, none⟩ = some (.bool b.ev) :=
  ⟨k.ba.cell 0, k.ba.cell 1, k.ba.cell 2, k.ba.cell 3, k.bb.cell 0, k.bb.cell 1, k.bb.cell 2, k.bb.cell 3⟩
theorem right_hold {h : Hl} (hr : rightH h = true) : h.hold = 0 ∨ (3 ≤ h.hold ∧ h.hold ≤ 65535) := by
  unfold rightH at hr
  have := of_decide_eq_true hr
  exact this.2.2.2
end Go.Proofs.YtgfjjkckamppoaaDoor
