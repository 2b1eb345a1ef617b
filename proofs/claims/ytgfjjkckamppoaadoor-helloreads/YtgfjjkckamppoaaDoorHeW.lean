/-
  Layer 8: what stands while a notification's law runs: the lent bytes, the bytes given, the family; a slice's length and capacity.
-/
import Derived.Test.YtgfjjkckamppoaaDoorHeV
import Derived.Test.YtgfjjkckamppoaaDoorHeX
import Derived.Test.YtgfjjkckamppoaaDoorOctH
namespace Go.Proofs.YtgfjjkckamppoaaDoor
open Go.RowKit Go.ChangeShapes Go.WideShapes Go.ChangeAt Go.Deep Go.Joins
set_option maxRecDepth 100000
set_option linter.unusedSimpArgs false
set_option linter.unusedVariables false

theorem open_cap {H : Type} {enc : TypeId × Value → H} {P : Program} {W : World} {t e : TypeId} {a : Option Addr} {len cap : Nat} {d : DataW H} {p : List MemPlace} (ht : P.underlying t = some (.slice e))
    (h : DataW.Trod enc P W 0 (fun _ => true) true t (.slice a len cap) d p) : len ≤ cap := by
  obtain ⟨fuel, hf⟩ := h
  rcases DataW.trod_slice ht hf with ⟨hcs, _⟩ | ⟨x, l, c, m, n, D, Pl, hcs, _, hl, hm, hmm⟩
  · simp [Value.cells] at hcs
    obtain ⟨rfl, rfl, rfl⟩ := hcs
    omega
  · simp [Value.cells] at hcs
    obtain ⟨rfl, rfl, rfl⟩ := hcs
    omega

/-- The lent bytes, the bytes given and the family stand. -/
def FaS (w0 : World) (g : Nat) (A1 : Option Addr) (n1 : Nat) (l1 : List Int) (w : World) : Prop :=
  Below w0.heap.size w0 w ∧ EnvF w ∧ Byt w g 5 (l1 ++ [165, 90]) ∧ w0.heap.size ≤ g ∧ Rd w w0.heap.size A1 n1 l1
theorem FaS.step {w0 w w' : World} {g n1 B : Nat} {A1 : Option Addr} {l1 : List Int} (h : FaS w0 g A1 n1 l1 w) (hB : Below B w w') (hg : g < B) : FaS w0 g A1 n1 l1 w' :=
  ⟨h.1.trans (hB.mono (by have := h.2.2.2.1; omega)), h.2.1.low hB (by omega), h.2.2.1.below hB hg, h.2.2.2.1, h.2.2.2.2.below (hB.mono (by have := h.2.2.2.1; omega))⟩
theorem FaS.lt {w0 w : World} {g n1 : Nat} {A1 : Option Addr} {l1 : List Int} (h : FaS w0 g A1 n1 l1 w) : g < w.heap.size := h.2.2.1.lt
theorem FaS.next {w0 w w' : World} {g n1 : Nat} {A1 : Option Addr} {l1 : List Int} (h : FaS w0 g A1 n1 l1 w) (hB : Below w.heap.size w w') : FaS w0 g A1 n1 l1 w' := h.step hB h.lt
theorem FaS.rd {w0 w : World} {g n1 : Nat} {A1 : Option Addr} {l1 : List Int} (h : FaS w0 g A1 n1 l1 w) : Rd w w.heap.size A1 n1 l1 := h.2.2.2.2.more (by have := h.2.2.2.1; have := h.lt; omega)
theorem FaS.own {w0 w : World} {g n1 : Nat} {A1 : Option Addr} {l1 : List Int} (h : FaS w0 g A1 n1 l1 w) : Rd w w.heap.size (some ⟨g, 0, none⟩) n1 l1 := by
  have h1 := h.2.2.1.rd (B := w.heap.size) (k := n1) (fun x hx => by
    rcases List.mem_append.1 hx with hx | hx
    · exact h.2.2.2.2.oct x hx
    · simp at hx; rcases hx with rfl | rfl <;> decide) (by have := h.2.2.2.2.len; simp; omega) h.lt
  rw [List.take_append_of_le_length (by have := h.2.2.2.2.len; omega), List.take_of_length_le (by have := h.2.2.2.2.len; omega)] at h1
  exact h1
theorem one_ft2 (W : World) (c s : Int) (A : Option Addr) (n k : Nat) : Blk ((W.alloc (.cells #[.int .i64 0, .int .i64 0, .slice none 0 0] 34)).setRow W.heap.size #[.int .i64 c, .int .i64 s, .slice A n k]) W.heap.size 34 #[.int .i64 c, .int .i64 s, .slice A n k] ∧
    Below W.heap.size W ((W.alloc (.cells #[.int .i64 0, .int .i64 0, .slice none 0 0] 34)).setRow W.heap.size #[.int .i64 c, .int .i64 s, .slice A n k]) :=
  ⟨Blk.setRow (Blk.new W 34 #[.int .i64 0, .int .i64 0, .slice none 0 0]) _, (below_one8 _ _).trans (below_setRow _ _ _ (Nat.le_refl _))⟩
end Go.Proofs.YtgfjjkckamppoaaDoor
