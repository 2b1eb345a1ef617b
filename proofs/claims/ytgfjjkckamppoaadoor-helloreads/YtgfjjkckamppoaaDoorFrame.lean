/-
  Arguments opened into the words of YtgfjjkckamppoaaDoorWords: bytes; slices of structs of two integers.
-/
import Derived.Test.YtgfjjkckamppoaaDoorWords
import Derived.WalkKit
import Derived.ProofKit
import Derived.OpenShut
import Derived.ChangeOld
import Derived.SizedLaws
import Derived.Deep.Slices
import Derived.Deep.Fields
import Derived.ChangeSame
namespace Go.Proofs.YtgfjjkckamppoaaDoor
open Go.RowKit Go.ChangeShapes Go.WideShapes Go.Deep
set_option maxRecDepth 100000

section
variable {H : Type} {enc : TypeId × Value → H} {P : Program} {W : World}

theorem lt_of_cell {w : World} {a : Addr} {v : Value} (h : w.cell? a = some v) : a.block < w.heap.size := by
  rcases Nat.lt_or_ge a.block w.heap.size with h1 | h1
  · exact h1
  · simp [World.cell?, Array.getElem?_eq_none h1] at h

theorem open_bytes {t e : TypeId} {a : Option Addr} {len cap : Nat} {d : DataW H} {p : List MemPlace} (ht : P.underlying t = some (.slice e)) (he : P.underlying e = some (.int .u8)) (hc : P.cellsOf e = 1) (hby : P.bytesOf e = 1)
    (h : DataW.Trod enc P W 0 (fun _ => true) true t (.slice a len cap) d p) {ts : List TypeId} {ds : List (DataW H)} (hsz : (DataW.weightsEach P ts ds).all (· ≤ reachBytes) = true) {j : Nat} (htj : ts[j]? = some t) (hdj : ds[j]? = some d) :
    ∃ l, Rd W W.heap.size a len l ∧ len ≤ 140737488351232 := by
  obtain ⟨fuel, hf⟩ := h
  rcases open_ints ht he hc hf with ⟨hcs, _⟩ | ⟨x, l, c, zs, hcs, _, hl, hm, hz, hx, hcell, hwz⟩
  · simp [Value.cells] at hcs
    obtain ⟨rfl, rfl, rfl⟩ := hcs
    exact ⟨[], Rd.nil_ _, by omega⟩
  · simp [Value.cells] at hcs
    obtain ⟨rfl, rfl, rfl⟩ := hcs
    simp only [if_pos] at hz
    simp only [Prod.mk.injEq] at hx
    rw [hx.1] at hdj
    have hb := sized_slice hsz htj hdj ht
    rw [hby] at hb
    simp only [lits, List.length_map, List.length_take, List.length_drop, reachBytes] at hb
    refine ⟨zs.take len, ⟨by simp; omega, fun y hy => ?_, fun hn => ?_⟩, by omega⟩
    · have := hwz y (List.mem_of_mem_take hy)
      simp [Lit.wf, IntKind.min, IntKind.max, IntKind.signed, IntKind.bits] at this
      omega
    · obtain ⟨b, off, spot⟩ := x
      have h0 := hcell 0 (by omega)
      have hspot : spot = none := by simpa [Addr.add] using World.cell?_spot h0
      subst hspot
      refine ⟨b, off, rfl, by simpa [Addr.add] using lt_of_cell h0, fun i hi => ?_⟩
      have e : (⟨b, off, none⟩ : Addr).add i = ⟨b, off + i, none⟩ := by unfold Addr.add; split <;> simp_all
      have := hcell i (by omega)
      rw [e] at this
      rw [this]
      simp [List.getD, hi]

theorem addr_add (b off i : Nat) : (⟨b, off, none⟩ : Addr).add i = ⟨b, off + i, none⟩ := by unfold Addr.add; split <;> simp_all

theorem open_rows2 {t e : TypeId} {f0 f1 : Field} {a : Option Addr} {len cap : Nat} {d : DataW H} {p : List MemPlace} (ht : P.underlying t = some (.slice e)) (he : P.underlying e = some (.struct #[f0, f1]))
    (hC : P.cellsOf e = 2) (k0 : P.underlying f0.type = some (.int .i64)) (k1 : P.underlying f1.type = some (.int .i64)) (o : (f0.offset, f1.offset, P.cellsOf f0.type, P.cellsOf f1.type) = (0, 1, 1, 1)) (hby : P.bytesOf e = 16)
    (h : DataW.Trod enc P W 0 (fun _ => true) true t (.slice a len cap) d p) {ts : List TypeId} {ds : List (DataW H)} (hsz : (DataW.weightsEach P ts ds).all (· ≤ reachBytes) = true) {j : Nat} (htj : ts[j]? = some t) (hdj : ds[j]? = some d) :
    ∃ xs, Rec2 W W.heap.size a len xs ∧ len * 16 ≤ 140737488351232 := by
  simp only [Prod.mk.injEq] at o
  obtain ⟨o0, o1, o2, o3⟩ := o
  obtain ⟨fuel, hf⟩ := h
  rcases open_slice ht hf with ⟨hcs, _⟩ | ⟨x, l, c, m, n, D, Pl, hcs, _, hl, hm, hmm, hx, hi⟩
  · simp [Value.cells] at hcs
    obtain ⟨rfl, rfl, rfl⟩ := hcs
    exact ⟨[], ⟨rfl, (fun x h => by cases h), fun h => absurd h (by omega)⟩, by omega⟩
  · simp [Value.cells] at hcs
    obtain ⟨rfl, rfl, rfl⟩ := hcs
    simp only [if_pos] at hmm
    subst hmm
    simp only [Prod.mk.injEq] at hx
    rw [hx.1] at hdj
    have hb := sized_slice hsz htj hdj ht
    rw [hby] at hb
    simp only [List.length_map, List.length_range, reachBytes] at hb
    have each : ∀ i, i < m → ∃ y : Int × Int, ((-9223372036854775808 ≤ y.1 ∧ y.1 < 9223372036854775808) ∧ (-9223372036854775808 ≤ y.2 ∧ y.2 < 9223372036854775808)) ∧
        W.cell? ((x.add (i * 2)).add 0) = some (.int .i64 y.1) ∧ W.cell? ((x.add (i * 2)).add 1) = some (.int .i64 y.2) := by
      intro i him
      obtain ⟨cs', hc, ht'⟩ := hi i him
      rw [hC] at hc
      obtain ⟨y0, y1, n', hy, hcl, h0, h1⟩ := trod_struct2 he ht'
      obtain ⟨_, hl2, hat⟩ := World.cells?_some hc
      rw [o0, o2] at h0
      rw [o1, o3] at h1
      obtain ⟨q0, e0, _, w0⟩ := DataW.trod_int k0 h0
      obtain ⟨q1, e1, _, w1⟩ := DataW.trod_int k1 h1
      refine ⟨(q0, q1), ⟨wf_i64 w0, wf_i64 w1⟩, ?_, ?_⟩
      · rw [hat 0 (by omega)]
        have := congrArg (fun l : List Value => l[0]?) e0
        simpa [List.getElem?_take] using this
      · rw [hat 1 (by omega)]
        have := congrArg (fun l : List Value => l[0]?) e1
        simpa [List.getElem?_take] using this
    have pick : ∃ f : Nat → Int × Int, ∀ i, i < m → ((-9223372036854775808 ≤ (f i).1 ∧ (f i).1 < 9223372036854775808) ∧ (-9223372036854775808 ≤ (f i).2 ∧ (f i).2 < 9223372036854775808)) ∧
        W.cell? ((x.add (i * 2)).add 0) = some (.int .i64 (f i).1) ∧ W.cell? ((x.add (i * 2)).add 1) = some (.int .i64 (f i).2) := by
      refine ⟨fun i => if h : i < m then Classical.choose (each i h) else (0, 0), fun i h => ?_⟩
      simp only [dif_pos h]
      exact Classical.choose_spec (each i h)
    obtain ⟨f, hf⟩ := pick
    refine ⟨(List.range len).map f, ⟨by simp, fun y hy => ?_, fun hn => ?_⟩, by omega⟩
    · obtain ⟨i, hi, rfl⟩ := List.mem_map.1 hy
      exact (hf i (by have := List.mem_range.1 hi; omega)).1
    · obtain ⟨b, off, spot⟩ := x
      have h0 := (hf 0 (by omega)).2.1
      have hspot : spot = none := by simpa [Addr.add] using World.cell?_spot h0
      subst hspot
      refine ⟨b, off, rfl, by simpa [Addr.add] using lt_of_cell h0, fun i hi => ?_⟩
      have hil : i < len := by simpa using hi
      have hc := (hf i (by omega)).2
      rw [addr_add, addr_add, addr_add, Nat.add_zero] at hc
      simpa using hc
end
end Go.Proofs.YtgfjjkckamppoaaDoor
