/-
  Arguments opened into words: a message (a struct of an int and bytes) by value; bytes with their capacity.
-/
import Derived.Test.YtgfjjkckamppoaaDoorFrame
import Derived.Test.YtgfjjkckamppoaaDoorFrW
import Derived.Lib.SmallJoins
namespace Go.Proofs.YtgfjjkckamppoaaDoor
open Go.RowKit Go.ChangeShapes Go.WideShapes Go.Deep Go.Joins
set_option maxRecDepth 100000

section
variable {H : Type} {enc : TypeId × Value → H} {P : Program} {W : World}

/-- A reading of bytes: the slice, what it reads, its datum's length. -/
theorem trod_bytes {t e : TypeId} {fuel : Nat} {v : Value} {x : DataW H × List MemPlace} (ht : P.underlying t = some (.slice e)) (he : P.underlying e = some (.int .u8)) (hc : P.cellsOf e = 1)
    (h : DataW.trod enc P W 0 (fun _ => true) true fuel t [v] = some x) :
    ∃ a len cap l, v = .slice a len cap ∧ Rd W W.heap.size a len l ∧ len ≤ cap ∧ (len = 0 ∨ ∃ es sp, x.1 = .slice es sp ∧ len ≤ es.length + sp.length) := by
  rcases open_ints ht he hc h with ⟨hcs, _⟩ | ⟨x0, l, c, zs, hcs, _, hl, hm, hz, hx, hcell, hwz⟩
  · injection hcs with hcs
    subst hcs
    exact ⟨none, 0, 0, [], rfl, Rd.nil_ _, Nat.le_refl _, .inl rfl⟩
  · injection hcs with hcs
    subst hcs
    simp only [if_pos] at hz
    refine ⟨some x0, l, c, zs.take l, rfl, ⟨by simp; omega, fun y hy => ?_, fun hn => ?_⟩, hl, .inr ⟨_, _, by rw [hx], by simp [lits]; omega⟩⟩
    · have := hwz y (List.mem_of_mem_take hy)
      simp [Lit.wf, IntKind.min, IntKind.max, IntKind.signed, IntKind.bits] at this
      omega
    · obtain ⟨b, off, spot⟩ := x0
      have h0 := hcell 0 (by omega)
      have hspot : spot = none := by simpa [Addr.add] using World.cell?_spot h0
      subst hspot
      refine ⟨b, off, rfl, by simpa [Addr.add] using lt_of_cell h0, fun i hi => ?_⟩
      have := hcell i (by omega)
      rw [addr_add] at this
      rw [this]
      simp [List.getD, hi]

theorem open_msg {r : Reach} {b0 : Nat} {t e : TypeId} {f0 f1 : Field} {v : Value} {d : DataW H} {p : List MemPlace} (hs : P.underlying t = some (.struct #[f0, f1])) (hone : oneCellFields P #[f0, f1] = true) (hC : P.cellsOf t = 2)
    (k0 : P.underlying f0.type = some (.int .i64)) (k1 : P.underlying f1.type = some (.slice e)) (he : P.underlying e = some (.int .u8)) (hce : P.cellsOf e = 1) (hby : P.bytesOf e = 1) (hv : Value.okWide P W r b0 t v)
    (h : DataW.Trod enc P W 0 (fun _ => true) true t v d p) {ts : List TypeId} {ds : List (DataW H)} (hsz : (DataW.weightsEach P ts ds).all (· ≤ reachBytes) = true) {j : Nat} (htj : ts[j]? = some t) (hdj : ds[j]? = some d) :
    ∃ k a len cap l, v = .agg #[.int .i64 k, .slice a len cap] ∧ (Lit.int .i64 k).wf = true ∧ Rd W W.heap.size a len l ∧ len ≤ 140737488351232 := by
  obtain ⟨v0, v1, y0, y1, n, rfl, rfl, rfl, h0, h1⟩ := open_agg2 hs hone hC hv h
  obtain ⟨k, e0, _, wk⟩ := DataW.trod_int k0 h0
  obtain ⟨a, len, cap, l, rfl, hr, hlc, hw⟩ := trod_bytes k1 he hce h1
  have e0' : v0 = .int .i64 k := by injection e0
  subst e0'
  refine ⟨k, a, len, cap, l, rfl, wk, hr, ?_⟩
  rcases hw with rfl | ⟨es, sp, hx, hle⟩
  · omega
  · have hb := List.all_eq_true.1 hsz _ (DataW.weights_mem_each htj hdj ((es.length + sp.length) * P.bytesOf e) (by simp [DataW.weights, DataW.weightsEach, hs, k1, hx]))
    rw [hby] at hb
    simp [reachBytes] at hb
    omega

theorem open_intz {t e : TypeId} {a : Option Addr} {len cap : Nat} {d : DataW H} {p : List MemPlace} (ht : P.underlying t = some (.slice e)) (he : P.underlying e = some (.int .i64)) (hc : P.cellsOf e = 1) (hby : P.bytesOf e = 8)
    (h : DataW.Trod enc P W 0 (fun _ => true) true t (.slice a len cap) d p) {ts : List TypeId} {ds : List (DataW H)} (hsz : (DataW.weightsEach P ts ds).all (· ≤ reachBytes) = true) {j : Nat} (htj : ts[j]? = some t) (hdj : ds[j]? = some d) :
    ∃ l, RdI W W.heap.size a len l ∧ len ≤ 140737488351232 := by
  obtain ⟨fuel, hf⟩ := h
  rcases open_ints ht he hc hf with ⟨hcs, _⟩ | ⟨x, l, c, zs, hcs, _, hl, hm, hz, hx, hcell, hwz⟩
  · simp [Value.cells] at hcs
    obtain ⟨rfl, rfl, rfl⟩ := hcs
    exact ⟨[], ⟨rfl, fun h => absurd h (by omega)⟩, by omega⟩
  · simp [Value.cells] at hcs
    obtain ⟨rfl, rfl, rfl⟩ := hcs
    simp only [if_pos] at hz
    simp only [Prod.mk.injEq] at hx
    rw [hx.1] at hdj
    have hb := sized_slice hsz htj hdj ht
    rw [hby] at hb
    simp only [lits, List.length_map, List.length_take, List.length_drop, reachBytes] at hb
    refine ⟨zs.take len, ⟨by simp; omega, fun hn => ?_⟩, by omega⟩
    obtain ⟨b, off, spot⟩ := x
    have h0 := hcell 0 (by omega)
    have hspot : spot = none := by simpa [Addr.add] using World.cell?_spot h0
    subst hspot
    refine ⟨b, off, rfl, by simpa [Addr.add] using lt_of_cell h0, fun i hi => ?_⟩
    have := hcell i (by omega)
    rw [addr_add] at this
    rw [this]
    simp [List.getD, hi]
end
end Go.Proofs.YtgfjjkckamppoaaDoor
