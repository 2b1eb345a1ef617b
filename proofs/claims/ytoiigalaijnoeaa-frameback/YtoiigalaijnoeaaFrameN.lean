/-
  Arguments opened into words: a slice of messages.
-/
import Derived.Test.YtoiigalaijnoeaaFrameM
import Derived.Test.YtoiigalaijnoeaaFrS
namespace Go.Proofs.Ytoiigalaijnoeaa
open Go.RowKit Go.ChangeShapes Go.WideShapes Go.Deep Go.Joins

section
variable {H : Type} {enc : TypeId × Value → H} {P : Program} {W : World}

theorem weight_in {e : TypeId} {x : Nat} {d : DataW H} (hx : x ∈ d.weights P e) : ∀ {l : List (DataW H)}, d ∈ l → x ∈ DataW.weightsAll P e l
  | y :: r, h => by
    unfold DataW.weightsAll
    rcases List.mem_cons.1 h with rfl | h
    · exact List.mem_append_left _ hx
    · exact List.mem_append_right _ (weight_in hx h)

theorem open_msgs {t e u : TypeId} {f0 f1 : Field} {a : Option Addr} {len cap : Nat} {d : DataW H} {p : List MemPlace} (ht : P.underlying t = some (.slice e)) (he : P.underlying e = some (.struct #[f0, f1]))
    (hC : P.cellsOf e = 2) (o : (f0.offset, f1.offset, P.cellsOf f0.type, P.cellsOf f1.type) = (0, 1, 1, 1)) (k0 : P.underlying f0.type = some (.int .i64)) (k1 : P.underlying f1.type = some (.slice u)) (ku : P.underlying u = some (.int .u8)) (hcu : P.cellsOf u = 1) (hbu : P.bytesOf u = 1) (hby : P.bytesOf e = 32)
    (h : DataW.Trod enc P W 0 (fun _ => true) true t (.slice a len cap) d p) {ts : List TypeId} {ds : List (DataW H)} (hsz : (DataW.weightsEach P ts ds).all (· ≤ reachBytes) = true) {j : Nat} (htj : ts[j]? = some t) (hdj : ds[j]? = some d) :
    ∃ ms, RdM W W.heap.size a len ms ∧ len ≤ 140737488351232 := by
  simp only [Prod.mk.injEq] at o
  obtain ⟨o0, o1, o2, o3⟩ := o
  obtain ⟨fuel, hf⟩ := h
  rcases open_slice ht hf with ⟨hcs, _⟩ | ⟨x, l, c, m, n, D, Pl, hcs, _, hl, hm, hmm, hx, hi⟩
  · simp [Value.cells] at hcs
    obtain ⟨rfl, rfl, rfl⟩ := hcs
    exact ⟨[], ⟨rfl, fun h => absurd h (by omega)⟩, by omega⟩
  · simp [Value.cells] at hcs
    obtain ⟨rfl, rfl, rfl⟩ := hcs
    simp only [if_pos] at hmm
    subst hmm
    simp only [Prod.mk.injEq] at hx
    rw [hx.1] at hdj
    have hb := sized_slice hsz htj hdj ht
    rw [hby] at hb
    simp only [List.length_map, List.length_range, reachBytes] at hb
    have each : ∀ i, i < len → ∃ (k : Int) (A1 : Option Addr) (n1 c1 : Nat) (b1 : List Int), W.cell? ((x.add (i * 2)).add 0) = some (.int .i64 k) ∧ W.cell? ((x.add (i * 2)).add 1) = some (.slice A1 n1 c1) ∧ Rd W W.heap.size A1 n1 b1 ∧ n1 ≤ 140737488351232 := by
      intro i him
      obtain ⟨cs', hc, ht'⟩ := hi i (by omega)
      rw [hC] at hc
      obtain ⟨y0, y1, n', hy, hcl, h0, h1⟩ := trod_struct2 he ht'
      obtain ⟨_, hl2, hat⟩ := World.cells?_some hc
      rw [o0, o2] at h0
      rw [o1, o3] at h1
      obtain ⟨q0, e0, _, w0⟩ := DataW.trod_int k0 h0
      match cs', hl2 with
      | [v0, v1], _ =>
        have h1' : DataW.trod enc P W 0 (fun _ => true) true n' f1.type [v1] = some y1 := h1
        obtain ⟨A1, n1, c1, b1, rfl, hr, _, hw⟩ := trod_bytes k1 ku hcu h1'
        refine ⟨q0, A1, n1, c1, b1, ?_, ?_, hr, ?_⟩
        · rw [hat 0 (by omega)]
          have := congrArg (fun l : List Value => l[0]?) e0
          simpa using this
        · rw [hat 1 (by omega)]
          rfl
        · rcases hw with rfl | ⟨es, sp, hxs, hle⟩
          · omega
          · simp only [Prod.mk.injEq] at hy
            have hin : (es.length + sp.length) * P.bytesOf u ∈ (D i).weights P e := by
              rw [hy.1]
              simp [DataW.weights, DataW.weightsEach, he, k1, hxs]
            have hmem : D i ∈ (List.range len).map D := List.mem_map.2 ⟨i, List.mem_range.2 him, rfl⟩
            have hbb := List.all_eq_true.1 hsz _ (DataW.weights_mem_each htj hdj ((es.length + sp.length) * P.bytesOf u) (by
              simp only [DataW.weights, ht]
              exact List.mem_cons_of_mem _ (List.mem_append_left _ (weight_in hin hmem))))
            rw [hbu] at hbb
            simp [reachBytes] at hbb
            omega
    have pick : ∃ f : Nat → Int × (Option Addr × Nat × Nat) × List Int, ∀ i, i < len → W.cell? ((x.add (i * 2)).add 0) = some (.int .i64 (f i).1) ∧ W.cell? ((x.add (i * 2)).add 1) = some (.slice (f i).2.1.1 (f i).2.1.2.1 (f i).2.1.2.2) ∧ Rd W W.heap.size (f i).2.1.1 (f i).2.1.2.1 (f i).2.2 ∧ (f i).2.1.2.1 ≤ 140737488351232 := by
      have each' : ∀ i, ∃ y : Int × (Option Addr × Nat × Nat) × List Int, i < len → W.cell? ((x.add (i * 2)).add 0) = some (.int .i64 y.1) ∧ W.cell? ((x.add (i * 2)).add 1) = some (.slice y.2.1.1 y.2.1.2.1 y.2.1.2.2) ∧ Rd W W.heap.size y.2.1.1 y.2.1.2.1 y.2.2 ∧ y.2.1.2.1 ≤ 140737488351232 := fun i => by
        by_cases him : i < len
        · obtain ⟨k, A1, n1, c1, b1, h1, h2, h3, h4⟩ := each i him
          exact ⟨(k, (A1, n1, c1), b1), fun _ => ⟨h1, h2, h3, h4⟩⟩
        · exact ⟨(0, (none, 0, 0), []), fun h => absurd h him⟩
      exact ⟨fun i => Classical.choose (each' i), fun i => Classical.choose_spec (each' i)⟩
    obtain ⟨f, hf⟩ := pick
    refine ⟨(List.range len).map fun i => ((f i).1, (f i).2.2), ⟨by simp, fun hn => ?_⟩, by omega⟩
    obtain ⟨b, off, spot⟩ := x
    have h0 := (hf 0 (by omega)).1
    have hspot : spot = none := by simpa [Addr.add] using World.cell?_spot h0
    subst hspot
    refine ⟨b, off, rfl, by simpa [Addr.add] using lt_of_cell h0, fun i hi => ?_⟩
    have hil : i < len := by simpa using hi
    obtain ⟨c0, c1, c2, c3⟩ := hf i hil
    rw [addr_add, addr_add] at c0 c1
    rw [Nat.add_zero] at c0
    exact ⟨(f i).2.1.1, (f i).2.1.2.1, (f i).2.1.2.2, by simpa using c0, c1, by simpa using c2, c3⟩
end
end Go.Proofs.Ytoiigalaijnoeaa
