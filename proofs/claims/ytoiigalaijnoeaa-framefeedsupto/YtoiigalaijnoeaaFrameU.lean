/-
  What the second form's bound gives: lengths of what comes in.
-/
import Derived.Test.YtoiigalaijnoeaaRows
import Derived.Test.YtoiigalaijnoeaaFrameM
namespace Go.Proofs.Ytoiigalaijnoeaa
open Go.RowKit Go.ChangeShapes Go.WideShapes Go.Deep Go.Joins

theorem bulk_pos {H : Type} (d : DataW H) : 1 ≤ Rows.uptoBulk d := by
  cases d with
  | lit l => cases l <;> simp [Rows.uptoBulk]
  | _ => simp [Rows.uptoBulk]
theorem bulk_mem {H : Type} : ∀ {l : List (DataW H)} {d : DataW H}, d ∈ l → Rows.uptoBulk d ≤ Rows.uptoBulkAll l
  | x :: r, d, h => by
    unfold Rows.uptoBulkAll
    rcases List.mem_cons.1 h with rfl | h
    · omega
    · have := bulk_mem h
      omega
theorem bulk_len {H : Type} : ∀ l : List (DataW H), l.length ≤ Rows.uptoBulkAll l
  | [] => by simp [Rows.uptoBulkAll]
  | x :: r => by
    have h1 := bulk_pos x
    have h2 := bulk_len r
    unfold Rows.uptoBulkAll
    rw [List.length_cons]
    omega
theorem bulk_le {H : Type} {l : List (DataW H)} (hk : Rows.uptoSmall H l = true) : ∀ d ∈ l, Rows.uptoBulk d ≤ 1048576 := fun d hd => by
  have h : Rows.uptoBulkAll l ≤ 1048576 := of_decide_eq_true hk
  have := bulk_mem hd
  omega
theorem bulk_slice {H : Type} (es sp : List (DataW H)) : es.length + sp.length ≤ Rows.uptoBulk (.slice es sp) := by
  have h1 := bulk_len es
  have h2 := bulk_len sp
  unfold Rows.uptoBulk
  omega

section
variable {H : Type} {enc : TypeId × Value → H} {P : Program} {W : World}
theorem open_bytesc {t e : TypeId} {a : Option Addr} {len cap : Nat} {d : DataW H} {p : List MemPlace} (ht : P.underlying t = some (.slice e)) (he : P.underlying e = some (.int .u8)) (hc : P.cellsOf e = 1)
    (h : DataW.Trod enc P W 0 (fun _ => true) true t (.slice a len cap) d p) (hB : Rows.uptoBulk d ≤ 1048576) : ∃ l, (Rd W W.heap.size a len l ∧ len ≤ cap) ∧ len ≤ 1048576 := by
  obtain ⟨fuel, hf⟩ := h
  obtain ⟨a', len', cap', l, e1, hr, hlc, hw⟩ := trod_bytes (v := .slice a len cap) ht he hc (by simpa [Value.cells] using hf)
  injection e1 with e1 e2 e3
  subst e1 e2 e3
  refine ⟨l, ⟨hr, hlc⟩, ?_⟩
  rcases hw with rfl | ⟨es, sp, hx, hle⟩
  · omega
  · have := bulk_slice es sp
    have hx' : d = .slice es sp := hx
    rw [hx'] at hB
    omega

theorem open_bytess {t e u : TypeId} {a : Option Addr} {len cap : Nat} {d : DataW H} {p : List MemPlace} (ht : P.underlying t = some (.slice e)) (hC : P.cellsOf e = 1) (he : P.underlying e = some (.slice u)) (ku : P.underlying u = some (.int .u8)) (hcu : P.cellsOf u = 1)
    (h : DataW.Trod enc P W 0 (fun _ => true) true t (.slice a len cap) d p) (hB : Rows.uptoBulk d ≤ 1048576) : ∃ ls, RdB W W.heap.size a len ls ∧ (len ≤ 1048576 ∧ ∀ l ∈ ls, l.length ≤ 1048576) := by
  obtain ⟨fuel, hf⟩ := h
  rcases open_slice ht hf with ⟨hcs, _⟩ | ⟨x, l, c, m, n, D, Pl, hcs, _, hl, hm, hmm, hx, hi⟩
  · simp [Value.cells] at hcs
    obtain ⟨rfl, rfl, rfl⟩ := hcs
    exact ⟨[], ⟨rfl, fun h => absurd h (by omega)⟩, by omega, fun l h => by cases h⟩
  · simp [Value.cells] at hcs
    obtain ⟨rfl, rfl, rfl⟩ := hcs
    simp only [if_pos] at hmm
    subst hmm
    simp only [Prod.mk.injEq] at hx
    rw [hx.1] at hB
    have hlb := bulk_len ((List.range len).map D)
    simp only [List.length_map, List.length_range] at hlb
    unfold Rows.uptoBulk at hB
    have hbe : ∀ i, i < len → Rows.uptoBulk (D i) ≤ 1048576 := fun i hi => by
      have h1 := bulk_mem (d := D i) (l := (List.range len).map D) (List.mem_map.2 ⟨i, List.mem_range.2 hi, rfl⟩)
      omega
    have each : ∀ i, ∃ y : (Option Addr × Nat × Nat) × List Int, i < len → W.cell? ((x.add (i * 1)).add 0) = some (.slice y.1.1 y.1.2.1 y.1.2.2) ∧ Rd W W.heap.size y.1.1 y.1.2.1 y.2 ∧ y.1.2.1 ≤ y.1.2.2 ∧ y.2.length ≤ 1048576 := fun i => by
      by_cases him : i < len
      · obtain ⟨cs', hc, ht'⟩ := hi i (by omega)
        rw [hC] at hc
        obtain ⟨_, hl2, hat⟩ := World.cells?_some hc
        match cs', hl2 with
        | [v0], _ =>
          obtain ⟨A1, n1, c1, b1, rfl, hr, hlc, hw⟩ := trod_bytes he ku hcu ht'
          refine ⟨((A1, n1, c1), b1), fun _ => ⟨?_, hr, hlc, ?_⟩⟩
          · rw [hat 0 (by omega)]
            rfl
          · have hbl := hr.len
            show b1.length ≤ _
            rcases hw with h0 | ⟨es, sp, hxs, hle⟩
            · omega
            · have h1 := hbe i him
              have h2 : D i = .slice es sp := hxs
              rw [h2] at h1
              have h3 := bulk_slice es sp
              omega
      · exact ⟨((none, 0, 0), []), fun h => absurd h him⟩
    have pick : ∃ f : Nat → (Option Addr × Nat × Nat) × List Int, ∀ i, i < len → W.cell? ((x.add (i * 1)).add 0) = some (.slice (f i).1.1 (f i).1.2.1 (f i).1.2.2) ∧ Rd W W.heap.size (f i).1.1 (f i).1.2.1 (f i).2 ∧ (f i).1.2.1 ≤ (f i).1.2.2 ∧ (f i).2.length ≤ 1048576 :=
      ⟨fun i => Classical.choose (each i), fun i => Classical.choose_spec (each i)⟩
    obtain ⟨f, hf⟩ := pick
    refine ⟨(List.range len).map fun i => (f i).2, ⟨by simp, fun hn => ?_⟩, by omega, fun l hl => ?_⟩
    · obtain ⟨b, off, spot⟩ := x
      have h0 := (hf 0 (by omega)).1
      have hspot : spot = none := by simpa [Addr.add] using World.cell?_spot h0
      subst hspot
      refine ⟨b, off, rfl, by simpa [Addr.add] using lt_of_cell h0, fun i hi => ?_⟩
      have hil : i < len := by simpa using hi
      obtain ⟨c0, c1, c2, _⟩ := hf i hil
      rw [addr_add, addr_add, Nat.add_zero, Nat.mul_one] at c0
      exact ⟨(f i).1.1, (f i).1.2.1, (f i).1.2.2, c0, by simpa using c1, c2⟩
    · obtain ⟨i, hi, rfl⟩ := List.mem_map.1 hl
      exact (hf i (List.mem_range.1 hi)).2.2.2
end
end Go.Proofs.Ytoiigalaijnoeaa
