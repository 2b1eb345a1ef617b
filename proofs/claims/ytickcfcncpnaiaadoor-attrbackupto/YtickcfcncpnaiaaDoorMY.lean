/-
  Put together: FrameU AtY.
-/
import Derived.Test.YtickcfcncpnaiaaDoorRows
import Derived.Test.YtickcfcncpnaiaaDoorMX
namespace Go.Proofs.YtickcfcncpnaiaaDoor
open Go.RowKit Go.ChangeShapes Go.WideShapes Go.Deep Go.Joins
set_option maxRecDepth 100000

theorem bulk_pos {H : Type} (d : DataW H) : 1 ≤ Rows.uptoBulk d := by
  cases d with
  | lit l => cases l <;> simp [Rows.uptoBulk]
  | _ => simp [Rows.uptoBulk]
theorem bulk_mem {H : Type} : ∀ {l : List (DataW H)} {d : DataW H}, d ∈ l → Rows.uptoBulk d ≤ Rows.uptoBulkAll l
  | x :: r, d, h => by
    unfold Rows.uptoBulkAll
    rcases List.mem_cons.1 h with rfl | h
    · omega
    · have := bulk_mem h
      omega
theorem bulk_len {H : Type} : ∀ l : List (DataW H), l.length ≤ Rows.uptoBulkAll l
  | [] => by simp [Rows.uptoBulkAll]
  | x :: r => by
    have h1 := bulk_pos x
    have h2 := bulk_len r
    unfold Rows.uptoBulkAll
    rw [List.length_cons]
    omega
theorem bulk_le {H : Type} {l : List (DataW H)} (hk : Rows.uptoSmall H l = true) : ∀ d ∈ l, Rows.uptoBulk d ≤ 1048576 := fun d hd => by
  have h : Rows.uptoBulkAll l ≤ 1048576 := of_decide_eq_true hk
  have := bulk_mem hd
  omega
theorem bulk_slice {H : Type} (es sp : List (DataW H)) : es.length + sp.length ≤ Rows.uptoBulk (.slice es sp) := by
  have h1 := bulk_len es
  have h2 := bulk_len sp
  unfold Rows.uptoBulk
  omega

section
variable {H : Type} {enc : TypeId × Value → H} {P : Program} {W : World}
theorem open_bytesc {t e : TypeId} {a : Option Addr} {len cap : Nat} {d : DataW H} {p : List MemPlace} (ht : P.underlying t = some (.slice e)) (he : P.underlying e = some (.int .u8)) (hc : P.cellsOf e = 1)
    (h : DataW.Trod enc P W 0 (fun _ => true) true t (.slice a len cap) d p) (hB : Rows.uptoBulk d ≤ 1048576) : ∃ l, (Rd W W.heap.size a len l ∧ len ≤ cap) ∧ len ≤ 1048576 := by
  obtain ⟨fuel, hf⟩ := h
  obtain ⟨a', len', cap', l, e1, hr, hlc, hw⟩ := trod_bytes (v := .slice a len cap) ht he hc (by simpa [Value.cells] using hf)
  injection e1 with e1 e2 e3
  subst e1 e2 e3
  refine ⟨l, ⟨hr, hlc⟩, ?_⟩
  rcases hw with rfl | ⟨es, sp, hx, hle⟩
  · omega
  · have := bulk_slice es sp
    have hx' : d = .slice es sp := hx
    rw [hx'] at hB
    omega

theorem open_bytess {t e u : TypeId} {a : Option Addr} {len cap : Nat} {d : DataW H} {p : List MemPlace} (ht : P.underlying t = some (.slice e)) (hC : P.cellsOf e = 1) (he : P.underlying e = some (.slice u)) (ku : P.underlying u = some (.int .u8)) (hcu : P.cellsOf u = 1)
    (h : DataW.Trod enc P W 0 (fun _ => true) true t (.slice a len cap) d p) (hB : Rows.uptoBulk d ≤ 1048576) : ∃ ls, RdB W W.heap.size a len ls ∧ (len ≤ 1048576 ∧ ∀ l ∈ ls, l.length ≤ 1048576) := by
  obtain ⟨fuel, hf⟩ := h
  rcases open_slice ht hf with ⟨hcs, _⟩ | ⟨x, l, c, m, n, D, Pl, hcs, _, hl, hm, hmm, hx, hi⟩
  · simp [Value.cells] at hcs
    obtain ⟨rfl, rfl, rfl⟩ := hcs
    exact ⟨[], ⟨rfl, fun h => absurd h (by omega)⟩, by omega, fun l h => by cases h⟩
  · simp [Value.cells] at hcs
    obtain ⟨rfl, rfl, rfl⟩ := hcs
    simp only [if_pos] at hmm
    subst hmm
    simp only [Prod.mk.injEq] at hx
    rw [hx.1] at hB
    have hlb := bulk_len ((List.range len).map D)
    simp only [List.length_map, List.length_range] at hlb
    unfold Rows.uptoBulk at hB
    have hbe : ∀ i, i < len → Rows.uptoBulk (D i) ≤ 1048576 := fun i hi => by
      have h1 := bulk_mem (d := D i) (l := (List.range len).map D) (List.mem_map.2 ⟨i, List.mem_range.2 hi, rfl⟩)
      omega
    have each : ∀ i, ∃ y : (Option Addr × Nat × Nat) × List Int, i < len → W.cell? ((x.add (i * 1)).add 0) = some (.slice y.1.1 y.1.2.1 y.1.2.2) ∧ Rd W W.heap.size y.1.1 y.1.2.1 y.2 ∧ y.1.2.1 ≤ y.1.2.2 ∧ y.2.length ≤ 1048576 := fun i => by
      by_cases him : i < len
      · obtain ⟨cs', hc, ht'⟩ := hi i (by omega)
        rw [hC] at hc
        obtain ⟨_, hl2, hat⟩ := World.cells?_some hc
        match cs', hl2 with
        | [v0], _ =>
          obtain ⟨A1, n1, c1, b1, rfl, hr, hlc, hw⟩ := trod_bytes he ku hcu ht'
          refine ⟨((A1, n1, c1), b1), fun _ => ⟨?_, hr, hlc, ?_⟩⟩
          · rw [hat 0 (by omega)]
            rfl
          · have hbl := hr.len
            show b1.length ≤ _
            rcases hw with h0 | ⟨es, sp, hxs, hle⟩
            · omega
            · have h1 := hbe i him
              have h2 : D i = .slice es sp := hxs
              rw [h2] at h1
              have h3 := bulk_slice es sp
              omega
      · exact ⟨((none, 0, 0), []), fun h => absurd h him⟩
    have pick : ∃ f : Nat → (Option Addr × Nat × Nat) × List Int, ∀ i, i < len → W.cell? ((x.add (i * 1)).add 0) = some (.slice (f i).1.1 (f i).1.2.1 (f i).1.2.2) ∧ Rd W W.heap.size (f i).1.1 (f i).1.2.1 (f i).2 ∧ (f i).1.2.1 ≤ (f i).1.2.2 ∧ (f i).2.length ≤ 1048576 :=
      ⟨fun i => Classical.choose (each i), fun i => Classical.choose_spec (each i)⟩
    obtain ⟨f, hf⟩ := pick
    refine ⟨(List.range len).map fun i => (f i).2, ⟨by simp, fun hn => ?_⟩, by omega, fun l hl => ?_⟩
    · obtain ⟨b, off, spot⟩ := x
      have h0 := (hf 0 (by omega)).1
      have hspot : spot = none := by simpa [Addr.add] using World.cell?_spot h0
      subst hspot
      refine ⟨b, off, rfl, by simpa [Addr.add] using lt_of_cell h0, fun i hi => ?_⟩
      have hil : i < len := by simpa using hi
      obtain ⟨c0, c1, c2, _⟩ := hf i hil
      rw [addr_add, addr_add, Nat.add_zero, Nat.mul_one] at c0
      exact ⟨(f i).1.1, (f i).1.2.1, (f i).1.2.2, c0, by simpa using c1, c2⟩
    · obtain ⟨i, hi, rfl⟩ := List.mem_map.1 hl
      exact (hf i (List.mem_range.1 hi)).2.2.2
end
end Go.Proofs.YtickcfcncpnaiaaDoor
namespace Go.Proofs.YtickcfcncpnaiaaDoor
open Go.RowKit Go.ChangeShapes Go.WideShapes Go.ChangeAt Go.Deep Go.Joins
set_option maxRecDepth 100000
set_option linter.unusedVariables false

section
variable {H : Type} {enc : TypeId × Value → H} {P : Program} {W : World}
theorem bulk_aggE (l : List (DataW H)) : Rows.uptoBulk (.agg l) = Rows.uptoBulkAll l + 1 := by unfold Rows.uptoBulk; rfl
theorem bulk_agg {l : List (DataW H)} {d : DataW H} (hd : d ∈ l) : Rows.uptoBulk d ≤ Rows.uptoBulk (.agg l) := by
  have := bulk_mem hd
  rw [bulk_aggE]
  omega
theorem open_rawsc {t e u : TypeId} {f0 f1 f2 : Field} {a : Option Addr} {len cap : Nat} {d : DataW H} {p : List MemPlace} (ht : P.underlying t = some (.slice e)) (he : P.underlying e = some (.struct #[f0, f1, f2]))
    (hC : P.cellsOf e = 3) (o : (f0.offset, f1.offset, f2.offset, P.cellsOf f0.type, P.cellsOf f1.type, P.cellsOf f2.type) = (0, 1, 2, 1, 1, 1)) (k0 : P.underlying f0.type = some (.int .i64)) (k1 : P.underlying f1.type = some (.int .i64)) (k2 : P.underlying f2.type = some (.slice u)) (ku : P.underlying u = some (.int .u8)) (hcu : P.cellsOf u = 1)
    (h : DataW.Trod enc P W 0 (fun _ => true) true t (.slice a len cap) d p) (hB : Rows.uptoBulk d ≤ 1048576) : ∃ rs, (RdR W W.heap.size a len rs ∧ len ≤ cap) ∧ len ≤ 1048576 ∧ ∀ r ∈ rs, r.2.2.length ≤ 1048576 := by
  simp only [Prod.mk.injEq] at o
  obtain ⟨o0, o1, o2, o3, o4, o5⟩ := o
  obtain ⟨fuel, hf⟩ := h
  rcases open_slice ht hf with ⟨hcs, _⟩ | ⟨x, l, c, m, n, D, Pl, hcs, _, hl, hm, hmm, hx, hi⟩
  · simp [Value.cells] at hcs
    obtain ⟨rfl, rfl, rfl⟩ := hcs
    exact ⟨[], ⟨⟨rfl, fun h => absurd h (by omega)⟩, Nat.le_refl _⟩, by omega, fun l h => by cases h⟩
  · simp [Value.cells] at hcs
    obtain ⟨rfl, rfl, rfl⟩ := hcs
    simp only [if_pos] at hmm
    subst hmm
    simp only [Prod.mk.injEq] at hx
    rw [hx.1] at hB
    have hlb := bulk_len ((List.range len).map D)
    simp only [List.length_map, List.length_range] at hlb
    unfold Rows.uptoBulk at hB
    have hbe : ∀ i, i < len → Rows.uptoBulk (D i) ≤ 1048576 := fun i hi => by
      have h1 := bulk_mem (d := D i) (l := (List.range len).map D) (List.mem_map.2 ⟨i, List.mem_range.2 hi, rfl⟩)
      omega
    have each : ∀ i, ∃ y : Int × Int × (Option Addr × Nat × Nat) × List Int, i < len → W.cell? ((x.add (i * 3)).add 0) = some (.int .i64 y.1) ∧ W.cell? ((x.add (i * 3)).add 1) = some (.int .i64 y.2.1) ∧ W.cell? ((x.add (i * 3)).add 2) = some (.slice y.2.2.1.1 y.2.2.1.2.1 y.2.2.1.2.2) ∧ Rd W W.heap.size y.2.2.1.1 y.2.2.1.2.1 y.2.2.2 ∧ y.2.2.2.length ≤ 1048576 := fun i => by
      by_cases him : i < len
      · obtain ⟨cs', hc, ht'⟩ := hi i (by omega)
        rw [hC] at hc
        obtain ⟨y0, y1, y2, n', hy, hcl, h0, h1, h2⟩ := trod_struct3 he ht'
        obtain ⟨_, hl2, hat⟩ := World.cells?_some hc
        rw [o0, o3] at h0
        rw [o1, o4] at h1
        rw [o2, o5] at h2
        obtain ⟨q0, e0, _, w0⟩ := DataW.trod_int k0 h0
        obtain ⟨q1, e1, _, w1⟩ := DataW.trod_int k1 h1
        match cs', hl2 with
        | [v0, v1, v2], _ =>
          have h2' : DataW.trod enc P W 0 (fun _ => true) true n' f2.type [v2] = some y2 := h2
          obtain ⟨A1, n1, c1, b1, rfl, hr, _, hw⟩ := trod_bytes k2 ku hcu h2'
          refine ⟨(q0, q1, (A1, n1, c1), b1), fun _ => ⟨?_, ?_, ?_, hr, ?_⟩⟩
          · rw [hat 0 (by omega)]
            have := congrArg (fun l : List Value => l[0]?) e0
            simpa using this
          · rw [hat 1 (by omega)]
            have := congrArg (fun l : List Value => l[0]?) e1
            simpa using this
          · rw [hat 2 (by omega)]
            rfl
          · have hbl := hr.len
            show b1.length ≤ _
            rcases hw with h0 | ⟨es, sp, hxs, hle⟩
            · omega
            · have h1 := hbe i him
              simp only [Prod.mk.injEq] at hy
              rw [hy.1] at h1
              have h3 := bulk_agg (d := y2.1) (l := [y0.1, y1.1, y2.1]) (by simp)
              have h4 := bulk_slice es sp
              rw [hxs] at h3 h1
              omega
      · exact ⟨(0, 0, (none, 0, 0), []), fun h => absurd h him⟩
    have pick : ∃ f : Nat → Int × Int × (Option Addr × Nat × Nat) × List Int, ∀ i, i < len → W.cell? ((x.add (i * 3)).add 0) = some (.int .i64 (f i).1) ∧ W.cell? ((x.add (i * 3)).add 1) = some (.int .i64 (f i).2.1) ∧ W.cell? ((x.add (i * 3)).add 2) = some (.slice (f i).2.2.1.1 (f i).2.2.1.2.1 (f i).2.2.1.2.2) ∧ Rd W W.heap.size (f i).2.2.1.1 (f i).2.2.1.2.1 (f i).2.2.2 ∧ (f i).2.2.2.length ≤ 1048576 :=
      ⟨fun i => Classical.choose (each i), fun i => Classical.choose_spec (each i)⟩
    obtain ⟨f, hf⟩ := pick
    refine ⟨(List.range len).map fun i => ((f i).1, (f i).2.1, (f i).2.2.2), ⟨⟨by simp, fun hn => ?_⟩, hl⟩, by omega, fun r hr => ?_⟩
    · obtain ⟨b, off, spot⟩ := x
      have h0 := (hf 0 (by omega)).1
      have hspot : spot = none := by simpa [Addr.add] using World.cell?_spot h0
      subst hspot
      refine ⟨b, off, rfl, by simpa [Addr.add] using lt_of_cell h0, fun i hi => ?_⟩
      have hil : i < len := by simpa using hi
      obtain ⟨c0, c1, c2, c3, _⟩ := hf i hil
      rw [addr_add, addr_add] at c0 c1 c2
      rw [Nat.add_zero] at c0
      exact ⟨(f i).2.2.1.1, (f i).2.2.1.2.1, (f i).2.2.1.2.2, by simpa using c0, by simpa using c1, by simpa using c2, by simpa using c3⟩
    · obtain ⟨i, hi, rfl⟩ := List.mem_map.1 hr
      exact (hf i (List.mem_range.1 hi)).2.2.2.2
end
end Go.Proofs.YtickcfcncpnaiaaDoor
