/-
  What the second form's bound gives: lengths of what comes in.
-/
import Derived.Test.YtoiigalaijnoeaaRows
import Derived.Test.YtoiigalaijnoeaaFrameM
namespace Go.Proofs.Ytoiigalaijnoeaa
open Go.RowKit Go.ChangeShapes Go.WideShapes Go.Deep Go.Joins

theorem bulk_pos {H : Type} (d : DataW H) : 1 ≤ Rows.uptoBulk d := by
  cases d with
  | lit l => cases l <;> simp [Rows.uptoBulk]
  | _ => simp [Rows.uptoBulk]
theorem bulk_mem {H : Type} : ∀ {l : List (DataW H)} {d : DataW H}, d ∈ l → Rows.uptoBulk d ≤ Rows.uptoBulkAll l
  | x :: r, d, h => by
    unfold Rows.uptoBulkAll
    rcases List.mem_cons.1 h with rfl | h
    · omega
    · have := bulk_mem h
      omega
theorem bulk_len {H : Type} : ∀ l : List (DataW H), l.length ≤ Rows.uptoBulkAll l
  | [] => by simp [Rows.uptoBulkAll]
  | x :: r => by
    have h1 := bulk_pos x
    have h2 := bulk_len r
    unfold Rows.uptoBulkAll
    rw [List.length_cons]
    omega
theorem bulk_le {H : Type} {l : List (DataW H)} (hk : Rows.uptoSmall H l = true) : ∀ d ∈ l, Rows.uptoBulk d ≤ 1048576 := fun d hd => by
  have h : Rows.uptoBulkAll l ≤ 1048576 := of_decide_eq_true hk
  have := bulk_mem hd
  omega
theorem bulk_slice {H : Type} (es sp : List (DataW H)) : es.length + sp.length ≤ Rows.uptoBulk (.slice es sp) := by
  have h1 := bulk_len es
  have h2 := bulk_len sp
  unfold Rows.uptoBulk
  omega

section
variable {H : Type} {enc : TypeId × Value → H} {P : Program} {W : World}
theorem open_bytesc {t e : TypeId} {a : Option Addr} {len cap : Nat} {d : DataW H} {p : List MemPlace} (ht : P.underlying t = some (.slice e)) (he : P.underlying e = some (.int .u8)) (hc : P.cellsOf e = 1)
    (h : DataW.Trod enc P W 0 (fun _ => true) true t (.slice a len cap) d p) (hB : Rows.uptoBulk d ≤ 1048576) : ∃ l, (Rd W W.heap.size a len l ∧ len ≤ cap) ∧ len ≤ 1048576 := by
  obtain ⟨fuel, hf⟩ := h
  obtain ⟨a', len', cap', l, e1, hr, hlc, hw⟩ := trod_bytes (v := .slice a len cap) ht he hc (by simpa [Value.cells] using hf)
  injection e1 with e1 e2 e3
  subst e1 e2 e3
  refine ⟨l, ⟨hr, hlc⟩, ?_⟩
  rcases hw with rfl | ⟨es, sp, hx, hle⟩
  · omega
  · have := bulk_slice es sp
    have hx' : d = .slice es sp := hx
    rw [hx'] at hB
    omega
end
end Go.Proofs.Ytoiigalaijnoeaa
