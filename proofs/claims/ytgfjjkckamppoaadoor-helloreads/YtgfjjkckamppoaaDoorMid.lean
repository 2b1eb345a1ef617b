/-
  Ranges of cells: what a new block holds, carried along.
-/
import Derived.Test.YtgfjjkckamppoaaDoorNum
import Derived.Deep.MidRow
import Derived.Deep.RegionHeld3
import Derived.Laws.Rows
import Derived.Laws.Tables
namespace Go.Proofs.YtgfjjkckamppoaaDoor
open Go.RowKit
set_option maxRecDepth 100000

section
variable {w w' : World} {b o B : Nat} {cs : List Value}
theorem range_new (w : World) (t : TypeId) (cs : List Value) : (w.alloc (.cells cs.toArray t)).rangeAt w.heap.size 0 cs := by
  intro j v hv
  rw [World.cell?_alloc_new]
  simpa using hv
theorem range_lt (h : w.rangeAt b o cs) (hn : 0 < cs.length) : b < w.heap.size := by
  have h0 := h 0 cs[0] (by simp)
  exact World.block_lt_of_cell? w _ h0
theorem range_keep (h : w.rangeAt b o cs) (hk : ∀ p : Addr, p.block = b → w'.cell? p = w.cell? p) : w'.rangeAt b o cs := fun j v hv => by
  rw [hk _ rfl]
  exact h j v hv
theorem range_below (h : w.rangeAt b o cs) (hB : Below B w w') (hb : b < B) : w'.rangeAt b o cs := range_keep h fun p hp => hB.cell (by rw [hp]; exact hb)
theorem range_alloc (h : w.rangeAt b o cs) (ob : Obj) (hb : b < w.heap.size) : (w.alloc ob).rangeAt b o cs := range_keep h fun p hp => World.cell?_of_block (Below.heap_alloc w ob p.block (by omega))
theorem range_drewN (h : w.rangeAt b o cs) (n : Nat) : (w.drewN n).rangeAt b o cs := h
theorem range_far (h : w.rangeAt b o cs) {p : Addr} (hp : b ≠ p.block) (u : Value) : (w.setCell p u).rangeAt b o cs := range_keep h fun q hq => World.cell?_of_block (Below.heap_setCell w p u q.block (by rw [hq]; exact hp))
theorem range_grown {row : Option Nat} (h : w.rangeAt b o cs) (hg : w.grownBy w' row) (hb : b < w.heap.size) (hr : some b ≠ row) : w'.rangeAt b o cs :=
  range_keep h fun p hp => World.cell?_of_block (hg.block p.block (by omega) (by rw [hp]; exact hr))
/-- The first ones of them. -/
theorem range_pre {ds : List Value} (h : w.rangeAt b o (cs ++ ds)) : w.rangeAt b o cs := fun j v hv => h j v (by rw [List.getElem?_append_left (List.getElem?_eq_some_iff.1 hv).1]; exact hv)
theorem range_post {ds : List Value} (h : w.rangeAt b o (cs ++ ds)) : w.rangeAt b (o + cs.length) ds := fun j v hv => by
  have := h (cs.length + j) v (by rw [List.getElem?_append_right (by omega), Nat.add_sub_cancel_left]; exact hv)
  rwa [← Nat.add_assoc] at this
theorem range_cell {v : Value} {j : Nat} (h : w.rangeAt b o cs) (hv : cs[j]? = some v) : w.cell? ⟨b, o + j, none⟩ = some v := h j v hv
end

theorem below_setRow (w : World) (g : Nat) (cs : Array Value) {B : Nat} (hg : B ≤ g) : Below B w (w.setRow g cs) :=
  ⟨rfl, rfl, rfl, by simp [World.setRow], fun i hi => by simp [World.setRow, Array.getElem?_modify, show g ≠ i by omega]⟩
theorem Blk.setRow {w : World} {g : Nat} {t : TypeId} {old : Array Value} (h : Blk w g t old) (cs : Array Value) : Blk (w.setRow g cs) g t cs := setRow_heap w g old cs t (0, 0) h
theorem Blk.range {w : World} {g : Nat} {t : TypeId} {cs : List Value} (h : Blk w g t cs.toArray) : w.rangeAt g 0 cs := fun j u hu => by rw [Nat.zero_add, h.cell]; simpa using hu

/-- Two results: a variable of several cells, and a slot. -/
theorem results_cell_slot {P : Program} {fn : Func} {p q : Tmp} {ty : TypeId} (h : fn.results = #[.cell p ty, .tmp q]) (tmps : Array Value) (w : World) (g : Nat) (t : TypeId) (cs : Array Value) (d : TypeDesc) (u : Value)
    (hp : tmps.getD p undef = .pointer (some ⟨g, 0, none⟩)) (hq : tmps.getD q undef = u) (hg : Blk w g t cs) (hu : P.underlying ty = some d) (hd : (match d with | .struct _ | .array _ _ => true | _ => false) = true) (hi : (P.info? ty).map (·.size) = some cs.size) :
    (results fn tmps).run P w = .ok (.tuple #[.agg cs, u]) w := by
  have hp' : tmps[p]?.getD undef = .pointer (some ⟨g, 0, none⟩) := by simpa using hp
  have hq' : tmps[q]?.getD undef = u := by simpa using hq
  simp [results, h, hp', hq', asAddr, run_loadVar_row w g t ty cs (0, 0) d hg hu hd hi]

/-- 'a[l:h]', 'a[l:]', 'a[:h]' of an array of one-cell elements behind a pointer. -/
theorem slice_arr_lh {P : Program} {t e : TypeId} {n : Nat} (hu : P.underlying t = some (.array n e)) (hi0 : (P.info? e).map (·.size) = some 1) (g o l h : Nat) (h1 : l ≤ h) (h2 : h ≤ n) (h3 : l < n) (a b : Int) (ha : a = l) (hb : b = h) (W : World) :
    (Instr.sliceAt t (.pointer (some ⟨g, o, none⟩)) (some (.int .i64 a)) (some (.int .i64 b)) none).run P W = .ok (.slice (some ⟨g, o + l, none⟩) (h - l) (n - l)) W := by
  subst ha hb
  have hal : P.arrayLen t = n := by simp [Program.arrayLen, hu]
  have hel : P.elem t = e := by simp [Program.elem, hu]
  rw [run_sliceAt_array_lh W t ⟨g, o, none⟩ (by rw [hu, hal, hel]) .i64 .i64 (l : Int) (h : Int) (by omega) (by omega) (by rw [hal]; omega), hal, hel]
  obtain ⟨i, hi, hs⟩ := Option.map_eq_some_iff.1 hi0
  simp only [sizeOf, typeInfo, Sem.run_bind]
  simp [Result.andThen, slicedAt, hi, hs, show n ≠ l by omega, Addr.add]
theorem slice_arr_l {P : Program} {t e : TypeId} {n : Nat} (hu : P.underlying t = some (.array n e)) (hi0 : (P.info? e).map (·.size) = some 1) (g o l : Nat) (h3 : l < n) (a : Int) (ha : a = l) (W : World) :
    (Instr.sliceAt t (.pointer (some ⟨g, o, none⟩)) (some (.int .i64 a)) none none).run P W = .ok (.slice (some ⟨g, o + l, none⟩) (n - l) (n - l)) W := by
  subst ha
  have hal : P.arrayLen t = n := by simp [Program.arrayLen, hu]
  have hel : P.elem t = e := by simp [Program.elem, hu]
  rw [run_sliceAt_array_l W t ⟨g, o, none⟩ (by rw [hu, hal, hel]) .i64 (l : Int) (by omega) (by rw [hal]; omega), hal, hel]
  obtain ⟨i, hi, hs⟩ := Option.map_eq_some_iff.1 hi0
  simp only [sizeOf, typeInfo, Sem.run_bind]
  simp [Result.andThen, slicedAt, hi, hs, show n ≠ l by omega, Addr.add]
theorem slice_arr_h {P : Program} {t e : TypeId} {n : Nat} (hu : P.underlying t = some (.array n e)) (hi0 : (P.info? e).map (·.size) = some 1) (g o h : Nat) (h2 : h ≤ n) (h3 : 0 < n) (b : Int) (hb : b = h) (W : World) :
    (Instr.sliceAt t (.pointer (some ⟨g, o, none⟩)) none (some (.int .i64 b)) none).run P W = .ok (.slice (some ⟨g, o, none⟩) h n) W := by
  subst hb
  have hal : P.arrayLen t = n := by simp [Program.arrayLen, hu]
  have hel : P.elem t = e := by simp [Program.elem, hu]
  rw [run_sliceAt_array_h W t ⟨g, o, none⟩ (by rw [hu, hal, hel]) .i64 (h : Int) (by omega) (by rw [hal]; omega), hal, hel]
  obtain ⟨i, hi, hs⟩ := Option.map_eq_some_iff.1 hi0
  simp only [sizeOf, typeInfo, Sem.run_bind]
  simp [Result.andThen, slicedAt, hi, hs, show n ≠ 0 by omega, Addr.add]

/-- Bytes among the cells of a range. -/
theorem rd_range {w : World} {b B : Nat} {pre post : List Value} {l : List Int} (h : w.rangeAt b 0 (pre ++ (u8s l ++ post))) (ho : Oct l) (k m : Nat) (hm : k + m ≤ l.length) (hB : b < B) :
    Rd w B (some ⟨b, pre.length + k, none⟩) m ((l.drop k).take m) := by
  refine ⟨by simp; omega, fun x hx => ho x (List.mem_of_mem_drop (List.mem_of_mem_take hx)), fun _ => ⟨_, _, rfl, hB, fun i hi => ?_⟩⟩
  have h2 : k + i < l.length := by omega
  have hv : (pre ++ (u8s l ++ post))[pre.length + (k + i)]? = some (.int .u8 (l.getD (k + i) 0)) := by
    rw [List.getElem?_append_right (by omega), Nat.add_sub_cancel_left, List.getElem?_append_left (by simp; omega)]
    simp [List.getD, h2]
  have := h _ _ hv
  rw [Nat.zero_add, ← Nat.add_assoc] at this
  rw [this]
  simp [List.getD, hi]
end Go.Proofs.YtgfjjkckamppoaaDoor
