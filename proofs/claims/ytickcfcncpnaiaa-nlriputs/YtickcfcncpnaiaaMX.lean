/-
  Put together: FrW Frame FrameM NlU.
-/
import Derived.Test.YtickcfcncpnaiaaMO
import Derived.WalkKit
import Derived.ProofKit
import Derived.OpenShut
import Derived.ChangeOld
import Derived.SizedLaws
import Derived.Deep.Slices
import Derived.Deep.Fields
import Derived.ChangeSame
import Derived.Lib.SmallJoins
import Derived.Test.YtickcfcncpnaiaaMM
namespace Go.Proofs.Ytickcfcncpnaiaa
open Go.RowKit
set_option maxRecDepth 100000

/-- A slice of ints that reads as xs. -/
structure RdI (w : World) (B : Nat) (A : Option Addr) (n : Nat) (xs : List Int) : Prop where
  len : xs.length = n
  at_ : 0 < n → ∃ b off, A = some ⟨b, off, none⟩ ∧ b < B ∧ ∀ i, i < n → w.cell? ⟨b, off + i, none⟩ = some (.int .i64 (xs.getD i 0))
theorem RdI.below {w w' : World} {B n : Nat} {A : Option Addr} {xs : List Int} (h : RdI w B A n xs) (hb : Below B w w') : RdI w' B A n xs :=
  ⟨h.len, fun hn => by
    obtain ⟨b, off, e, hlt, hc⟩ := h.at_ hn
    exact ⟨b, off, e, hlt, fun i hi => (hb.cell (p := ⟨b, off + i, none⟩) hlt).trans (hc i hi)⟩⟩


/-- A slice of slices of bytes that reads as ls, each with its capacity. -/
structure RdB (w : World) (B : Nat) (A : Option Addr) (n : Nat) (ls : List (List Int)) : Prop where
  len : ls.length = n
  at_ : 0 < n → ∃ b off, A = some ⟨b, off, none⟩ ∧ b < B ∧ ∀ i (h : i < ls.length), ∃ A1 n1 c1, w.cell? ⟨b, off + i, none⟩ = some (.slice A1 n1 c1) ∧ Rd w B A1 n1 ls[i] ∧ n1 ≤ c1
theorem RdB.below {w w' : World} {B n : Nat} {A : Option Addr} {ls : List (List Int)} (h : RdB w B A n ls) (hb : Below B w w') : RdB w' B A n ls :=
  ⟨h.len, fun hn => by
    obtain ⟨b, off, e, hlt, hc⟩ := h.at_ hn
    refine ⟨b, off, e, hlt, fun i hi => ?_⟩
    obtain ⟨A1, n1, c1, h1, h2, h3⟩ := hc i hi
    exact ⟨A1, n1, c1, (hb.cell (p := ⟨b, off + i, none⟩) hlt).trans h1, h2.below hb, h3⟩⟩
end Go.Proofs.Ytickcfcncpnaiaa
namespace Go.Proofs.Ytickcfcncpnaiaa
open Go.RowKit Go.ChangeShapes Go.WideShapes Go.Deep
set_option maxRecDepth 100000

section
variable {H : Type} {enc : TypeId × Value → H} {P : Program} {W : World}

theorem lt_of_cell {w : World} {a : Addr} {v : Value} (h : w.cell? a = some v) : a.block < w.heap.size := by
  rcases Nat.lt_or_ge a.block w.heap.size with h1 | h1
  · exact h1
  · simp [World.cell?, Array.getElem?_eq_none h1] at h

theorem open_bytes {t e : TypeId} {a : Option Addr} {len cap : Nat} {d : DataW H} {p : List MemPlace} (ht : P.underlying t = some (.slice e)) (he : P.underlying e = some (.int .u8)) (hc : P.cellsOf e = 1) (hby : P.bytesOf e = 1)
    (h : DataW.Trod enc P W 0 (fun _ => true) true t (.slice a len cap) d p) {ts : List TypeId} {ds : List (DataW H)} (hsz : (DataW.weightsEach P ts ds).all (· ≤ reachBytes) = true) {j : Nat} (htj : ts[j]? = some t) (hdj : ds[j]? = some d) :
    ∃ l, Rd W W.heap.size a len l ∧ len ≤ 140737488351232 := by
  obtain ⟨fuel, hf⟩ := h
  rcases open_ints ht he hc hf with ⟨hcs, _⟩ | ⟨x, l, c, zs, hcs, _, hl, hm, hz, hx, hcell, hwz⟩
  · simp [Value.cells] at hcs
    obtain ⟨rfl, rfl, rfl⟩ := hcs
    exact ⟨[], Rd.nil_ _, by omega⟩
  · simp [Value.cells] at hcs
    obtain ⟨rfl, rfl, rfl⟩ := hcs
    simp only [if_pos] at hz
    simp only [Prod.mk.injEq] at hx
    rw [hx.1] at hdj
    have hb := sized_slice hsz htj hdj ht
    rw [hby] at hb
    simp only [lits, List.length_map, List.length_take, List.length_drop, reachBytes] at hb
    refine ⟨zs.take len, ⟨by simp; omega, fun y hy => ?_, fun hn => ?_⟩, by omega⟩
    · have := hwz y (List.mem_of_mem_take hy)
      simp [Lit.wf, IntKind.min, IntKind.max, IntKind.signed, IntKind.bits] at this
      omega
    · obtain ⟨b, off, spot⟩ := x
      have h0 := hcell 0 (by omega)
      have hspot : spot = none := by simpa [Addr.add] using World.cell?_spot h0
      subst hspot
      refine ⟨b, off, rfl, by simpa [Addr.add] using lt_of_cell h0, fun i hi => ?_⟩
      have e : (⟨b, off, none⟩ : Addr).add i = ⟨b, off + i, none⟩ := by unfold Addr.add; split <;> simp_all
      have := hcell i (by omega)
      rw [e] at this
      rw [this]
      simp [List.getD, hi]

theorem addr_add (b off i : Nat) : (⟨b, off, none⟩ : Addr).add i = ⟨b, off + i, none⟩ := by unfold Addr.add; split <;> simp_all

theorem open_rows2 {t e : TypeId} {f0 f1 : Field} {a : Option Addr} {len cap : Nat} {d : DataW H} {p : List MemPlace} (ht : P.underlying t = some (.slice e)) (he : P.underlying e = some (.struct #[f0, f1]))
    (hC : P.cellsOf e = 2) (k0 : P.underlying f0.type = some (.int .i64)) (k1 : P.underlying f1.type = some (.int .i64)) (o : (f0.offset, f1.offset, P.cellsOf f0.type, P.cellsOf f1.type) = (0, 1, 1, 1)) (hby : P.bytesOf e = 16)
    (h : DataW.Trod enc P W 0 (fun _ => true) true t (.slice a len cap) d p) {ts : List TypeId} {ds : List (DataW H)} (hsz : (DataW.weightsEach P ts ds).all (· ≤ reachBytes) = true) {j : Nat} (htj : ts[j]? = some t) (hdj : ds[j]? = some d) :
    ∃ xs, Rec2 W W.heap.size a len xs ∧ len * 16 ≤ 140737488351232 := by
  simp only [Prod.mk.injEq] at o
  obtain ⟨o0, o1, o2, o3⟩ := o
  obtain ⟨fuel, hf⟩ := h
  rcases open_slice ht hf with ⟨hcs, _⟩ | ⟨x, l, c, m, n, D, Pl, hcs, _, hl, hm, hmm, hx, hi⟩
  · simp [Value.cells] at hcs
    obtain ⟨rfl, rfl, rfl⟩ := hcs
    exact ⟨[], ⟨rfl, (fun x h => by cases h), fun h => absurd h (by omega)⟩, by omega⟩
  · simp [Value.cells] at hcs
    obtain ⟨rfl, rfl, rfl⟩ := hcs
    simp only [if_pos] at hmm
    subst hmm
    simp only [Prod.mk.injEq] at hx
    rw [hx.1] at hdj
    have hb := sized_slice hsz htj hdj ht
    rw [hby] at hb
    simp only [List.length_map, List.length_range, reachBytes] at hb
    have each : ∀ i, i < m → ∃ y : Int × Int, ((-9223372036854775808 ≤ y.1 ∧ y.1 < 9223372036854775808) ∧ (-9223372036854775808 ≤ y.2 ∧ y.2 < 9223372036854775808)) ∧
        W.cell? ((x.add (i * 2)).add 0) = some (.int .i64 y.1) ∧ W.cell? ((x.add (i * 2)).add 1) = some (.int .i64 y.2) := by
      intro i him
      obtain ⟨cs', hc, ht'⟩ := hi i him
      rw [hC] at hc
      obtain ⟨y0, y1, n', hy, hcl, h0, h1⟩ := trod_struct2 he ht'
      obtain ⟨_, hl2, hat⟩ := World.cells?_some hc
      rw [o0, o2] at h0
      rw [o1, o3] at h1
      obtain ⟨q0, e0, _, w0⟩ := DataW.trod_int k0 h0
      obtain ⟨q1, e1, _, w1⟩ := DataW.trod_int k1 h1
      refine ⟨(q0, q1), ⟨wf_i64 w0, wf_i64 w1⟩, ?_, ?_⟩
      · rw [hat 0 (by omega)]
        have := congrArg (fun l : List Value => l[0]?) e0
        simpa [List.getElem?_take] using this
      · rw [hat 1 (by omega)]
        have := congrArg (fun l : List Value => l[0]?) e1
        simpa [List.getElem?_take] using this
    have pick : ∃ f : Nat → Int × Int, ∀ i, i < m → ((-9223372036854775808 ≤ (f i).1 ∧ (f i).1 < 9223372036854775808) ∧ (-9223372036854775808 ≤ (f i).2 ∧ (f i).2 < 9223372036854775808)) ∧
        W.cell? ((x.add (i * 2)).add 0) = some (.int .i64 (f i).1) ∧ W.cell? ((x.add (i * 2)).add 1) = some (.int .i64 (f i).2) := by
      refine ⟨fun i => if h : i < m then Classical.choose (each i h) else (0, 0), fun i h => ?_⟩
      simp only [dif_pos h]
      exact Classical.choose_spec (each i h)
    obtain ⟨f, hf⟩ := pick
    refine ⟨(List.range len).map f, ⟨by simp, fun y hy => ?_, fun hn => ?_⟩, by omega⟩
    · obtain ⟨i, hi, rfl⟩ := List.mem_map.1 hy
      exact (hf i (by have := List.mem_range.1 hi; omega)).1
    · obtain ⟨b, off, spot⟩ := x
      have h0 := (hf 0 (by omega)).2.1
      have hspot : spot = none := by simpa [Addr.add] using World.cell?_spot h0
      subst hspot
      refine ⟨b, off, rfl, by simpa [Addr.add] using lt_of_cell h0, fun i hi => ?_⟩
      have hil : i < len := by simpa using hi
      have hc := (hf i (by omega)).2
      rw [addr_add, addr_add, addr_add, Nat.add_zero] at hc
      simpa using hc
end
end Go.Proofs.Ytickcfcncpnaiaa
namespace Go.Proofs.Ytickcfcncpnaiaa
open Go.RowKit Go.ChangeShapes Go.WideShapes Go.Deep Go.Joins
set_option maxRecDepth 100000

section
variable {H : Type} {enc : TypeId × Value → H} {P : Program} {W : World}

/-- A reading of bytes: the slice, what it reads, its datum's length. -/
theorem trod_bytes {t e : TypeId} {fuel : Nat} {v : Value} {x : DataW H × List MemPlace} (ht : P.underlying t = some (.slice e)) (he : P.underlying e = some (.int .u8)) (hc : P.cellsOf e = 1)
    (h : DataW.trod enc P W 0 (fun _ => true) true fuel t [v] = some x) :
    ∃ a len cap l, v = .slice a len cap ∧ Rd W W.heap.size a len l ∧ len ≤ cap ∧ (len = 0 ∨ ∃ es sp, x.1 = .slice es sp ∧ len ≤ es.length + sp.length) := by
  rcases open_ints ht he hc h with ⟨hcs, _⟩ | ⟨x0, l, c, zs, hcs, _, hl, hm, hz, hx, hcell, hwz⟩
  · injection hcs with hcs
    subst hcs
    exact ⟨none, 0, 0, [], rfl, Rd.nil_ _, Nat.le_refl _, .inl rfl⟩
  · injection hcs with hcs
    subst hcs
    simp only [if_pos] at hz
    refine ⟨some x0, l, c, zs.take l, rfl, ⟨by simp; omega, fun y hy => ?_, fun hn => ?_⟩, hl, .inr ⟨_, _, by rw [hx], by simp [lits]; omega⟩⟩
    · have := hwz y (List.mem_of_mem_take hy)
      simp [Lit.wf, IntKind.min, IntKind.max, IntKind.signed, IntKind.bits] at this
      omega
    · obtain ⟨b, off, spot⟩ := x0
      have h0 := hcell 0 (by omega)
      have hspot : spot = none := by simpa [Addr.add] using World.cell?_spot h0
      subst hspot
      refine ⟨b, off, rfl, by simpa [Addr.add] using lt_of_cell h0, fun i hi => ?_⟩
      have := hcell i (by omega)
      rw [addr_add] at this
      rw [this]
      simp [List.getD, hi]

theorem open_msg {r : Reach} {b0 : Nat} {t e : TypeId} {f0 f1 : Field} {v : Value} {d : DataW H} {p : List MemPlace} (hs : P.underlying t = some (.struct #[f0, f1])) (hone : oneCellFields P #[f0, f1] = true) (hC : P.cellsOf t = 2)
    (k0 : P.underlying f0.type = some (.int .i64)) (k1 : P.underlying f1.type = some (.slice e)) (he : P.underlying e = some (.int .u8)) (hce : P.cellsOf e = 1) (hby : P.bytesOf e = 1) (hv : Value.okWide P W r b0 t v)
    (h : DataW.Trod enc P W 0 (fun _ => true) true t v d p) {ts : List TypeId} {ds : List (DataW H)} (hsz : (DataW.weightsEach P ts ds).all (· ≤ reachBytes) = true) {j : Nat} (htj : ts[j]? = some t) (hdj : ds[j]? = some d) :
    ∃ k a len cap l, v = .agg #[.int .i64 k, .slice a len cap] ∧ (Lit.int .i64 k).wf = true ∧ Rd W W.heap.size a len l ∧ len ≤ 140737488351232 := by
  obtain ⟨v0, v1, y0, y1, n, rfl, rfl, rfl, h0, h1⟩ := open_agg2 hs hone hC hv h
  obtain ⟨k, e0, _, wk⟩ := DataW.trod_int k0 h0
  obtain ⟨a, len, cap, l, rfl, hr, hlc, hw⟩ := trod_bytes k1 he hce h1
  have e0' : v0 = .int .i64 k := by injection e0
  subst e0'
  refine ⟨k, a, len, cap, l, rfl, wk, hr, ?_⟩
  rcases hw with rfl | ⟨es, sp, hx, hle⟩
  · omega
  · have hb := List.all_eq_true.1 hsz _ (DataW.weights_mem_each htj hdj ((es.length + sp.length) * P.bytesOf e) (by simp [DataW.weights, DataW.weightsEach, hs, k1, hx]))
    rw [hby] at hb
    simp [reachBytes] at hb
    omega

theorem open_intz {t e : TypeId} {a : Option Addr} {len cap : Nat} {d : DataW H} {p : List MemPlace} (ht : P.underlying t = some (.slice e)) (he : P.underlying e = some (.int .i64)) (hc : P.cellsOf e = 1) (hby : P.bytesOf e = 8)
    (h : DataW.Trod enc P W 0 (fun _ => true) true t (.slice a len cap) d p) {ts : List TypeId} {ds : List (DataW H)} (hsz : (DataW.weightsEach P ts ds).all (· ≤ reachBytes) = true) {j : Nat} (htj : ts[j]? = some t) (hdj : ds[j]? = some d) :
    ∃ l, RdI W W.heap.size a len l ∧ len ≤ 140737488351232 := by
  obtain ⟨fuel, hf⟩ := h
  rcases open_ints ht he hc hf with ⟨hcs, _⟩ | ⟨x, l, c, zs, hcs, _, hl, hm, hz, hx, hcell, hwz⟩
  · simp [Value.cells] at hcs
    obtain ⟨rfl, rfl, rfl⟩ := hcs
    exact ⟨[], ⟨rfl, fun h => absurd h (by omega)⟩, by omega⟩
  · simp [Value.cells] at hcs
    obtain ⟨rfl, rfl, rfl⟩ := hcs
    simp only [if_pos] at hz
    simp only [Prod.mk.injEq] at hx
    rw [hx.1] at hdj
    have hb := sized_slice hsz htj hdj ht
    rw [hby] at hb
    simp only [lits, List.length_map, List.length_take, List.length_drop, reachBytes] at hb
    refine ⟨zs.take len, ⟨by simp; omega, fun hn => ?_⟩, by omega⟩
    obtain ⟨b, off, spot⟩ := x
    have h0 := hcell 0 (by omega)
    have hspot : spot = none := by simpa [Addr.add] using World.cell?_spot h0
    subst hspot
    refine ⟨b, off, rfl, by simpa [Addr.add] using lt_of_cell h0, fun i hi => ?_⟩
    have := hcell i (by omega)
    rw [addr_add] at this
    rw [this]
    simp [List.getD, hi]
end
end Go.Proofs.Ytickcfcncpnaiaa
namespace Go.Proofs.Ytickcfcncpnaiaa
open Go.RowKit Go.ChangeShapes Go.WideShapes Go.Deep
set_option maxRecDepth 100000
set_option linter.unusedVariables false

section
variable {H : Type} {enc : TypeId × Value → H} {W : World}
theorem lt_of_cellN {w : World} {a : Addr} {v : Value} (h : w.cell? a = some v) : a.block < w.heap.size := by
  rcases Nat.lt_or_ge a.block w.heap.size with h1 | h1
  · exact h1
  · simp [World.cell?, Array.getElem?_eq_none h1] at h
theorem trod_u8sN {P : Program} {t e : TypeId} {n fuel : Nat} {cs : List Value} {x : DataW H × List MemPlace} (ht : P.underlying t = some (.array n e)) (he : P.underlying e = some (.int .u8)) (hce : P.cellsOf e = 1) (hct : P.cellsOf t = n)
    (h : DataW.trod enc P W 0 (fun _ => true) true fuel t cs = some x) : ∃ l, cs = u8s l ∧ l.length = n ∧ Oct l := by
  obtain ⟨xs, m, hf, hx, hl, hxl, hat⟩ := DataW.trod_array ht h
  rw [hct] at hl
  have each : ∀ i, i < n → ∃ z : Int, cs[i]? = some (.int .u8 z) ∧ 0 ≤ z ∧ z < 256 := by
    intro i hi
    have h1 := hat i hi
    rw [List.getElem?_eq_getElem (by omega)] at h1
    rw [hce, Nat.mul_one] at h1
    obtain ⟨z, hz, _, hw⟩ := DataW.trod_int he h1
    refine ⟨z, ?_, ?_⟩
    · have h2 : ((cs.drop i).take 1)[0]? = some (.int .u8 z) := by rw [hz]; rfl
      simpa using h2
    · simp [Lit.wf, IntKind.min, IntKind.max, IntKind.signed, IntKind.bits] at hw
      omega
  refine ⟨cs.map fun v => match v with | .int _ z => z | _ => 0, ?_, by simp [hl], ?_⟩
  · apply List.ext_getElem?
    intro i
    rcases Nat.lt_or_ge i n with hi | hi
    · obtain ⟨z, hz, _⟩ := each i hi
      simp [u8s, hz]
    · rw [List.getElem?_eq_none (by omega), List.getElem?_eq_none (by simp [u8s]; omega)]
  · intro z hz
    obtain ⟨v, hv, rfl⟩ := List.mem_map.1 hz
    obtain ⟨i, hi, hiv⟩ := List.mem_iff_getElem.1 hv
    obtain ⟨z, hz, h0, h1⟩ := each i (by omega)
    rw [List.getElem?_eq_getElem hi, hiv] at hz
    cases hz
    exact ⟨h0, h1⟩
theorem trod_u32 {fuel : Nat} {cs : List Value} {x : DataW H × List MemPlace} (h : DataW.trod enc Try.prog W 0 (fun _ => true) true fuel 27 cs = some x) : ∃ n, cs = [.int .u32 n] ∧ U32 n := by
  obtain ⟨n, e, _, hw⟩ := DataW.trod_int Try.underlying27 h
  refine ⟨n, e, ?_⟩
  simp [Lit.wf, IntKind.min, IntKind.max, IntKind.signed, IntKind.bits] at hw
  exact ⟨by omega, by omega⟩
theorem trod_i64 {fuel : Nat} {cs : List Value} {x : DataW H × List MemPlace} (h : DataW.trod enc Try.prog W 0 (fun _ => true) true fuel 3 cs = some x) : ∃ n, cs = [.int .i64 n] ∧ I64 n := by
  obtain ⟨n, e, _, hw⟩ := DataW.trod_int Try.underlying3 h
  exact ⟨n, e, wf_i64 hw⟩
theorem part_of {P : Program} {fs : Array Field} {cs : List Value} {xs : List (DataW H × List MemPlace)} {n : Nat} (hl : xs.length = fs.size) (h : ∀ (i : Nat) (f : Field), fs[i]? = some f → DataW.trod enc P W 0 (fun _ => true) true n f.type ((cs.drop f.offset).take (P.cellsOf f.type)) = xs[i]?)
    (i : Nat) (f : Field) (hf : fs[i]? = some f) : ∃ y, DataW.trod enc P W 0 (fun _ => true) true n f.type ((cs.drop f.offset).take (P.cellsOf f.type)) = some y := by
  have hi := (Array.getElem?_eq_some_iff.1 hf).1
  exact ⟨xs[i], by rw [h i f hf, List.getElem?_eq_getElem]⟩
theorem drop_split (cs : List Value) (o n : Nat) : cs.drop o = (cs.drop o).take n ++ cs.drop (o + n) := by rw [← List.drop_drop, List.take_append_drop]
theorem trod_ip {fuel : Nat} {cs : List Value} {x : DataW H × List MemPlace} (h : DataW.trod enc Try.prog W 0 (fun _ => true) true fuel 32 cs = some x) : ∃ v l, cs = ipc v l ∧ l.length = 16 ∧ Oct l := by
  obtain ⟨xs, n, _, _, hl, hxl, hat⟩ := DataW.trod_struct Try.underlying32 h
  have hl : cs.length = 17 := hl.trans (by kernel_rfl)
  obtain ⟨_, h0⟩ := part_of hxl hat 0 _ rfl
  obtain ⟨_, h1⟩ := part_of hxl hat 1 _ rfl
  obtain ⟨v, e0, _⟩ := DataW.trod_bool Try.underlying4 h0
  obtain ⟨l, e1, hll, ho⟩ := trod_u8sN Try.underlying30 Try.underlying5 (by kernel_rfl) (by kernel_rfl) h1
  have e0 : (cs.drop 0).take 1 = [.bool v] := e0
  have e1 : (cs.drop 1).take 16 = u8s l := e1
  refine ⟨v, l, ?_, hll, ho⟩
  have a0 := drop_split cs 0 1
  have a1 := drop_split cs 1 16
  rw [e0] at a0
  have z : cs.drop (1 + 16) = [] := List.drop_of_length_le (by omega)
  rw [e1, z, List.append_nil] at a1
  rw [List.drop_zero, Nat.zero_add, a1] at a0
  exact a0
theorem trod_pf {fuel : Nat} {cs : List Value} {x : DataW H × List MemPlace} (h : DataW.trod enc Try.prog W 0 (fun _ => true) true fuel 34 cs = some x) : ∃ v l n, cs = pfc v l n ∧ l.length = 16 ∧ Oct l ∧ I64 n := by
  obtain ⟨xs, m, _, _, hl, hxl, hat⟩ := DataW.trod_struct Try.underlying34 h
  have hl : cs.length = 18 := hl.trans (by kernel_rfl)
  obtain ⟨_, h0⟩ := part_of hxl hat 0 _ rfl
  obtain ⟨_, h1⟩ := part_of hxl hat 1 _ rfl
  obtain ⟨v, l, e0, hll, ho⟩ := trod_ip h0
  obtain ⟨n, e1, hn⟩ := trod_i64 h1
  have e0 : (cs.drop 0).take 17 = ipc v l := e0
  have e1 : (cs.drop 17).take 1 = [.int .i64 n] := e1
  refine ⟨v, l, n, ?_, hll, ho, hn⟩
  have a0 := drop_split cs 0 17
  have a1 := drop_split cs 17 1
  rw [e0] at a0
  have z : cs.drop (17 + 1) = [] := List.drop_of_length_le (by omega)
  rw [e1, z, List.append_nil] at a1
  rw [List.drop_zero, Nat.zero_add, a1] at a0
  rw [pfc_app]
  exact a0
theorem trod_rt {fuel : Nat} {cs : List Value} {x : DataW H × List MemPlace} (h : DataW.trod enc Try.prog W 0 (fun _ => true) true fuel 36 cs = some x) : ∃ r, cs = rtc r ∧ RtOk r := by
  obtain ⟨xs, m, _, _, hl, hxl, hat⟩ := DataW.trod_struct Try.underlying36 h
  have hl : cs.length = 63 := hl.trans (by kernel_rfl)
  obtain ⟨_, h0⟩ := part_of hxl hat 0 _ rfl
  obtain ⟨_, h1⟩ := part_of hxl hat 1 _ rfl
  obtain ⟨_, h2⟩ := part_of hxl hat 2 _ rfl
  obtain ⟨_, h3⟩ := part_of hxl hat 3 _ rfl
  obtain ⟨_, h4⟩ := part_of hxl hat 4 _ rfl
  obtain ⟨_, h5⟩ := part_of hxl hat 5 _ rfl
  obtain ⟨_, h6⟩ := part_of hxl hat 6 _ rfl
  obtain ⟨_, h7⟩ := part_of hxl hat 7 _ rfl
  obtain ⟨_, h8⟩ := part_of hxl hat 8 _ rfl
  obtain ⟨k, e0, hk⟩ := trod_i64 h0
  obtain ⟨rd, e1, lrd, ord⟩ := trod_u8sN Try.underlying24 Try.underlying5 (by kernel_rfl) (by kernel_rfl) h1
  obtain ⟨es, e2, les, oes⟩ := trod_u8sN Try.underlying26 Try.underlying5 (by kernel_rfl) (by kernel_rfl) h2
  obtain ⟨tg, e3, htg⟩ := trod_u32 h3
  obtain ⟨mc, e4, lmc, omc⟩ := trod_u8sN Try.underlying29 Try.underlying5 (by kernel_rfl) (by kernel_rfl) h4
  obtain ⟨v6, pl, pn, e5, lpl, opl, hpn⟩ := trod_pf h5
  obtain ⟨gv, gl, e6, lgl, ogl⟩ := trod_ip h6
  obtain ⟨lb, e7, hlb⟩ := trod_u32 h7
  obtain ⟨l2, e8, hl2⟩ := trod_u32 h8
  have e0 : (cs.drop 0).take 1 = [.int .i64 k] := e0
  have e1 : (cs.drop 1).take 8 = u8s rd := e1
  have e2 : (cs.drop 9).take 10 = u8s es := e2
  have e3 : (cs.drop 19).take 1 = [.int .u32 tg] := e3
  have e4 : (cs.drop 20).take 6 = u8s mc := e4
  have e5 : (cs.drop 26).take 18 = pfc v6 pl pn := e5
  have e6 : (cs.drop 44).take 17 = ipc gv gl := e6
  have e7 : (cs.drop 61).take 1 = [.int .u32 lb] := e7
  have e8 : (cs.drop 62).take 1 = [.int .u32 l2] := e8
  refine ⟨⟨k, rd, es, tg, mc, v6, pl, pn, gv, gl, lb, l2⟩, ?_, ⟨hk, lrd, ord, les, oes, htg, lmc, omc, lpl, opl, hpn, lgl, ogl, hlb, hl2⟩⟩
  have a0 := drop_split cs 0 1
  have a1 := drop_split cs 1 8
  have a2 := drop_split cs 9 10
  have a3 := drop_split cs 19 1
  have a4 := drop_split cs 20 6
  have a5 := drop_split cs 26 18
  have a6 := drop_split cs 44 17
  have a7 := drop_split cs 61 1
  have a8 := drop_split cs 62 1
  rw [e0] at a0
  rw [e1] at a1
  rw [e2] at a2
  rw [e3] at a3
  rw [e4] at a4
  rw [e5] at a5
  rw [e6] at a6
  rw [e7] at a7
  have z : cs.drop (62 + 1) = [] := List.drop_of_length_le (by omega)
  rw [e8, z, List.append_nil] at a8
  rw [List.drop_zero] at a0
  rw [a0]
  show _ ++ cs.drop 1 = _
  rw [a1]
  show _ ++ (_ ++ cs.drop 9) = _
  rw [a2]
  show _ ++ (_ ++ (_ ++ cs.drop 19)) = _
  rw [a3]
  show _ ++ (_ ++ (_ ++ (_ ++ cs.drop 20))) = _
  rw [a4]
  show _ ++ (_ ++ (_ ++ (_ ++ (_ ++ cs.drop 26)))) = _
  rw [a5]
  show _ ++ (_ ++ (_ ++ (_ ++ (_ ++ (_ ++ cs.drop 44))))) = _
  rw [a6]
  show _ ++ (_ ++ (_ ++ (_ ++ (_ ++ (_ ++ (_ ++ cs.drop 61)))))) = _
  rw [a7]
  show _ ++ (_ ++ (_ ++ (_ ++ (_ ++ (_ ++ (_ ++ (_ ++ cs.drop 62))))))) = _
  rw [a8]
  rfl
theorem open_rt {r : Reach} {b0 : Nat} {v : Value} {d : DataW H} {p : List MemPlace} (hv : Value.okWide Try.prog W r b0 36 v) (h : DataW.Trod enc Try.prog W 0 (fun _ => true) true 36 v d p) : ∃ x, v = .agg (rtc x).toArray ∧ RtOk x := by
  unfold Value.okWide at hv
  rw [Try.underlying36] at hv
  obtain ⟨⟨cs⟩, rfl, _⟩ := hv
  obtain ⟨fuel, hf⟩ := h
  obtain ⟨x, e, hx⟩ := trod_rt hf
  refine ⟨x, ?_, hx⟩
  have : cs = rtc x := e
  rw [this]
theorem open_routes {t : TypeId} {a : Option Addr} {len cap : Nat} {d : DataW H} {p : List MemPlace} (ht : Try.prog.underlying t = some (.slice 36))
    (h : DataW.Trod enc Try.prog W 0 (fun _ => true) true t (.slice a len cap) d p) {ts : List TypeId} {ds : List (DataW H)} (hsz : (DataW.weightsEach Try.prog ts ds).all (· ≤ reachBytes) = true) {j : Nat} (htj : ts[j]? = some t) (hdj : ds[j]? = some d) :
    ∃ ls, RdRt W W.heap.size a len ls ∧ len ≤ cap ∧ len ≤ 1400000000000 := by
  have hC : Try.prog.cellsOf 36 = 63 := by kernel_rfl
  have hby : Try.prog.bytesOf 36 = 104 := by kernel_rfl
  obtain ⟨fuel, hf⟩ := h
  rcases open_slice ht hf with ⟨hcs, _⟩ | ⟨x, l, c, m, n, D, Pl, hcs, _, hl, hm, hmm, hx, hi⟩
  · simp [Value.cells] at hcs
    obtain ⟨rfl, rfl, rfl⟩ := hcs
    exact ⟨[], ⟨rfl, AllRt.nil_, fun h => absurd h (by omega)⟩, by omega, by omega⟩
  · simp [Value.cells] at hcs
    obtain ⟨rfl, rfl, rfl⟩ := hcs
    simp only [if_pos] at hmm
    subst hmm
    simp only [Prod.mk.injEq] at hx
    rw [hx.1] at hdj
    have hb := sized_slice hsz htj hdj ht
    rw [hby] at hb
    simp only [List.length_map, List.length_range, reachBytes] at hb
    have each : ∀ i, i < len → ∃ y : Rt, RtOk y ∧ ∀ k v, (rtc y)[k]? = some v → W.cell? ((x.add (i * 63)).add k) = some v := by
      intro i him
      obtain ⟨cs', hc, ht'⟩ := hi i (by omega)
      rw [hC] at hc
      obtain ⟨y, rfl, hy⟩ := trod_rt ht'
      obtain ⟨_, hl2, hat⟩ := World.cells?_some hc
      refine ⟨y, hy, fun k v hv => ?_⟩
      have hk := (List.getElem?_eq_some_iff.1 hv).1
      rw [hat k (by omega)]
      exact hv
    have hch : ∃ ys : List Rt, ys.length = len ∧ ∀ i (h : i < ys.length), RtOk ys[i] ∧ ∀ k v, (rtc ys[i])[k]? = some v → W.cell? ((x.add (i * 63)).add k) = some v := by
      refine ⟨(List.range len).attach.map fun i => Classical.choose (each i.1 (List.mem_range.1 i.2)), by simp, fun i hi' => ?_⟩
      have hlt : i < len := by simpa using hi'
      have h1 := Classical.choose_spec (each i hlt)
      have e1 : ((List.range len).attach.map fun i => Classical.choose (each i.1 (List.mem_range.1 i.2)))[i] = Classical.choose (each i hlt) := by simp
      rw [e1]
      exact h1
    obtain ⟨ys, hyl, hys⟩ := hch
    refine ⟨ys, ⟨hyl, fun y hy => ?_, fun hn => ?_⟩, by omega, by omega⟩
    · obtain ⟨i, hi', rfl⟩ := List.mem_iff_getElem.1 hy
      exact (hys i hi').1
    · obtain ⟨b, off, spot⟩ := x
      have h0 := hys 0 (by omega)
      have h0c := h0.2 0 (.int .i64 ys[0].k) rfl
      have hspot : spot = none := by simpa [Addr.add] using World.cell?_spot h0c
      subst hspot
      have ea : ∀ i, (⟨b, off, none⟩ : Addr).add i = ⟨b, off + i, none⟩ := fun i => by unfold Addr.add; split <;> simp_all
      have eb : ∀ i k, (⟨b, off + i, none⟩ : Addr).add k = ⟨b, off + i + k, none⟩ := fun i k => by unfold Addr.add; split <;> simp_all
      refine ⟨b, off, rfl, by simpa [Addr.add] using lt_of_cellN h0c, fun i hi' k v hv => ?_⟩
      have := (hys i hi').2 k v hv
      rw [ea, eb] at this
      exact this
end
end Go.Proofs.Ytickcfcncpnaiaa
