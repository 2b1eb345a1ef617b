/-
  Put together: Frame FrW FrameM Wrap AtX.
-/
import Derived.Test.YtickcfcncpnaiaaDoorMO
import Derived.WalkKit
import Derived.ProofKit
import Derived.OpenShut
import Derived.ChangeOld
import Derived.SizedLaws
import Derived.Deep.Slices
import Derived.Deep.Fields
import Derived.ChangeSame
import Derived.Lib.SmallJoins
import Derived.HandedShaped
import Derived.Lay
import Derived.Test.YtickcfcncpnaiaaDoorMT
import Derived.Test.YtickcfcncpnaiaaDoorRows
import Derived.Lib.LaidU8
import Derived.Deep.Strs
namespace Go.Proofs.YtickcfcncpnaiaaDoor
open Go.RowKit Go.ChangeShapes Go.WideShapes Go.Deep
set_option maxRecDepth 100000

section
variable {H : Type} {enc : TypeId × Value → H} {P : Program} {W : World}

theorem lt_of_cell {w : World} {a : Addr} {v : Value} (h : w.cell? a = some v) : a.block < w.heap.size := by
  rcases Nat.lt_or_ge a.block w.heap.size with h1 | h1
  · exact h1
  · simp [World.cell?, Array.getElem?_eq_none h1] at h

theorem open_bytes {t e : TypeId} {a : Option Addr} {len cap : Nat} {d : DataW H} {p : List MemPlace} (ht : P.underlying t = some (.slice e)) (he : P.underlying e = some (.int .u8)) (hc : P.cellsOf e = 1) (hby : P.bytesOf e = 1)
    (h : DataW.Trod enc P W 0 (fun _ => true) true t (.slice a len cap) d p) {ts : List TypeId} {ds : List (DataW H)} (hsz : (DataW.weightsEach P ts ds).all (· ≤ reachBytes) = true) {j : Nat} (htj : ts[j]? = some t) (hdj : ds[j]? = some d) :
    ∃ l, Rd W W.heap.size a len l ∧ len ≤ 140737488351232 := by
  obtain ⟨fuel, hf⟩ := h
  rcases open_ints ht he hc hf with ⟨hcs, _⟩ | ⟨x, l, c, zs, hcs, _, hl, hm, hz, hx, hcell, hwz⟩
  · simp [Value.cells] at hcs
    obtain ⟨rfl, rfl, rfl⟩ := hcs
    exact ⟨[], Rd.nil_ _, by omega⟩
  · simp [Value.cells] at hcs
    obtain ⟨rfl, rfl, rfl⟩ := hcs
    simp only [if_pos] at hz
    simp only [Prod.mk.injEq] at hx
    rw [hx.1] at hdj
    have hb := sized_slice hsz htj hdj ht
    rw [hby] at hb
    simp only [lits, List.length_map, List.length_take, List.length_drop, reachBytes] at hb
    refine ⟨zs.take len, ⟨by simp; omega, fun y hy => ?_, fun hn => ?_⟩, by omega⟩
    · have := hwz y (List.mem_of_mem_take hy)
      simp [Lit.wf, IntKind.min, IntKind.max, IntKind.signed, IntKind.bits] at this
      omega
    · obtain ⟨b, off, spot⟩ := x
      have h0 := hcell 0 (by omega)
      have hspot : spot = none := by simpa [Addr.add] using World.cell?_spot h0
      subst hspot
      refine ⟨b, off, rfl, by simpa [Addr.add] using lt_of_cell h0, fun i hi => ?_⟩
      have e : (⟨b, off, none⟩ : Addr).add i = ⟨b, off + i, none⟩ := by unfold Addr.add; split <;> simp_all
      have := hcell i (by omega)
      rw [e] at this
      rw [this]
      simp [List.getD, hi]

theorem addr_add (b off i : Nat) : (⟨b, off, none⟩ : Addr).add i = ⟨b, off + i, none⟩ := by unfold Addr.add; split <;> simp_all

theorem open_rows2 {t e : TypeId} {f0 f1 : Field} {a : Option Addr} {len cap : Nat} {d : DataW H} {p : List MemPlace} (ht : P.underlying t = some (.slice e)) (he : P.underlying e = some (.struct #[f0, f1]))
    (hC : P.cellsOf e = 2) (k0 : P.underlying f0.type = some (.int .i64)) (k1 : P.underlying f1.type = some (.int .i64)) (o : (f0.offset, f1.offset, P.cellsOf f0.type, P.cellsOf f1.type) = (0, 1, 1, 1)) (hby : P.bytesOf e = 16)
    (h : DataW.Trod enc P W 0 (fun _ => true) true t (.slice a len cap) d p) {ts : List TypeId} {ds : List (DataW H)} (hsz : (DataW.weightsEach P ts ds).all (· ≤ reachBytes) = true) {j : Nat} (htj : ts[j]? = some t) (hdj : ds[j]? = some d) :
    ∃ xs, Rec2 W W.heap.size a len xs ∧ len * 16 ≤ 140737488351232 := by
  simp only [Prod.mk.injEq] at o
  obtain ⟨o0, o1, o2, o3⟩ := o
  obtain ⟨fuel, hf⟩ := h
  rcases open_slice ht hf with ⟨hcs, _⟩ | ⟨x, l, c, m, n, D, Pl, hcs, _, hl, hm, hmm, hx, hi⟩
  · simp [Value.cells] at hcs
    obtain ⟨rfl, rfl, rfl⟩ := hcs
    exact ⟨[], ⟨rfl, (fun x h => by cases h), fun h => absurd h (by omega)⟩, by omega⟩
  · simp [Value.cells] at hcs
    obtain ⟨rfl, rfl, rfl⟩ := hcs
    simp only [if_pos] at hmm
    subst hmm
    simp only [Prod.mk.injEq] at hx
    rw [hx.1] at hdj
    have hb := sized_slice hsz htj hdj ht
    rw [hby] at hb
    simp only [List.length_map, List.length_range, reachBytes] at hb
    have each : ∀ i, i < m → ∃ y : Int × Int, ((-9223372036854775808 ≤ y.1 ∧ y.1 < 9223372036854775808) ∧ (-9223372036854775808 ≤ y.2 ∧ y.2 < 9223372036854775808)) ∧
        W.cell? ((x.add (i * 2)).add 0) = some (.int .i64 y.1) ∧ W.cell? ((x.add (i * 2)).add 1) = some (.int .i64 y.2) := by
      intro i him
      obtain ⟨cs', hc, ht'⟩ := hi i him
      rw [hC] at hc
      obtain ⟨y0, y1, n', hy, hcl, h0, h1⟩ := trod_struct2 he ht'
      obtain ⟨_, hl2, hat⟩ := World.cells?_some hc
      rw [o0, o2] at h0
      rw [o1, o3] at h1
      obtain ⟨q0, e0, _, w0⟩ := DataW.trod_int k0 h0
      obtain ⟨q1, e1, _, w1⟩ := DataW.trod_int k1 h1
      refine ⟨(q0, q1), ⟨wf_i64 w0, wf_i64 w1⟩, ?_, ?_⟩
      · rw [hat 0 (by omega)]
        have := congrArg (fun l : List Value => l[0]?) e0
        simpa [List.getElem?_take] using this
      · rw [hat 1 (by omega)]
        have := congrArg (fun l : List Value => l[0]?) e1
        simpa [List.getElem?_take] using this
    have pick : ∃ f : Nat → Int × Int, ∀ i, i < m → ((-9223372036854775808 ≤ (f i).1 ∧ (f i).1 < 9223372036854775808) ∧ (-9223372036854775808 ≤ (f i).2 ∧ (f i).2 < 9223372036854775808)) ∧
        W.cell? ((x.add (i * 2)).add 0) = some (.int .i64 (f i).1) ∧ W.cell? ((x.add (i * 2)).add 1) = some (.int .i64 (f i).2) := by
      refine ⟨fun i => if h : i < m then Classical.choose (each i h) else (0, 0), fun i h => ?_⟩
      simp only [dif_pos h]
      exact Classical.choose_spec (each i h)
    obtain ⟨f, hf⟩ := pick
    refine ⟨(List.range len).map f, ⟨by simp, fun y hy => ?_, fun hn => ?_⟩, by omega⟩
    · obtain ⟨i, hi, rfl⟩ := List.mem_map.1 hy
      exact (hf i (by have := List.mem_range.1 hi; omega)).1
    · obtain ⟨b, off, spot⟩ := x
      have h0 := (hf 0 (by omega)).2.1
      have hspot : spot = none := by simpa [Addr.add] using World.cell?_spot h0
      subst hspot
      refine ⟨b, off, rfl, by simpa [Addr.add] using lt_of_cell h0, fun i hi => ?_⟩
      have hil : i < len := by simpa using hi
      have hc := (hf i (by omega)).2
      rw [addr_add, addr_add, addr_add, Nat.add_zero] at hc
      simpa using hc
end
end Go.Proofs.YtickcfcncpnaiaaDoor
namespace Go.Proofs.YtickcfcncpnaiaaDoor
open Go.RowKit
set_option maxRecDepth 100000

/-- A slice of ints that reads as xs. -/
structure RdI (w : World) (B : Nat) (A : Option Addr) (n : Nat) (xs : List Int) : Prop where
  len : xs.length = n
  at_ : 0 < n → ∃ b off, A = some ⟨b, off, none⟩ ∧ b < B ∧ ∀ i, i < n → w.cell? ⟨b, off + i, none⟩ = some (.int .i64 (xs.getD i 0))
theorem RdI.below {w w' : World} {B n : Nat} {A : Option Addr} {xs : List Int} (h : RdI w B A n xs) (hb : Below B w w') : RdI w' B A n xs :=
  ⟨h.len, fun hn => by
    obtain ⟨b, off, e, hlt, hc⟩ := h.at_ hn
    exact ⟨b, off, e, hlt, fun i hi => (hb.cell (p := ⟨b, off + i, none⟩) hlt).trans (hc i hi)⟩⟩


/-- A slice of slices of bytes that reads as ls, each with its capacity. -/
structure RdB (w : World) (B : Nat) (A : Option Addr) (n : Nat) (ls : List (List Int)) : Prop where
  len : ls.length = n
  at_ : 0 < n → ∃ b off, A = some ⟨b, off, none⟩ ∧ b < B ∧ ∀ i (h : i < ls.length), ∃ A1 n1 c1, w.cell? ⟨b, off + i, none⟩ = some (.slice A1 n1 c1) ∧ Rd w B A1 n1 ls[i] ∧ n1 ≤ c1
theorem RdB.below {w w' : World} {B n : Nat} {A : Option Addr} {ls : List (List Int)} (h : RdB w B A n ls) (hb : Below B w w') : RdB w' B A n ls :=
  ⟨h.len, fun hn => by
    obtain ⟨b, off, e, hlt, hc⟩ := h.at_ hn
    refine ⟨b, off, e, hlt, fun i hi => ?_⟩
    obtain ⟨A1, n1, c1, h1, h2, h3⟩ := hc i hi
    exact ⟨A1, n1, c1, (hb.cell (p := ⟨b, off + i, none⟩) hlt).trans h1, h2.below hb, h3⟩⟩
end Go.Proofs.YtickcfcncpnaiaaDoor
namespace Go.Proofs.YtickcfcncpnaiaaDoor
open Go.RowKit Go.ChangeShapes Go.WideShapes Go.Deep Go.Joins
set_option maxRecDepth 100000

section
variable {H : Type} {enc : TypeId × Value → H} {P : Program} {W : World}

/-- A reading of bytes: the slice, what it reads, its datum's length. -/
theorem trod_bytes {t e : TypeId} {fuel : Nat} {v : Value} {x : DataW H × List MemPlace} (ht : P.underlying t = some (.slice e)) (he : P.underlying e = some (.int .u8)) (hc : P.cellsOf e = 1)
    (h : DataW.trod enc P W 0 (fun _ => true) true fuel t [v] = some x) :
    ∃ a len cap l, v = .slice a len cap ∧ Rd W W.heap.size a len l ∧ len ≤ cap ∧ (len = 0 ∨ ∃ es sp, x.1 = .slice es sp ∧ len ≤ es.length + sp.length) := by
  rcases open_ints ht he hc h with ⟨hcs, _⟩ | ⟨x0, l, c, zs, hcs, _, hl, hm, hz, hx, hcell, hwz⟩
  · injection hcs with hcs
    subst hcs
    exact ⟨none, 0, 0, [], rfl, Rd.nil_ _, Nat.le_refl _, .inl rfl⟩
  · injection hcs with hcs
    subst hcs
    simp only [if_pos] at hz
    refine ⟨some x0, l, c, zs.take l, rfl, ⟨by simp; omega, fun y hy => ?_, fun hn => ?_⟩, hl, .inr ⟨_, _, by rw [hx], by simp [lits]; omega⟩⟩
    · have := hwz y (List.mem_of_mem_take hy)
      simp [Lit.wf, IntKind.min, IntKind.max, IntKind.signed, IntKind.bits] at this
      omega
    · obtain ⟨b, off, spot⟩ := x0
      have h0 := hcell 0 (by omega)
      have hspot : spot = none := by simpa [Addr.add] using World.cell?_spot h0
      subst hspot
      refine ⟨b, off, rfl, by simpa [Addr.add] using lt_of_cell h0, fun i hi => ?_⟩
      have := hcell i (by omega)
      rw [addr_add] at this
      rw [this]
      simp [List.getD, hi]

theorem open_msg {r : Reach} {b0 : Nat} {t e : TypeId} {f0 f1 : Field} {v : Value} {d : DataW H} {p : List MemPlace} (hs : P.underlying t = some (.struct #[f0, f1])) (hone : oneCellFields P #[f0, f1] = true) (hC : P.cellsOf t = 2)
    (k0 : P.underlying f0.type = some (.int .i64)) (k1 : P.underlying f1.type = some (.slice e)) (he : P.underlying e = some (.int .u8)) (hce : P.cellsOf e = 1) (hby : P.bytesOf e = 1) (hv : Value.okWide P W r b0 t v)
    (h : DataW.Trod enc P W 0 (fun _ => true) true t v d p) {ts : List TypeId} {ds : List (DataW H)} (hsz : (DataW.weightsEach P ts ds).all (· ≤ reachBytes) = true) {j : Nat} (htj : ts[j]? = some t) (hdj : ds[j]? = some d) :
    ∃ k a len cap l, v = .agg #[.int .i64 k, .slice a len cap] ∧ (Lit.int .i64 k).wf = true ∧ Rd W W.heap.size a len l ∧ len ≤ 140737488351232 := by
  obtain ⟨v0, v1, y0, y1, n, rfl, rfl, rfl, h0, h1⟩ := open_agg2 hs hone hC hv h
  obtain ⟨k, e0, _, wk⟩ := DataW.trod_int k0 h0
  obtain ⟨a, len, cap, l, rfl, hr, hlc, hw⟩ := trod_bytes k1 he hce h1
  have e0' : v0 = .int .i64 k := by injection e0
  subst e0'
  refine ⟨k, a, len, cap, l, rfl, wk, hr, ?_⟩
  rcases hw with rfl | ⟨es, sp, hx, hle⟩
  · omega
  · have hb := List.all_eq_true.1 hsz _ (DataW.weights_mem_each htj hdj ((es.length + sp.length) * P.bytesOf e) (by simp [DataW.weights, DataW.weightsEach, hs, k1, hx]))
    rw [hby] at hb
    simp [reachBytes] at hb
    omega

theorem open_intz {t e : TypeId} {a : Option Addr} {len cap : Nat} {d : DataW H} {p : List MemPlace} (ht : P.underlying t = some (.slice e)) (he : P.underlying e = some (.int .i64)) (hc : P.cellsOf e = 1) (hby : P.bytesOf e = 8)
    (h : DataW.Trod enc P W 0 (fun _ => true) true t (.slice a len cap) d p) {ts : List TypeId} {ds : List (DataW H)} (hsz : (DataW.weightsEach P ts ds).all (· ≤ reachBytes) = true) {j : Nat} (htj : ts[j]? = some t) (hdj : ds[j]? = some d) :
    ∃ l, RdI W W.heap.size a len l ∧ len ≤ 140737488351232 := by
  obtain ⟨fuel, hf⟩ := h
  rcases open_ints ht he hc hf with ⟨hcs, _⟩ | ⟨x, l, c, zs, hcs, _, hl, hm, hz, hx, hcell, hwz⟩
  · simp [Value.cells] at hcs
    obtain ⟨rfl, rfl, rfl⟩ := hcs
    exact ⟨[], ⟨rfl, fun h => absurd h (by omega)⟩, by omega⟩
  · simp [Value.cells] at hcs
    obtain ⟨rfl, rfl, rfl⟩ := hcs
    simp only [if_pos] at hz
    simp only [Prod.mk.injEq] at hx
    rw [hx.1] at hdj
    have hb := sized_slice hsz htj hdj ht
    rw [hby] at hb
    simp only [lits, List.length_map, List.length_take, List.length_drop, reachBytes] at hb
    refine ⟨zs.take len, ⟨by simp; omega, fun hn => ?_⟩, by omega⟩
    obtain ⟨b, off, spot⟩ := x
    have h0 := hcell 0 (by omega)
    have hspot : spot = none := by simpa [Addr.add] using World.cell?_spot h0
    subst hspot
    refine ⟨b, off, rfl, by simpa [Addr.add] using lt_of_cell h0, fun i hi => ?_⟩
    have := hcell i (by omega)
    rw [addr_add] at this
    rw [this]
    simp [List.getD, hi]
end
end Go.Proofs.YtickcfcncpnaiaaDoor
namespace Go.Proofs.YtickcfcncpnaiaaDoor
open Go.RowKit Go.ChangeShapes Go.WideShapes Go.ChangeAt
set_option maxRecDepth 100000
set_option linter.unusedVariables false

/-- A row that lists variables, its world's shape kept. -/
theorem wrap_rows {H : Type} {enc : TypeId × Value → H} {a : Assume} {C : Checked} {os : Os} {f : FuncId} {fn : Func} {s : ChangeSpec} {conds : List PathCond} {apart fresh handsOn again : Bool} {X : World → Array Value → Prop}
    (hX : ∀ (w w' : World) (args : Array Value), w.heap = w'.heap → X w args → X w' args)
    (own : ownKnob C.prog.godebug = none) (started : os.Started) (noInit : C.prog.inits.idxOf? f = none) (hfn : C.prog.funcs[f]? = some fn)
    (witness : ∃ (w : World) (tape : Tape) (i : Input), w.os = os ∧ (w.forCall tape i).Shaped C.prog ∧ i.vars = [] ∧ Input.okWide C.prog (w.forCall tape i) .any w.heap.size f i ∧
      ((s.pre enc C.prog fn conds apart (w.forCall tape i).memory i.args ∧ X (w.forCall tape i).memory i.args) ∧ sizedMet enc C.prog fn (OpenSpec.ofChange s) apart (w.forCall tape i).memory i.args) ∧ a.holds C.prog (lone (Frame.enter C.prog f i.args .normal) [] (w.forCall tape i)))
    (walk : ∀ (W : World) (base : Nat) (args : Array Value) (ds gs : List (DataW H)) (before : List MemPlace),
      (∀ (j : Nat) t v, fn.params[j]? = some t → args[j]? = some v → Value.okWide C.prog W .any base t v) →
      DataW.Whole enc C.prog fn.params.toList s.vars apart W args.toList ds gs before →
      (DataW.weightsEach C.prog (fn.params.toList ++ s.plain.varTypes C.prog) (ds ++ gs)).all (· ≤ reachBytes) = true → X W args → W.ShapedOpen C.prog →
      Calls C.prog f args W fun e W' => ∃ v, e = .returned v ∧ s.post enc C.prog fn apart fresh handsOn again W args v W') :
    ReturnsInHanded a C os f .any (fun w args => (s.pre enc C.prog fn conds apart w args ∧ X w args) ∧ sizedMet enc C.prog fn (OpenSpec.ofChange s) apart w args) (s.post enc C.prog fn apart fresh handsOn again) := by
  refine returnsInHanded_of_calls own started noInit witness ?_
  rintro w tape i _ shape _ ⟨_, _, _, g, hg, _, _, _, _, vals⟩ ⟨⟨⟨ds, gs, before, hw, hc⟩, hx⟩, hz⟩ _
  obtain rfl : g = fn := Option.some.inj (hg.symm.trans hfn)
  refine (walk (w.forCall tape i) w.heap.size i.args ds gs before vals (DataW.Whole.of_heap (w' := w.forCall tape i) (by rfl) hw) (hz.weights hw) (hX _ _ _ (by rfl) hx) shape).mono ?_
  rintro e W' ⟨v, rfl, hp⟩
  exact ChangeSpec.post_blind hp

end Go.Proofs.YtickcfcncpnaiaaDoor
namespace Go.Proofs.YtickcfcncpnaiaaDoor
open Go.RowKit Go.ChangeShapes Go.WideShapes Go.ChangeAt Go.Deep Go.Joins
set_option maxRecDepth 100000
set_option linter.unusedVariables false

def laidK : List (String × DataW Unit) := [("weft/attr.known", Rows.laid_weft_attr_known)]
theorem get_drop {cs : List Value} {a k r : Nat} {v : Value} (hr : r < k) (h : ((cs.drop a).take k)[r]? = some v) : cs[a + r]? = some v := by
  rw [List.getElem?_take, if_pos hr, List.getElem?_drop] at h
  exact h
theorem known_row {W : World} {fuel : Nat} {cs : List Value} {d : DataW Unit} {p : List MemPlace} {a b c : Int} {f0 f1 f2 : Field} (he : Tryd.prog.underlying 83 = some (.struct #[f0, f1, f2])) (o : (f0.offset, f1.offset, f2.offset, Tryd.prog.cellsOf f0.type, Tryd.prog.cellsOf f1.type, Tryd.prog.cellsOf f2.type) = (0, 1, 2, 1, 1, 1))
    (k0 : Tryd.prog.underlying f0.type = some (.int .i64)) (k1 : Tryd.prog.underlying f1.type = some (.int .i64)) (k2 : Tryd.prog.underlying f2.type = some (.int .i64))
    (h : DataW.trod (fun _ => ()) Tryd.prog W 0 (fun _ => true) false fuel 83 cs = some (d, p)) (hd : d = .agg [.lit (.int .i64 a), .lit (.int .i64 b), .lit (.int .i64 c)]) : cs[0]? = some (.int .i64 a) ∧ cs[1]? = some (.int .i64 b) ∧ cs[2]? = some (.int .i64 c) := by
  simp only [Prod.mk.injEq] at o
  obtain ⟨o0, o1, o2, o3, o4, o5⟩ := o
  obtain ⟨y0, y1, y2, n, hx, hl, h0, h1, h2⟩ := trod_struct3 he h
  rw [o0, o3] at h0
  rw [o1, o4] at h1
  rw [o2, o5] at h2
  obtain ⟨z0, e0, e0', _⟩ := DataW.trod_int k0 h0
  obtain ⟨z1, e1, e1', _⟩ := DataW.trod_int k1 h1
  obtain ⟨z2, e2, e2', _⟩ := DataW.trod_int k2 h2
  simp only [Prod.mk.injEq] at hx
  rw [hx.1, e0', e1', e2'] at hd
  simp only [DataW.agg.injEq, List.cons.injEq, DataW.lit.injEq, Lit.int.injEq, true_and, and_true] at hd
  obtain ⟨rfl, rfl, rfl⟩ := hd
  refine ⟨?_, ?_, ?_⟩
  · have := get_drop (cs := cs) (a := 0) (k := 1) (r := 0) (v := .int .i64 z0) (by omega) (by rw [e0]; rfl); simpa using this
  · have := get_drop (cs := cs) (a := 1) (k := 1) (r := 0) (v := .int .i64 z1) (by omega) (by rw [e1]; rfl); simpa using this
  · have := get_drop (cs := cs) (a := 2) (k := 1) (r := 0) (v := .int .i64 z2) (by omega) (by rw [e2]; rfl); simpa using this
theorem tri_range {w : World} {b : Nat} {f : Nat → Value × Value × Value} : ∀ n, (∀ i, i < n → w.cell? ⟨b, i * 3, none⟩ = some (f i).1 ∧ w.cell? ⟨b, i * 3 + 1, none⟩ = some (f i).2.1 ∧ w.cell? ⟨b, i * 3 + 2, none⟩ = some (f i).2.2) → ((List.range n).flatMap fun i => [(f i).1, (f i).2.1, (f i).2.2]).length = n * 3 ∧ w.rangeAt b 0 ((List.range n).flatMap fun i => [(f i).1, (f i).2.1, (f i).2.2])
  | 0, _ => ⟨rfl, fun j v hv => by simp at hv⟩
  | n + 1, h => by
    obtain ⟨hl, ih⟩ := tri_range n (fun i hi => h i (by omega))
    obtain ⟨h0, h1, h2⟩ := h n (by omega)
    rw [List.range_succ, List.flatMap_append]
    refine ⟨by rw [List.length_append, hl]; simp; omega, fun j v hv => ?_⟩
    rcases Nat.lt_or_ge j (n * 3) with hj | hj
    · rw [List.getElem?_append_left (by omega)] at hv
      exact ih j v hv
    · rw [List.getElem?_append_right (by omega), hl] at hv
      simp only [List.flatMap_cons, List.flatMap_nil, List.append_nil] at hv
      obtain ⟨r, rfl⟩ : ∃ r, j = n * 3 + r := ⟨j - n * 3, by omega⟩
      rw [Nat.add_sub_cancel_left] at hv
      match r, hv with
      | 0, hv => injection hv with hv; subst hv; simpa using h0
      | 1, hv => injection hv with hv; subst hv; simpa using h1
      | 2, hv => injection hv with hv; subst hv; simpa using h2
      | r + 3, hv => simp at hv
theorem laid_at : ∀ i, i < 13 → ∃ d, (match (Rows.laid_weft_attr_known : DataW Unit) with | .agg l => l[i]? | _ => none) = some d ∧ d = .agg [.lit (.int .i64 (kAt i).1), .lit (.int .i64 (kAt i).2.1), .lit (.int .i64 (kAt i).2.2)]
  | 0, _ => ⟨_, rfl, rfl⟩ | 1, _ => ⟨_, rfl, rfl⟩ | 2, _ => ⟨_, rfl, rfl⟩ | 3, _ => ⟨_, rfl, rfl⟩ | 4, _ => ⟨_, rfl, rfl⟩ | 5, _ => ⟨_, rfl, rfl⟩ | 6, _ => ⟨_, rfl, rfl⟩ | 7, _ => ⟨_, rfl, rfl⟩ | 8, _ => ⟨_, rfl, rfl⟩ | 9, _ => ⟨_, rfl, rfl⟩
  | 10, _ => ⟨_, rfl, rfl⟩ | 11, _ => ⟨_, rfl, rfl⟩ | 12, _ => ⟨_, rfl, rfl⟩ | i + 13, h => absurd h (by omega)
theorem envK_of {W : World} (hL : laidMet Tryd.prog laidK W) : EnvK W := by
  obtain ⟨ps, ⟨g', t', cs, fuel, p, q, hg', ht', hvar, hd, _, _⟩, _⟩ := hL
  obtain rfl : g' = 0 := (Option.some.inj ((show Tryd.prog.globalNamed "weft/attr.known" = some 0 by kernel_rfl).symm.trans hg')).symm
  obtain rfl : t' = 108 := (Option.some.inj ((show (Tryd.prog.globals[0]?).map (·.type) = some 108 by kernel_rfl).symm.trans ht')).symm
  have hcell := fun i => World.var?_cell hg' hvar i
  obtain ⟨xs, m, hf, hx, hl, hxl, hat⟩ := DataW.trod_array Tryd.underlying108 hd
  simp only [Prod.mk.injEq] at hx
  have hce : Tryd.prog.cellsOf 83 = 3 := by kernel_rfl
  have each : ∀ i, i < 13 → W.cell? ⟨0, i * 3, none⟩ = some (.int .i64 (kAt i).1) ∧ W.cell? ⟨0, i * 3 + 1, none⟩ = some (.int .i64 (kAt i).2.1) ∧ W.cell? ⟨0, i * 3 + 2, none⟩ = some (.int .i64 (kAt i).2.2) := by
    intro i hi
    have h1 := hat i hi
    rw [List.getElem?_eq_getElem (by omega), hce] at h1
    obtain ⟨d, hd1, hd2⟩ := laid_at i hi
    have hxi : (xs[i]'(by omega)).1 = d := by
      rw [hx.1] at hd1
      simp only [List.getElem?_map, List.getElem?_eq_getElem (show i < xs.length by omega), Option.map_some, Option.some.injEq] at hd1
      exact hd1
    obtain ⟨c0, c1, c2⟩ := known_row Tryd.underlying83 (by kernel_rfl) Tryd.underlying3 Tryd.underlying3 Tryd.underlying3 (d := (xs[i]'(by omega)).1) (p := (xs[i]'(by omega)).2) h1 (hxi.trans hd2)
    have g0 := get_drop (r := 0) (by omega) c0
    have g1 := get_drop (r := 1) (by omega) c1
    have g2 := get_drop (r := 2) (by omega) c2
    refine ⟨?_, ?_, ?_⟩
    · rw [hcell, ← Array.getElem?_toList]; exact g0
    · rw [hcell, ← Array.getElem?_toList]; exact g1
    · rw [hcell, ← Array.getElem?_toList]; exact g2
  have hr := (tri_range (w := W) (b := 0) (f := fun i => (.int .i64 (kAt i).1, .int .i64 (kAt i).2.1, .int .i64 (kAt i).2.2)) 13 each).2
  exact ⟨hr, World.block_lt_of_cell? W _ (each 0 (by omega)).1⟩

section
variable {H : Type} {enc : TypeId × Value → H} {P : Program} {W : World}
theorem open_raw {r : Reach} {b0 : Nat} {t e : TypeId} {f0 f1 f2 : Field} {v : Value} {d : DataW H} {p : List MemPlace} (hs : P.underlying t = some (.struct #[f0, f1, f2])) (hone : oneCellFields P #[f0, f1, f2] = true) (hC : P.cellsOf t = 3)
    (k0 : P.underlying f0.type = some (.int .i64)) (k1 : P.underlying f1.type = some (.int .i64)) (k2 : P.underlying f2.type = some (.slice e)) (he : P.underlying e = some (.int .u8)) (hce : P.cellsOf e = 1) (hby : P.bytesOf e = 1) (hv : Value.okWide P W r b0 t v)
    (h : DataW.Trod enc P W 0 (fun _ => true) true t v d p) {ts : List TypeId} {ds : List (DataW H)} (hsz : (DataW.weightsEach P ts ds).all (· ≤ reachBytes) = true) {j : Nat} (htj : ts[j]? = some t) (hdj : ds[j]? = some d) :
    ∃ f k a len cap l, v = .agg #[.int .i64 f, .int .i64 k, .slice a len cap] ∧ Rd W W.heap.size a len l ∧ len ≤ 140737488351232 := by
  obtain ⟨v0, v1, v2, y0, y1, y2, n, rfl, rfl, rfl, h0, h1, h2⟩ := open_agg3 hs hone hC hv h
  obtain ⟨f, e0, _, wf⟩ := DataW.trod_int k0 h0
  obtain ⟨k, e1, _, wk⟩ := DataW.trod_int k1 h1
  obtain ⟨a, len, cap, l, rfl, hr, hlc, hw⟩ := trod_bytes k2 he hce h2
  have e0' : v0 = .int .i64 f := by injection e0
  have e1' : v1 = .int .i64 k := by injection e1
  subst e0' e1'
  refine ⟨f, k, a, len, cap, l, rfl, hr, ?_⟩
  rcases hw with rfl | ⟨es, sp, hx, hle⟩
  · omega
  · have hb := List.all_eq_true.1 hsz _ (DataW.weights_mem_each htj hdj ((es.length + sp.length) * P.bytesOf e) (by simp [DataW.weights, DataW.weightsEach, hs, k2, hx]))
    rw [hby] at hb
    simp [reachBytes] at hb
    omega
end
end Go.Proofs.YtickcfcncpnaiaaDoor
