/-
  What each row of layer 8 needs round its walk: the family's bytes as they lie when the call begins; hellos and faults as arguments.
-/
import Derived.Test.YtgfjjkckamppoaaDoorHeA
import Derived.Test.YtgfjjkckamppoaaDoorRows
import Derived.Test.YtgfjjkckamppoaaDoorWrap
import Derived.Test.YtgfjjkckamppoaaDoorFrameM
import Derived.OpenShut
import Derived.ChangeOld
import Derived.Lib.SmallJoins
import Derived.Lib.LaidU8
import Derived.Deep.Strs
namespace Go.Proofs.YtgfjjkckamppoaaDoor
open Go.RowKit Go.ChangeShapes Go.WideShapes Go.ChangeAt Go.Deep Go.Joins
set_option maxRecDepth 100000
set_option linter.unusedVariables false

def laidF : List (String × DataW Unit) := [("weft/hello.family", Rows.laid_weft_hello_family)]
theorem laid_fam : ∀ i, i < 4 → (match (Rows.laid_weft_hello_family : DataW Unit) with | .agg l => l[i]? | _ => none) = some (.lit (.int .u8 (fam.getD i 0)))
  | 0, _ => rfl | 1, _ => rfl | 2, _ => rfl | 3, _ => rfl | i + 4, h => absurd h (by omega)
theorem get_drop8 {cs : List Value} {a k r : Nat} {v : Value} (hr : r < k) (h : ((cs.drop a).take k)[r]? = some v) : cs[a + r]? = some v := by
  rw [List.getElem?_take, if_pos hr, List.getElem?_drop] at h
  exact h
theorem envF_of {W : World} (hL : laidMet Tryd.prog laidF W) : EnvF W := by
  obtain ⟨ps, ⟨g', t', cs, fuel, p, q, hg', ht', hvar, hd, _, _⟩, _⟩ := hL
  obtain rfl : g' = 0 := (Option.some.inj ((show Tryd.prog.globalNamed "weft/hello.family" = some 0 by kernel_rfl).symm.trans hg')).symm
  obtain rfl : t' = 85 := (Option.some.inj ((show (Tryd.prog.globals[0]?).map (·.type) = some 85 by kernel_rfl).symm.trans ht')).symm
  have hcell := fun i => World.var?_cell hg' hvar i
  obtain ⟨xs, m, hf, hx, hl, hxl, hat⟩ := DataW.trod_array Tryd.underlying85 hd
  simp only [Prod.mk.injEq] at hx
  have hce : Tryd.prog.cellsOf 5 = 1 := by kernel_rfl
  have each : ∀ i, i < 4 → W.cell? ⟨0, i, none⟩ = some (.int .u8 (fam.getD i 0)) := by
    intro i hi
    have h1 := hat i hi
    rw [List.getElem?_eq_getElem (by omega), hce, Nat.mul_one] at h1
    have hd1 := laid_fam i hi
    have hxi : (xs[i]'(by omega)).1 = .lit (.int .u8 (fam.getD i 0)) := by
      rw [hx.1] at hd1
      simp only [List.getElem?_map, List.getElem?_eq_getElem (show i < xs.length by omega), Option.map_some, Option.some.injEq] at hd1
      exact hd1
    obtain ⟨z, e0, e0', _⟩ := DataW.trod_int Tryd.underlying5 h1
    rw [e0'] at hxi
    injection hxi with hxi
    injection hxi with _ hxi
    subst hxi
    have g0 := get_drop8 (cs := cs.toList) (a := i) (k := 1) (r := 0) (by omega) (by rw [e0]; rfl)
    rw [hcell, ← Array.getElem?_toList]
    exact g0
  refine ⟨?_, World.block_lt_of_cell? W _ (each 0 (by omega))⟩
  intro j v hv
  rw [Nat.zero_add]
  match j, hv with
  | 0, hv => injection hv with hv; subst hv; exact each 0 (by omega)
  | 1, hv => injection hv with hv; subst hv; exact each 1 (by omega)
  | 2, hv => injection hv with hv; subst hv; exact each 2 (by omega)
  | 3, hv => injection hv with hv; subst hv; exact each 3 (by omega)
  | j + 4, hv => simp at hv

section
variable {H : Type} {enc : TypeId × Value → H} {P : Program} {W : World}
theorem trod_u32h {fuel : Nat} {cs : List Value} {x : DataW H × List MemPlace} (h : DataW.trod enc Tryd.prog W 0 (fun _ => true) true fuel 22 cs = some x) : ∃ n, cs = [.int .u32 n] ∧ (0 ≤ n ∧ n < 4294967296) := by
  obtain ⟨n, e, _, hw⟩ := DataW.trod_int Tryd.underlying22 h
  refine ⟨n, e, ?_⟩
  simp [Lit.wf, IntKind.min, IntKind.max, IntKind.signed, IntKind.bits] at hw
  exact ⟨by omega, by omega⟩
theorem trod_i64h {fuel : Nat} {cs : List Value} {x : DataW H × List MemPlace} (h : DataW.trod enc Tryd.prog W 0 (fun _ => true) true fuel 3 cs = some x) : ∃ n, cs = [.int .i64 n] ∧ (-9223372036854775808 ≤ n ∧ n < 9223372036854775808) := by
  obtain ⟨n, e, _, hw⟩ := DataW.trod_int Tryd.underlying3 h
  exact ⟨n, e, wf_i64 hw⟩
theorem part_ofh {P : Program} {fs : Array Field} {cs : List Value} {xs : List (DataW H × List MemPlace)} {n : Nat} (hl : xs.length = fs.size) (h : ∀ (i : Nat) (f : Field), fs[i]? = some f → DataW.trod enc P W 0 (fun _ => true) true n f.type ((cs.drop f.offset).take (P.cellsOf f.type)) = xs[i]?)
    (i : Nat) (f : Field) (hf : fs[i]? = some f) : ∃ y, DataW.trod enc P W 0 (fun _ => true) true n f.type ((cs.drop f.offset).take (P.cellsOf f.type)) = some y := by
  have hi := (Array.getElem?_eq_some_iff.1 hf).1
  exact ⟨xs[i], by rw [h i f hf, List.getElem?_eq_getElem]⟩
theorem trod_hl {fuel : Nat} {cs : List Value} {x : DataW H × List MemPlace} (h : DataW.trod enc Tryd.prog W 0 (fun _ => true) true fuel 24 cs = some x) : ∃ r, cs = hlc r ∧ HlOk r := by
  obtain ⟨xs, m, _, _, hl, hxl, hat⟩ := DataW.trod_struct Tryd.underlying24 h
  have hl : cs.length = 6 := hl.trans (by kernel_rfl)
  obtain ⟨_, h0⟩ := part_ofh hxl hat 0 _ rfl
  obtain ⟨_, h1⟩ := part_ofh hxl hat 1 _ rfl
  obtain ⟨_, h2⟩ := part_ofh hxl hat 2 _ rfl
  obtain ⟨_, h3⟩ := part_ofh hxl hat 3 _ rfl
  obtain ⟨_, h4⟩ := part_ofh hxl hat 4 _ rfl
  obtain ⟨_, h5⟩ := part_ofh hxl hat 5 _ rfl
  obtain ⟨a, e0, ha⟩ := trod_u32h h0
  obtain ⟨o, e1, ho⟩ := trod_i64h h1
  obtain ⟨i, e2, hi⟩ := trod_u32h h2
  obtain ⟨b3, e3, _⟩ := DataW.trod_bool Tryd.underlying4 h3
  obtain ⟨b4, e4, _⟩ := DataW.trod_bool Tryd.underlying4 h4
  obtain ⟨b5, e5, _⟩ := DataW.trod_bool Tryd.underlying4 h5
  have e0 : (cs.drop 0).take 1 = [.int .u32 a] := e0
  have e1 : (cs.drop 1).take 1 = [.int .i64 o] := e1
  have e2 : (cs.drop 2).take 1 = [.int .u32 i] := e2
  have e3 : (cs.drop 3).take 1 = [.bool b3] := e3
  have e4 : (cs.drop 4).take 1 = [.bool b4] := e4
  have e5 : (cs.drop 5).take 1 = [.bool b5] := e5
  refine ⟨⟨a, o, i, b3, b4, b5⟩, ?_, ⟨ha, ho, hi⟩⟩
  match cs, hl with
  | [v0, v1, v2, v3, v4, v5], _ =>
    simp only [List.drop_zero, List.drop_succ_cons, List.take_succ_cons, List.take_zero, List.cons.injEq, and_true] at e0 e1 e2 e3 e4 e5
    rw [e0, e1, e2, e3, e4, e5]
    rfl
theorem open_hl {r : Reach} {b0 : Nat} {v : Value} {d : DataW H} {p : List MemPlace} (hv : Value.okWide Tryd.prog W r b0 24 v) (h : DataW.Trod enc Tryd.prog W 0 (fun _ => true) true 24 v d p) : ∃ x, v = .agg (hlc x).toArray ∧ HlOk x := by
  unfold Value.okWide at hv
  rw [Tryd.underlying24] at hv
  obtain ⟨⟨cs⟩, rfl, _⟩ := hv
  obtain ⟨fuel, hf⟩ := h
  obtain ⟨x, hx, hk⟩ := trod_hl hf
  have hx2 : cs = hlc x := by simpa [Value.cells] using hx
  exact ⟨x, by rw [hx2], hk⟩
theorem open_ft {r : Reach} {b0 : Nat} {t e : TypeId} {f0 f1 f2 : Field} {v : Value} {d : DataW H} {p : List MemPlace} (hs : P.underlying t = some (.struct #[f0, f1, f2])) (hone : oneCellFields P #[f0, f1, f2] = true) (hC : P.cellsOf t = 3)
    (k0 : P.underlying f0.type = some (.int .i64)) (k1 : P.underlying f1.type = some (.int .i64)) (k2 : P.underlying f2.type = some (.slice e)) (he : P.underlying e = some (.int .u8)) (hce : P.cellsOf e = 1) (hby : P.bytesOf e = 1) (hv : Value.okWide P W r b0 t v)
    (h : DataW.Trod enc P W 0 (fun _ => true) true t v d p) {ts : List TypeId} {ds : List (DataW H)} (hsz : (DataW.weightsEach P ts ds).all (· ≤ reachBytes) = true) {j : Nat} (htj : ts[j]? = some t) (hdj : ds[j]? = some d) :
    ∃ f k a len cap l, v = .agg #[.int .i64 f, .int .i64 k, .slice a len cap] ∧ Rd W W.heap.size a len l ∧ len ≤ 140737488351232 := by
  obtain ⟨v0, v1, v2, y0, y1, y2, n, rfl, rfl, rfl, h0, h1, h2⟩ := open_agg3 hs hone hC hv h
  obtain ⟨f, e0, _, wf⟩ := DataW.trod_int k0 h0
  obtain ⟨k, e1, _, wk⟩ := DataW.trod_int k1 h1
  obtain ⟨a, len, cap, l, rfl, hr, hlc, hw⟩ := trod_bytes k2 he hce h2
  have e0' : v0 = .int .i64 f := by injection e0
  have e1' : v1 = .int .i64 k := by injection e1
  subst e0' e1'
  refine ⟨f, k, a, len, cap, l, rfl, hr, ?_⟩
  rcases hw with rfl | ⟨es, sp, hx, hle⟩
  · omega
  · have hb := List.all_eq_true.1 hsz _ (DataW.weights_mem_each htj hdj ((es.length + sp.length) * P.bytesOf e) (by simp [DataW.weights, DataW.weightsEach, hs, k2, hx]))
    rw [hby] at hb
    simp [reachBytes] at hb
    omega
end
end Go.Proofs.YtgfjjkckamppoaaDoor
