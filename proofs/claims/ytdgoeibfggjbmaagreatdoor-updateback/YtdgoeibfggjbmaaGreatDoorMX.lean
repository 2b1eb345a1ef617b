/-
  Put together: Frame FrW FrameM Wrap AtX.
-/
import Derived.Test.YtdgoeibfggjbmaaGreatDoorMO
import Derived.WalkKit
import Derived.ProofKit
import Derived.OpenShut
import Derived.ChangeOld
import Derived.SizedLaws
import Derived.Deep.Slices
import Derived.Deep.Fields
import Derived.ChangeSame
import Derived.Lib.SmallJoins
import Derived.HandedShaped
import Derived.Lay
import Derived.Test.YtdgoeibfggjbmaaGreatDoorMT
import Derived.Test.YtdgoeibfggjbmaaGreatDoorRows
import Derived.Lib.LaidU8
import Derived.Deep.Strs
namespace Go.Proofs.YtdgoeibfggjbmaaGreatDoor
open Go.RowKit Go.ChangeShapes Go.WideShapes Go.Deep
set_option maxRecDepth 100000

section
variable {H : Type} {enc : TypeId × Value → H} {P : Program} {W : World}

theorem lt_of_cell {w : World} {a : Addr} {v : Value} (h : w.cell? a = some v) : a.block < w.heap.size := by
  rcases Nat.lt_or_ge a.block w.heap.size with h1 | h1
  · exact h1
  · simp [World.cell?, Array.getElem?_eq_none h1] at h

theorem addr_add (b off i : Nat) : (⟨b, off, none⟩ : Addr).add i = ⟨b, off + i, none⟩ := by unfold Addr.add; split <;> simp_all

end
end Go.Proofs.YtdgoeibfggjbmaaGreatDoor
namespace Go.Proofs.YtdgoeibfggjbmaaGreatDoor
open Go.RowKit
set_option maxRecDepth 100000

structure RdI (w : World) (B : Nat) (A : Option Addr) (n : Nat) (xs : List Int) : Prop where
  len : xs.length = n
  at_ : 0 < n → ∃ b off, A = some ⟨b, off, none⟩ ∧ b < B ∧ ∀ i, i < n → w.cell? ⟨b, off + i, none⟩ = some (.int .i64 (xs.getD i 0))
theorem RdI.below {w w' : World} {B n : Nat} {A : Option Addr} {xs : List Int} (h : RdI w B A n xs) (hb : Below B w w') : RdI w' B A n xs :=
  ⟨h.len, fun hn => by
    obtain ⟨b, off, e, hlt, hc⟩ := h.at_ hn
    exact ⟨b, off, e, hlt, fun i hi => (hb.cell (p := ⟨b, off + i, none⟩) hlt).trans (hc i hi)⟩⟩


structure RdB (w : World) (B : Nat) (A : Option Addr) (n : Nat) (ls : List (List Int)) : Prop where
  len : ls.length = n
  at_ : 0 < n → ∃ b off, A = some ⟨b, off, none⟩ ∧ b < B ∧ ∀ i (h : i < ls.length), ∃ A1 n1 c1, w.cell? ⟨b, off + i, none⟩ = some (.slice A1 n1 c1) ∧ Rd w B A1 n1 ls[i] ∧ n1 ≤ c1
theorem RdB.below {w w' : World} {B n : Nat} {A : Option Addr} {ls : List (List Int)} (h : RdB w B A n ls) (hb : Below B w w') : RdB w' B A n ls :=
  ⟨h.len, fun hn => by
    obtain ⟨b, off, e, hlt, hc⟩ := h.at_ hn
    refine ⟨b, off, e, hlt, fun i hi => ?_⟩
    obtain ⟨A1, n1, c1, h1, h2, h3⟩ := hc i hi
    exact ⟨A1, n1, c1, (hb.cell (p := ⟨b, off + i, none⟩) hlt).trans h1, h2.below hb, h3⟩⟩
end Go.Proofs.YtdgoeibfggjbmaaGreatDoor
namespace Go.Proofs.YtdgoeibfggjbmaaGreatDoor
open Go.RowKit Go.ChangeShapes Go.WideShapes Go.Deep Go.Joins
set_option maxRecDepth 100000

section
variable {H : Type} {enc : TypeId × Value → H} {P : Program} {W : World}

end
end Go.Proofs.YtdgoeibfggjbmaaGreatDoor
namespace Go.Proofs.YtdgoeibfggjbmaaGreatDoor
open Go.RowKit Go.ChangeShapes Go.WideShapes Go.ChangeAt
set_option maxRecDepth 100000
set_option linter.unusedVariables false

theorem wrap_rows {H : Type} {enc : TypeId × Value → H} {a : Assume} {C : Checked} {os : Os} {f : FuncId} {fn : Func} {s : ChangeSpec} {conds : List PathCond} {apart fresh handsOn again : Bool} {X : World → Array Value → Prop}
    (hX : ∀ (w w' : World) (args : Array Value), w.heap = w'.heap → X w args → X w' args)
    (own : ownKnob C.prog.godebug = none) (started : os.Started) (noInit : C.prog.inits.idxOf? f = none) (hfn : C.prog.funcs[f]? = some fn)
    (witness : ∃ (w : World) (tape : Tape) (i : Input), w.os = os ∧ (w.forCall tape i).Shaped C.prog ∧ i.vars = [] ∧ Input.okWide C.prog (w.forCall tape i) .any w.heap.size f i ∧
      ((s.pre enc C.prog fn conds apart (w.forCall tape i).memory i.args ∧ X (w.forCall tape i).memory i.args) ∧ sizedMet enc C.prog fn (OpenSpec.ofChange s) apart (w.forCall tape i).memory i.args) ∧ a.holds C.prog (lone (Frame.enter C.prog f i.args .normal) [] (w.forCall tape i)))
    (walk : ∀ (W : World) (base : Nat) (args : Array Value) (ds gs : List (DataW H)) (before : List MemPlace),
      (∀ (j : Nat) t v, fn.params[j]? = some t → args[j]? = some v → Value.okWide C.prog W .any base t v) →
      DataW.Whole enc C.prog fn.params.toList s.vars apart W args.toList ds gs before →
      (DataW.weightsEach C.prog (fn.params.toList ++ s.plain.varTypes C.prog) (ds ++ gs)).all (· ≤ reachBytes) = true → X W args → W.ShapedOpen C.prog →
      Calls C.prog f args W fun e W' => ∃ v, e = .returned v ∧ s.post enc C.prog fn apart fresh handsOn again W args v W') :
    ReturnsInHanded a C os f .any (fun w args => (s.pre enc C.prog fn conds apart w args ∧ X w args) ∧ sizedMet enc C.prog fn (OpenSpec.ofChange s) apart w args) (s.post enc C.prog fn apart fresh handsOn again) := by
  refine returnsInHanded_of_calls own started noInit witness ?_
  rintro w tape i _ shape _ ⟨_, _, _, g, hg, _, _, _, _, vals⟩ ⟨⟨⟨ds, gs, before, hw, hc⟩, hx⟩, hz⟩ _
  obtain rfl : g = fn := Option.some.inj (hg.symm.trans hfn)
  refine (walk (w.forCall tape i) w.heap.size i.args ds gs before vals (DataW.Whole.of_heap (w' := w.forCall tape i) (by rfl) hw) (hz.weights hw) (hX _ _ _ (by rfl) hx) shape).mono ?_
  rintro e W' ⟨v, rfl, hp⟩
  exact ChangeSpec.post_blind hp

end Go.Proofs.YtdgoeibfggjbmaaGreatDoor
namespace Go.Proofs.YtdgoeibfggjbmaaGreatDoor
open Go.RowKit Go.ChangeShapes Go.WideShapes Go.ChangeAt Go.Deep Go.Joins
set_option maxRecDepth 100000
set_option linter.unusedVariables false

def laidK : List (String × DataW Unit) := [("weft/attr.known", Rows.laid_weft_attr_known)]
theorem get_drop {cs : List Value} {a k r : Nat} {v : Value} (hr : r < k) (h : ((cs.drop a).take k)[r]? = some v) : cs[a + r]? = some v := by
  rw [List.getElem?_take, if_pos hr, List.getElem?_drop] at h
  exact h
theorem known_row {W : World} {fuel : Nat} {cs : List Value} {d : DataW Unit} {p : List MemPlace} {a b c : Int} {f0 f1 f2 : Field} (he : Tryz.prog.underlying 217 = some (.struct #[f0, f1, f2])) (o : (f0.offset, f1.offset, f2.offset, Tryz.prog.cellsOf f0.type, Tryz.prog.cellsOf f1.type, Tryz.prog.cellsOf f2.type) = (0, 1, 2, 1, 1, 1))
    (k0 : Tryz.prog.underlying f0.type = some (.int .i64)) (k1 : Tryz.prog.underlying f1.type = some (.int .i64)) (k2 : Tryz.prog.underlying f2.type = some (.int .i64))
    (h : DataW.trod (fun _ => ()) Tryz.prog W 0 (fun _ => true) false fuel 217 cs = some (d, p)) (hd : d = .agg [.lit (.int .i64 a), .lit (.int .i64 b), .lit (.int .i64 c)]) : cs[0]? = some (.int .i64 a) ∧ cs[1]? = some (.int .i64 b) ∧ cs[2]? = some (.int .i64 c) := by
  simp only [Prod.mk.injEq] at o
  obtain ⟨o0, o1, o2, o3, o4, o5⟩ := o
  obtain ⟨y0, y1, y2, n, hx, hl, h0, h1, h2⟩ := trod_struct3 he h
  rw [o0, o3] at h0
  rw [o1, o4] at h1
  rw [o2, o5] at h2
  obtain ⟨z0, e0, e0', _⟩ := DataW.trod_int k0 h0
  obtain ⟨z1, e1, e1', _⟩ := DataW.trod_int k1 h1
  obtain ⟨z2, e2, e2', _⟩ := DataW.trod_int k2 h2
  simp only [Prod.mk.injEq] at hx
  rw [hx.1, e0', e1', e2'] at hd
  simp only [DataW.agg.injEq, List.cons.injEq, DataW.lit.injEq, Lit.int.injEq, true_and, and_true] at hd
  obtain ⟨rfl, rfl, rfl⟩ := hd
  refine ⟨?_, ?_, ?_⟩
  · have := get_drop (cs := cs) (a := 0) (k := 1) (r := 0) (v := .int .i64 z0) (by omega) (by rw [e0]; rfl); simpa using this
  · have := get_drop (cs := cs) (a := 1) (k := 1) (r := 0) (v := .int .i64 z1) (by omega) (by rw [e1]; rfl); simpa using this
  · have := get_drop (cs := cs) (a := 2) (k := 1) (r := 0) (v := .int .i64 z2) (by omega) (by rw [e2]; rfl); simpa using this
theorem tri_range {w : World} {b : Nat} {f : Nat → Value × Value × Value} : ∀ n, (∀ i, i < n → w.cell? ⟨b, i * 3, none⟩ = some (f i).1 ∧ w.cell? ⟨b, i * 3 + 1, none⟩ = some (f i).2.1 ∧ w.cell? ⟨b, i * 3 + 2, none⟩ = some (f i).2.2) → ((List.range n).flatMap fun i => [(f i).1, (f i).2.1, (f i).2.2]).length = n * 3 ∧ w.rangeAt b 0 ((List.range n).flatMap fun i => [(f i).1, (f i).2.1, (f i).2.2])
  | 0, _ => ⟨rfl, fun j v hv => by simp at hv⟩
  | n + 1, h => by
    obtain ⟨hl, ih⟩ := tri_range n (fun i hi => h i (by omega))
    obtain ⟨h0, h1, h2⟩ := h n (by omega)
    rw [List.range_succ, List.flatMap_append]
    refine ⟨by rw [List.length_append, hl]; simp; omega, fun j v hv => ?_⟩
    rcases Nat.lt_or_ge j (n * 3) with hj | hj
    · rw [List.getElem?_append_left (by omega)] at hv
      exact ih j v hv
    · rw [List.getElem?_append_right (by omega), hl] at hv
      simp only [List.flatMap_cons, List.flatMap_nil, List.append_nil] at hv
      obtain ⟨r, rfl⟩ : ∃ r, j = n * 3 + r := ⟨j - n * 3, by omega⟩
      rw [Nat.add_sub_cancel_left] at hv
      match r, hv with
      | 0, hv => injection hv with hv; subst hv; simpa using h0
      | 1, hv => injection hv with hv; subst hv; simpa using h1
      | 2, hv => injection hv with hv; subst hv; simpa using h2
      | r + 3, hv => simp at hv
theorem laid_at : ∀ i, i < 13 → ∃ d, (match (Rows.laid_weft_attr_known : DataW Unit) with | .agg l => l[i]? | _ => none) = some d ∧ d = .agg [.lit (.int .i64 (kAt i).1), .lit (.int .i64 (kAt i).2.1), .lit (.int .i64 (kAt i).2.2)]
  | 0, _ => ⟨_, rfl, rfl⟩ | 1, _ => ⟨_, rfl, rfl⟩ | 2, _ => ⟨_, rfl, rfl⟩ | 3, _ => ⟨_, rfl, rfl⟩ | 4, _ => ⟨_, rfl, rfl⟩ | 5, _ => ⟨_, rfl, rfl⟩ | 6, _ => ⟨_, rfl, rfl⟩ | 7, _ => ⟨_, rfl, rfl⟩ | 8, _ => ⟨_, rfl, rfl⟩ | 9, _ => ⟨_, rfl, rfl⟩
  | 10, _ => ⟨_, rfl, rfl⟩ | 11, _ => ⟨_, rfl, rfl⟩ | 12, _ => ⟨_, rfl, rfl⟩ | i + 13, h => absurd h (by omega)
theorem envK_of {W : World} (hL : laidMet Tryz.prog laidK W) : EnvK W := by
  obtain ⟨ps, ⟨g', t', cs, fuel, p, q, hg', ht', hvar, hd, _, _⟩, _⟩ := hL
  obtain rfl : g' = 0 := (Option.some.inj ((show Tryz.prog.globalNamed "weft/attr.known" = some 0 by kernel_rfl).symm.trans hg')).symm
  obtain rfl : t' = 247 := (Option.some.inj ((show (Tryz.prog.globals[0]?).map (·.type) = some 247 by kernel_rfl).symm.trans ht')).symm
  have hcell := fun i => World.var?_cell hg' hvar i
  obtain ⟨xs, m, hf, hx, hl, hxl, hat⟩ := DataW.trod_array Tryz.underlying247 hd
  simp only [Prod.mk.injEq] at hx
  have hce : Tryz.prog.cellsOf 217 = 3 := by kernel_rfl
  have each : ∀ i, i < 13 → W.cell? ⟨0, i * 3, none⟩ = some (.int .i64 (kAt i).1) ∧ W.cell? ⟨0, i * 3 + 1, none⟩ = some (.int .i64 (kAt i).2.1) ∧ W.cell? ⟨0, i * 3 + 2, none⟩ = some (.int .i64 (kAt i).2.2) := by
    intro i hi
    have h1 := hat i hi
    rw [List.getElem?_eq_getElem (by omega), hce] at h1
    obtain ⟨d, hd1, hd2⟩ := laid_at i hi
    have hxi : (xs[i]'(by omega)).1 = d := by
      rw [hx.1] at hd1
      simp only [List.getElem?_map, List.getElem?_eq_getElem (show i < xs.length by omega), Option.map_some, Option.some.injEq] at hd1
      exact hd1
    obtain ⟨c0, c1, c2⟩ := known_row Tryz.underlying217 (by kernel_rfl) Tryz.underlying3 Tryz.underlying3 Tryz.underlying3 (d := (xs[i]'(by omega)).1) (p := (xs[i]'(by omega)).2) h1 (hxi.trans hd2)
    have g0 := get_drop (r := 0) (by omega) c0
    have g1 := get_drop (r := 1) (by omega) c1
    have g2 := get_drop (r := 2) (by omega) c2
    refine ⟨?_, ?_, ?_⟩
    · rw [hcell, ← Array.getElem?_toList]; exact g0
    · rw [hcell, ← Array.getElem?_toList]; exact g1
    · rw [hcell, ← Array.getElem?_toList]; exact g2
  have hr := (tri_range (w := W) (b := 0) (f := fun i => (.int .i64 (kAt i).1, .int .i64 (kAt i).2.1, .int .i64 (kAt i).2.2)) 13 each).2
  exact ⟨hr, World.block_lt_of_cell? W _ (each 0 (by omega)).1⟩

section
variable {H : Type} {enc : TypeId × Value → H} {P : Program} {W : World}
end
end Go.Proofs.YtdgoeibfggjbmaaGreatDoor
