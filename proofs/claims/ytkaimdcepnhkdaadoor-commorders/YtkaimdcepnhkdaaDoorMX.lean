/-
  Put together: AdX ComX.
-/
import Derived.Test.YtkaimdcepnhkdaaDoorMD
import Derived.Test.YtkaimdcepnhkdaaDoorRows
import Derived.HandedShaped
import Derived.ProofKit
import Derived.Lay
import Derived.Shelf.Vars
import Derived.Lib.LaidU8
import Derived.Stop.LaidErr
namespace Go.Proofs.YtkaimdcepnhkdaaDoor
open Go.RowKit Go.ChangeShapes Go.WideShapes Go.ChangeAt
set_option linter.unusedVariables false
set_option maxRecDepth 100000

/-- A row that lists variables, its world's shape kept. -/
theorem wrap_rows {H : Type} {enc : TypeId × Value → H} {a : Assume} {C : Checked} {os : Os} {f : FuncId} {fn : Func} {s : ChangeSpec} {conds : List PathCond} {apart fresh handsOn again : Bool} {X : World → Array Value → Prop}
    (hX : ∀ (w w' : World) (args : Array Value), w.heap = w'.heap → X w args → X w' args)
    (own : ownKnob C.prog.godebug = none) (started : os.Started) (noInit : C.prog.inits.idxOf? f = none) (hfn : C.prog.funcs[f]? = some fn)
    (witness : ∃ (w : World) (tape : Tape) (i : Input), w.os = os ∧ (w.forCall tape i).Shaped C.prog ∧ i.vars = [] ∧ Input.okWide C.prog (w.forCall tape i) .any w.heap.size f i ∧
      ((s.pre enc C.prog fn conds apart (w.forCall tape i).memory i.args ∧ X (w.forCall tape i).memory i.args) ∧ sizedMet enc C.prog fn (OpenSpec.ofChange s) apart (w.forCall tape i).memory i.args) ∧ a.holds C.prog (lone (Frame.enter C.prog f i.args .normal) [] (w.forCall tape i)))
    (walk : ∀ (W : World) (base : Nat) (args : Array Value) (ds gs : List (DataW H)) (before : List MemPlace),
      (∀ (j : Nat) t v, fn.params[j]? = some t → args[j]? = some v → Value.okWide C.prog W .any base t v) →
      DataW.Whole enc C.prog fn.params.toList s.vars apart W args.toList ds gs before →
      (DataW.weightsEach C.prog (fn.params.toList ++ s.plain.varTypes C.prog) (ds ++ gs)).all (· ≤ reachBytes) = true → X W args → W.ShapedOpen C.prog →
      Calls C.prog f args W fun e W' => ∃ v, e = .returned v ∧ s.post enc C.prog fn apart fresh handsOn again W args v W') :
    ReturnsInHanded a C os f .any (fun w args => (s.pre enc C.prog fn conds apart w args ∧ X w args) ∧ sizedMet enc C.prog fn (OpenSpec.ofChange s) apart w args) (s.post enc C.prog fn apart fresh handsOn again) := by
  refine returnsInHanded_of_calls own started noInit witness ?_
  rintro w tape i _ shape _ ⟨_, _, _, g, hg, _, _, _, _, vals⟩ ⟨⟨⟨ds, gs, before, hw, hc⟩, hx⟩, hz⟩ _
  obtain rfl : g = fn := Option.some.inj (hg.symm.trans hfn)
  refine (walk (w.forCall tape i) w.heap.size i.args ds gs before vals (DataW.Whole.of_heap (w' := w.forCall tape i) (by rfl) hw) (hz.weights hw) (hX _ _ _ (by rfl) hx) shape).mono ?_
  rintro e W' ⟨v, rfl, hp⟩
  exact ChangeSpec.post_blind hp

def laidL : List (String × DataW Unit) := [("math/bits.deBruijn32tab", Rows.laid_math_bits_deBruijn32tab), ("math/bits.deBruijn64tab", Rows.laid_math_bits_deBruijn64tab), ("internal/strconv.uint64pow10", Rows.laid_internal_strconv_uint64pow10), ("unicode/utf8.acceptRanges", Rows.laid_unicode_utf8_acceptRanges), ("unicode/utf8.first", Rows.laid_unicode_utf8_first)]

theorem env_of {W : World} (h : W.ShapedOpen Tryd.prog) (hL : laidMet Tryd.prog laidL W) : Env W := by
  have hL1 := laidMet.tail hL
  have hL2 := laidMet.tail hL1
  refine ⟨cell_of_shapedOpen_int (g := 0) (t := 3) (zero := #[.int .i64 0]) h (Nat.le_of_ble_eq_true (by kernel_rfl)) (by kernel_rfl) rfl (by kernel_rfl) (by kernel_rfl) Tryd.underlying3, ?_, ?_, ?_⟩
  · have hT : Lib.TabIs Tryd.prog W "internal/strconv.uint64pow10" .u64 Lib.pow10Tab := Lib.tabIs_of_head (g := 1) (t := 199) (e := 100) (n := 20) (by kernel_rfl) (by kernel_rfl) (by kernel_rfl) (by kernel_rfl) (by kernel_rfl) (by kernel_rfl) (show laidMet Tryd.prog (("internal/strconv.uint64pow10", Lib.tabData .u64 Lib.pow10Tab) :: _) W from hL2)
    unfold Lib.TabIs World.var? at hT
    rw [show Tryd.prog.globalNamed "internal/strconv.uint64pow10" = some 1 by kernel_rfl] at hT
    simp only [Option.bind_some] at hT
    cases hh : W.heap[1]? with
    | none => rw [hh] at hT; cases hT
    | some o =>
      rw [hh] at hT
      cases o <;> first | (cases hT; done) | skip
      rename_i c t z
      simp only [Option.some.injEq] at hT
      exact ⟨t, z, by rw [hT]⟩
  · have hT : Lib.TabIs Tryd.prog W "math/bits.deBruijn64tab" .u8 (Lib.deBruijn64tab.map fun (n : Nat) => (n : Int)) := Lib.tabIs_of_head (g := 3) (t := 209) (e := 5) (n := 64) (by kernel_rfl) (by kernel_rfl) (by kernel_rfl) (by kernel_rfl) (by kernel_rfl) (by kernel_rfl) (show laidMet Tryd.prog (("math/bits.deBruijn64tab", Lib.tabData .u8 (Lib.deBruijn64tab.map fun (n : Nat) => (n : Int))) :: _) W from hL1)
    intro j hj
    have h2 := hT.cell (g := 3) (by kernel_rfl) j (by simpa using hj)
    rw [h2]
    simp [List.getD, hj]
  · have hsome : (((begin Tryd.prog (fun _ _ => 0) default).world.heap[5]?).bind Obj.row?).isSome = true := by kernel_rfl
    obtain ⟨⟨z, t⟩, hz⟩ := Option.isSome_iff_exists.1 hsome
    obtain ⟨cs, hh, _⟩ := h.1 5 z t (Nat.le_of_ble_eq_true (by kernel_rfl)) hz
    by_cases hlt : 5 < W.heap.size
    · omega
    · rw [Array.getElem?_eq_none (by omega)] at hh; cases hh

theorem u8_cells : ∀ (l : List Value), (∀ v ∈ l, ∃ z : Int, v = .int .u8 z ∧ 0 ≤ z ∧ z < 256) → ∃ zs : List Int, l = u8s zs ∧ Oct zs
  | [], _ => ⟨[], rfl, fun x h => by cases h⟩
  | v :: l, h => by
    obtain ⟨z, rfl, h0, h1⟩ := h v List.mem_cons_self
    obtain ⟨zs, rfl, ho⟩ := u8_cells l (fun u hu => h u (List.mem_cons_of_mem _ hu))
    exact ⟨z :: zs, rfl, fun x hx => by
      rcases List.mem_cons.1 hx with rfl | hx
      · exact ⟨h0, h1⟩
      · exact ho x hx⟩
theorem okw_byte {W : World} {r : Reach} {base : Nat} {v : Value} (h : Cell.okWide Tryd.prog W r base 5 v) : ∃ z : Int, v = .int .u8 z ∧ 0 ≤ z ∧ z < 256 := by
  unfold Cell.okWide Cell.ok at h
  rw [Tryd.underlying5] at h
  cases v <;> simp at h
  case int k n =>
    obtain ⟨rfl, h⟩ := h
    simp [IntKind.has, IntKind.min, IntKind.max, IntKind.signed, IntKind.bits] at h
    exact ⟨n, rfl, by omega, by omega⟩
theorem okw_int {W : World} {r : Reach} {base : Nat} {v : Value} (h : Cell.okWide Tryd.prog W r base 3 v) : ∃ z : Int, v = .int .i64 z ∧ I64 z := by
  unfold Cell.okWide Cell.ok at h
  rw [Tryd.underlying3] at h
  cases v <;> simp at h
  case int k n =>
    obtain ⟨rfl, h⟩ := h
    simp [IntKind.has, IntKind.min, IntKind.max, IntKind.signed, IntKind.bits] at h
    exact ⟨n, rfl, by unfold I64; omega⟩
theorem okw_bool {W : World} {r : Reach} {base : Nat} {v : Value} (h : Cell.okWide Tryd.prog W r base 4 v) : ∃ b : Bool, v = .bool b := by
  unfold Cell.okWide Cell.ok at h
  rw [Tryd.underlying4] at h
  cases v <;> simp at h
  case bool b => exact ⟨b, rfl⟩
/-- An array of bytes, by value. -/
theorem open_arr8 {W : World} {r : Reach} {base : Nat} {t : TypeId} {v : Value} (n : Nat) (hu : Tryd.prog.underlying t = some (.array n 5)) (hc : Tryd.prog.cellsOf t = n) (ht : Tryd.prog.cellTypes Tryd.prog.depth t = some (List.replicate n 5))
    (h : Value.okWide Tryd.prog W r base t v) : ∃ l : List Int, v = .agg (u8s l).toArray ∧ l.length = n ∧ Oct l := by
  unfold Value.okWide at h
  rw [hu] at h
  obtain ⟨⟨cs⟩, rfl, hs, ts, hts, _, hall⟩ := h
  obtain rfl := Option.some.inj (ht.symm.trans hts)
  have hs' : cs.length = n := hs.trans hc
  obtain ⟨zs, rfl, ho⟩ := u8_cells cs (fun v hv => by
    obtain ⟨i, hi, rfl⟩ := List.mem_iff_getElem.1 hv
    obtain ⟨u, hu, hk⟩ := hall i cs[i] (by simp [hi])
    rw [List.length_replicate, Nat.mod_eq_of_lt (by omega)] at hu
    rw [List.getElem?_replicate] at hu
    split at hu
    · cases hu; exact okw_byte hk
    · cases hu)
  exact ⟨zs, rfl, by simpa using hs', ho⟩
theorem open_ip {W : World} {r : Reach} {base : Nat} {v : Value} (h : Value.okWide Tryd.prog W r base 24 v) : ∃ (b : Bool) (l : List Int), v = .agg (ipc b l).toArray ∧ l.length = 16 ∧ Oct l := by
  unfold Value.okWide at h
  rw [Tryd.underlying24] at h
  obtain ⟨⟨cs⟩, rfl, hs, ts, hts, _, hall⟩ := h
  have ht : Tryd.prog.cellTypes Tryd.prog.depth 24 = some (4 :: List.replicate 16 5) := by kernel_rfl
  obtain rfl := Option.some.inj (ht.symm.trans hts)
  have hs' : cs.length = 17 := hs.trans (by kernel_rfl)
  cases cs with
  | nil => cases hs'
  | cons c cs =>
    obtain ⟨u, hu, hk⟩ := hall 0 c rfl
    obtain ⟨b, rfl⟩ := okw_bool (by cases hu; exact hk)
    have hs2 : cs.length = 16 := by simpa using hs'
    obtain ⟨zs, rfl, ho⟩ := u8_cells cs (fun v hv => by
      obtain ⟨i, hi, rfl⟩ := List.mem_iff_getElem.1 hv
      obtain ⟨u, hu, hk⟩ := hall (i + 1) cs[i] (by simp [hi])
      rw [show ((4 : TypeId) :: List.replicate 16 5).length = 17 from rfl, Nat.mod_eq_of_lt (by omega), List.getElem?_cons_succ, List.getElem?_replicate] at hu
      split at hu
      · cases hu; exact okw_byte hk
      · cases hu)
    exact ⟨b, zs, rfl, by simpa using hs2, ho⟩
theorem open_pf {W : World} {r : Reach} {base : Nat} {v : Value} (h : Value.okWide Tryd.prog W r base 40 v) : ∃ (b : Bool) (l : List Int) (n : Int), v = .agg (pfc b l n).toArray ∧ l.length = 16 ∧ Oct l ∧ I64 n := by
  unfold Value.okWide at h
  rw [Tryd.underlying40] at h
  obtain ⟨⟨cs⟩, rfl, hs, ts, hts, _, hall⟩ := h
  have ht : Tryd.prog.cellTypes Tryd.prog.depth 40 = some (4 :: (List.replicate 16 5 ++ [3])) := by kernel_rfl
  obtain rfl := Option.some.inj (ht.symm.trans hts)
  have hs' : cs.length = 18 := hs.trans (by kernel_rfl)
  cases cs with
  | nil => cases hs'
  | cons c cs =>
    obtain ⟨u, hu, hk⟩ := hall 0 c rfl
    obtain ⟨b, rfl⟩ := okw_bool (by cases hu; exact hk)
    have hs2 : cs.length = 17 := by simpa using hs'
    obtain ⟨zs, hz, ho⟩ := u8_cells (cs.take 16) (fun v hv => by
      obtain ⟨i, hi, rfl⟩ := List.mem_iff_getElem.1 hv
      have hi' : i < 16 := by rw [List.length_take] at hi; omega
      obtain ⟨u, hu, hk⟩ := hall (i + 1) (cs.take 16)[i] (by simp [show i < cs.length by omega])
      rw [show ((4 : TypeId) :: (List.replicate 16 5 ++ [3])).length = 18 from rfl, Nat.mod_eq_of_lt (by omega), List.getElem?_cons_succ, List.getElem?_append_left (by simpa using hi'), List.getElem?_replicate, if_pos hi'] at hu
      cases hu
      exact okw_byte hk)
    obtain ⟨u, hu, hk⟩ := hall 17 cs[16] (by simp [show 16 < cs.length by omega])
    obtain ⟨n, hn, hi⟩ := okw_int (by cases hu; exact hk)
    have hcs : cs = u8s zs ++ [.int .i64 n] := by
      rw [← hz, ← hn]
      have := List.take_append_drop 16 cs
      rw [List.drop_eq_getElem_cons (show 16 < cs.length by omega), List.drop_eq_nil_of_le (by omega)] at this
      exact this.symm
    refine ⟨b, zs, n, by rw [hcs], ?_, ho, hi⟩
    have := congrArg List.length hz
    rw [List.length_take, List.length_map] at this
    omega
end Go.Proofs.YtkaimdcepnhkdaaDoor
namespace Go.Proofs.YtkaimdcepnhkdaaDoor
open Go.RowKit Go.ChangeShapes Go.WideShapes Go.ChangeAt
set_option linter.unusedVariables false
set_option maxRecDepth 100000

def laidL3 : List (String × DataW Unit) := [("math/bits.deBruijn32tab", Rows.laid_math_bits_deBruijn32tab), ("math/bits.deBruijn64tab", Rows.laid_math_bits_deBruijn64tab), ("internal/strconv.uint64pow10", Rows.laid_internal_strconv_uint64pow10)]
theorem env_of3 {W : World} (h : W.ShapedOpen Tryd.prog) (hL : laidMet Tryd.prog laidL3 W) : Env W := by
  have hL1 := laidMet.tail hL
  have hL2 := laidMet.tail hL1
  refine ⟨cell_of_shapedOpen_int (g := 0) (t := 3) (zero := #[.int .i64 0]) h (Nat.le_of_ble_eq_true (by kernel_rfl)) (by kernel_rfl) rfl (by kernel_rfl) (by kernel_rfl) Tryd.underlying3, ?_, ?_, ?_⟩
  · have hT : Lib.TabIs Tryd.prog W "internal/strconv.uint64pow10" .u64 Lib.pow10Tab := Lib.tabIs_of_head (g := 1) (t := 199) (e := 100) (n := 20) (by kernel_rfl) (by kernel_rfl) (by kernel_rfl) (by kernel_rfl) (by kernel_rfl) (by kernel_rfl) (show laidMet Tryd.prog (("internal/strconv.uint64pow10", Lib.tabData .u64 Lib.pow10Tab) :: _) W from hL2)
    unfold Lib.TabIs World.var? at hT
    rw [show Tryd.prog.globalNamed "internal/strconv.uint64pow10" = some 1 by kernel_rfl] at hT
    simp only [Option.bind_some] at hT
    cases hh : W.heap[1]? with
    | none => rw [hh] at hT; cases hT
    | some o =>
      rw [hh] at hT
      cases o <;> first | (cases hT; done) | skip
      rename_i c t z
      simp only [Option.some.injEq] at hT
      exact ⟨t, z, by rw [hT]⟩
  · have hT : Lib.TabIs Tryd.prog W "math/bits.deBruijn64tab" .u8 (Lib.deBruijn64tab.map fun (n : Nat) => (n : Int)) := Lib.tabIs_of_head (g := 3) (t := 209) (e := 5) (n := 64) (by kernel_rfl) (by kernel_rfl) (by kernel_rfl) (by kernel_rfl) (by kernel_rfl) (by kernel_rfl) (show laidMet Tryd.prog (("math/bits.deBruijn64tab", Lib.tabData .u8 (Lib.deBruijn64tab.map fun (n : Nat) => (n : Int))) :: _) W from hL1)
    intro j hj
    have h2 := hT.cell (g := 3) (by kernel_rfl) j (by simpa using hj)
    rw [h2]
    simp [List.getD, hj]
  · have hsome : (((begin Tryd.prog (fun _ _ => 0) default).world.heap[5]?).bind Obj.row?).isSome = true := by kernel_rfl
    obtain ⟨⟨z, t⟩, hz⟩ := Option.isSome_iff_exists.1 hsome
    obtain ⟨cs, hh, _⟩ := h.1 5 z t (Nat.le_of_ble_eq_true (by kernel_rfl)) hz
    by_cases hlt : 5 < W.heap.size
    · omega
    · rw [Array.getElem?_eq_none (by omega)] at hh; cases hh

end Go.Proofs.YtkaimdcepnhkdaaDoor
