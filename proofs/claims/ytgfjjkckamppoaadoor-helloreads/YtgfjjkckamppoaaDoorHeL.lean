/-
  Layer 8: hellos and terms compared; alike.
-/
import Derived.Test.YtgfjjkckamppoaaDoorHeJ
import Derived.Test.YtgfjjkckamppoaaDoorHeK
import Derived.Test.YtgfjjkckamppoaaDoorOctG
namespace Go.Proofs.YtgfjjkckamppoaaDoor
open Go.RowKit
set_option maxRecDepth 100000
set_option linter.unusedSimpArgs false
set_option linter.unusedVariables false

theorem u32_wf8 {n : Int} (h : 0 ≤ n ∧ n < 4294967296) : (Lit.int .u32 n).wf = true := by
  simp [Lit.wf, IntKind.min, IntKind.max, IntKind.signed, IntKind.bits]; omega
theorem i64_wf8 {n : Int} (h : -9223372036854775808 ≤ n ∧ n < 9223372036854775808) : (Lit.int .i64 n).wf = true := by
  simp [Lit.wf, IntKind.min, IntKind.max, IntKind.signed, IntKind.bits]; omega
def hll (h : Hl) : List Lit := [.int .u32 h.as_, .int .i64 h.hold, .int .u32 h.id_, .bool h.ev, .bool h.wd, .bool h.rf]
set_option maxHeartbeats 1000000 in
theorem h_lits (h : Hl) (k : HlOk h) : Tryd.prog.keyLits 3 24 (hlc h) = some (hll h) := by
  have c1 : Tryd.prog.cellsOf 24 = 6 := by kernel_rfl
  have c2 : Tryd.prog.cellsOf 22 = 1 := by kernel_rfl
  have c3 : Tryd.prog.cellsOf 3 = 1 := by kernel_rfl
  have c4 : Tryd.prog.cellsOf 4 = 1 := by kernel_rfl
  have ku : ∀ n, 0 ≤ n ∧ n < 4294967296 → Tryd.prog.keyLits 2 22 [Value.int .u32 n] = some [Lit.int .u32 n] := fun n hn => by
    unfold Program.keyLits
    rw [Tryd.underlying22]
    simp [u32_wf8 hn]
  have ki : ∀ n, -9223372036854775808 ≤ n ∧ n < 9223372036854775808 → Tryd.prog.keyLits 2 3 [Value.int .i64 n] = some [Lit.int .i64 n] := fun n hn => by
    unfold Program.keyLits
    rw [Tryd.underlying3]
    simp [i64_wf8 hn]
  have kb : ∀ b, Tryd.prog.keyLits 2 4 [Value.bool b] = some [Lit.bool b] := fun b => by
    unfold Program.keyLits
    rw [Tryd.underlying4]
  unfold Program.keyLits
  rw [Tryd.underlying24]
  simp [hlc, hll, c1, c2, c3, c4, List.mapM_cons, List.mapM_nil, ku _ k.as_, ku _ k.id_, ki _ k.hold, kb]
theorem h_formed (h : Hl) : (Value.agg (hlc h).toArray).formed Tryd.prog 24 = true := by kernel_rfl
theorem hll_inj {h g : Hl} (e : hll h = hll g) : h = g := by
  obtain ⟨a, b, c, d, f, i⟩ := h
  obtain ⟨a', b', c', d', f', i'⟩ := g
  simp only [hll, List.cons.injEq, Lit.int.injEq, Lit.bool.injEq, true_and, and_true] at e
  obtain ⟨rfl, rfl, rfl, rfl, rfl, rfl⟩ := e
  rfl
theorem h_eql (h g : Hl) (kh : HlOk h) (kg : HlOk g) (b : Bool) (hb : b = true ↔ h = g) (w : World) : (binOp .eql 24 (.agg (hlc h).toArray) (.agg (hlc g).toArray)).run Tryd.prog w = .ok (.bool b) w :=
  run_eql_key 3 3 3 (by kernel_rfl) (by omega) _ _ _ _ (h_formed h) (h_formed g) (h_lits h kh) (h_lits g kg) b (hb.trans ⟨fun e => by rw [e], hll_inj⟩) w
theorem h_neq (h g : Hl) (kh : HlOk h) (kg : HlOk g) (b : Bool) (hb : b = true ↔ h = g) (w : World) : (binOp .neq 24 (.agg (hlc h).toArray) (.agg (hlc g).toArray)).run Tryd.prog w = .ok (.bool (!b)) w :=
  run_neq_key 3 3 3 (by kernel_rfl) (by omega) _ _ _ _ (h_formed h) (h_formed g) (h_lits h kh) (h_lits g kg) b (hb.trans ⟨fun e => by rw [e], hll_inj⟩) w
structure TmOk (t : Tm) : Prop where
  as_ : 0 ≤ t.as_ ∧ t.as_ < 4294967296
  id_ : 0 ≤ t.id_ ∧ t.id_ < 4294967296
  hold : -9223372036854775808 ≤ t.hold ∧ t.hold < 9223372036854775808
  keep : -9223372036854775808 ≤ t.keep ∧ t.keep < 9223372036854775808
def tml (t : Tm) : List Lit := [.int .u32 t.as_, .int .u32 t.id_, .int .i64 t.hold, .int .i64 t.keep, .bool t.rf]
set_option maxHeartbeats 1000000 in
theorem t_lits (t : Tm) (k : TmOk t) : Tryd.prog.keyLits 3 40 (tmc t) = some (tml t) := by
  have c1 : Tryd.prog.cellsOf 40 = 5 := by kernel_rfl
  have c2 : Tryd.prog.cellsOf 22 = 1 := by kernel_rfl
  have c3 : Tryd.prog.cellsOf 3 = 1 := by kernel_rfl
  have c4 : Tryd.prog.cellsOf 4 = 1 := by kernel_rfl
  have ku : ∀ n, 0 ≤ n ∧ n < 4294967296 → Tryd.prog.keyLits 2 22 [Value.int .u32 n] = some [Lit.int .u32 n] := fun n hn => by
    unfold Program.keyLits
    rw [Tryd.underlying22]
    simp [u32_wf8 hn]
  have ki : ∀ n, -9223372036854775808 ≤ n ∧ n < 9223372036854775808 → Tryd.prog.keyLits 2 3 [Value.int .i64 n] = some [Lit.int .i64 n] := fun n hn => by
    unfold Program.keyLits
    rw [Tryd.underlying3]
    simp [i64_wf8 hn]
  have kb : ∀ b, Tryd.prog.keyLits 2 4 [Value.bool b] = some [Lit.bool b] := fun b => by
    unfold Program.keyLits
    rw [Tryd.underlying4]
  unfold Program.keyLits
  rw [Tryd.underlying40]
  simp [tmc, tml, c1, c2, c3, c4, List.mapM_cons, List.mapM_nil, ku _ k.as_, ku _ k.id_, ki _ k.hold, ki _ k.keep, kb]
theorem t_formed (t : Tm) : (Value.agg (tmc t).toArray).formed Tryd.prog 40 = true := by kernel_rfl
theorem tml_inj {h g : Tm} (e : tml h = tml g) : h = g := by
  obtain ⟨a, b, c, d, f⟩ := h
  obtain ⟨a', b', c', d', f'⟩ := g
  simp only [tml, List.cons.injEq, Lit.int.injEq, Lit.bool.injEq, true_and, and_true] at e
  obtain ⟨rfl, rfl, rfl, rfl, rfl⟩ := e
  rfl
theorem t_eql (h g : Tm) (kh : TmOk h) (kg : TmOk g) (b : Bool) (hb : b = true ↔ h = g) (w : World) : (binOp .eql 40 (.agg (tmc h).toArray) (.agg (tmc g).toArray)).run Tryd.prog w = .ok (.bool b) w :=
  run_eql_key 3 3 3 (by kernel_rfl) (by omega) _ _ _ _ (t_formed h) (t_formed g) (t_lits h kh) (t_lits g kg) b (hb.trans ⟨fun e => by rw [e], tml_inj⟩) w

set_option maxHeartbeats 1000000 in
theorem alike_is (w : World) (c1 s1 c2 s2 : Int) (A1 A2 : Option Addr) (n1 n2 k1 k2 : Nat) (l1 l2 : List Int) (h1 : Rd w w.heap.size A1 n1 l1) (h2 : Rd w w.heap.size A2 n2 l2) (r : Bool) (hr : decide (c1 = c2 ∧ s1 = s2 ∧ l1 = l2) = r) :
    Calls Tryd.prog 17 #[.agg #[.int .i64 c1, .int .i64 s1, .slice A1 n1 k1], .agg #[.int .i64 c2, .int .i64 s2, .slice A2 n2 k2]] w fun e w' => e = .returned (.bool r) ∧ Below w.heap.size w w' := by
  have hB := (below_one8 w (.cells #[.int .i64 c1, .int .i64 s1, .slice A1 n1 k1] 34)).trans ((below_one8 (w.alloc (.cells #[.int .i64 c1, .int .i64 s1, .slice A1 n1 k1] 34)) (.cells #[.int .i64 c2, .int .i64 s2, .slice A2 n2 k2] 34)).mono (below_one8 _ _).size)
  have HB := Lib.hid hB
  have H1 := Lib.hid (h1.below hB)
  have H2 := Lib.hid (h2.below hB)
  clear hB h1 h2
  by_cases hc : c1 = c2
  case neg =>
    have e1 : (c1 == c2) = false := by simpa using hc
    have HR : Hid (r = false) := Lib.hid (by rw [← hr]; exact decide_eq_false (fun h => hc h.1))
    clear hc hr
    go_enter Tryd.func17, Tryd.ntmps17
    go_wp2
    go_ret
    exact ⟨by rw [HR.out]; rfl, HB.out⟩
  have e1 : (c1 == c2) = true := by simpa using hc
  by_cases hs : s1 = s2
  case neg =>
    have e2 : (s1 == s2) = false := by simpa using hs
    have HR : Hid (r = false) := Lib.hid (by rw [← hr]; exact decide_eq_false (fun h => hs h.2.1))
    clear hc hr hs
    go_enter Tryd.func17, Tryd.ntmps17
    go_wp2
    go_ret
    exact ⟨by rw [HR.out]; rfl, HB.out⟩
  have e2 : (s1 == s2) = true := by simpa using hs
  have HS := Lib.hid (fun W (k1 : Rd W w.heap.size A1 n1 l1) (k2 : Rd W w.heap.size A2 n2 l2) c c' => same_is W w.heap.size A1 A2 n1 n2 c c' l1 l2 k1 k2 r (by rw [← hr]; simp [hc, hs]))
  clear hc hr hs
  go_enter Tryd.func17, Tryd.ntmps17
  go_wp2_with fail
  refine (HS.out _ H1.out H2.out _ _).mono ?_
  rintro e w' ⟨rfl, rfl⟩
  go_wp2
  go_ret
  exact ⟨rfl, HB.out⟩
end Go.Proofs.YtgfjjkckamppoaaDoor
