/-
  Put together: FrameU AtY AxB NlU UsE.
-/
import Derived.Test.YtdgoeibfggjbmaaGreatDoorRows
import Derived.Test.YtdgoeibfggjbmaaGreatDoorMX
import Derived.Test.YtdgoeibfggjbmaaGreatDoorMC
import Derived.OpenShut
import Derived.ChangeOld
import Derived.Test.YtdgoeibfggjbmaaGreatDoorMNM
import Derived.Test.YtdgoeibfggjbmaaGreatDoorMQA
namespace Go.Proofs.YtdgoeibfggjbmaaGreatDoor
open Go.RowKit Go.ChangeShapes Go.WideShapes Go.Deep Go.Joins
set_option maxRecDepth 100000

section
variable {H : Type} {enc : TypeId × Value → H} {P : Program} {W : World}
end
end Go.Proofs.YtdgoeibfggjbmaaGreatDoor
namespace Go.Proofs.YtdgoeibfggjbmaaGreatDoor
open Go.RowKit Go.ChangeShapes Go.WideShapes Go.ChangeAt Go.Deep Go.Joins
set_option maxRecDepth 100000
set_option linter.unusedVariables false

section
variable {H : Type} {enc : TypeId × Value → H} {P : Program} {W : World}
end
end Go.Proofs.YtdgoeibfggjbmaaGreatDoor
namespace Go.Proofs.YtdgoeibfggjbmaaGreatDoor
open Go.RowKit Go.ChangeShapes Go.WideShapes Go.ChangeAt Go.Deep Go.Joins
set_option maxRecDepth 100000
set_option linter.unusedVariables false

section
variable {H : Type} {enc : TypeId × Value → H} {W : World}
theorem lt_of_cell5 {w : World} {a : Addr} {v : Value} (h : w.cell? a = some v) : a.block < w.heap.size := by
  rcases Nat.lt_or_ge a.block w.heap.size with h1 | h1
  · exact h1
  · simp [World.cell?, Array.getElem?_eq_none h1] at h
theorem trod_u8s5 {P : Program} {t e : TypeId} {n fuel : Nat} {cs : List Value} {x : DataW H × List MemPlace} (ht : P.underlying t = some (.array n e)) (he : P.underlying e = some (.int .u8)) (hce : P.cellsOf e = 1) (hct : P.cellsOf t = n)
    (h : DataW.trod enc P W 0 (fun _ => true) true fuel t cs = some x) : ∃ l, cs = u8s l ∧ l.length = n ∧ Oct l := by
  obtain ⟨xs, m, hf, hx, hl, hxl, hat⟩ := DataW.trod_array ht h
  rw [hct] at hl
  have each : ∀ i, i < n → ∃ z : Int, cs[i]? = some (.int .u8 z) ∧ 0 ≤ z ∧ z < 256 := by
    intro i hi
    have h1 := hat i hi
    rw [List.getElem?_eq_getElem (by omega)] at h1
    rw [hce, Nat.mul_one] at h1
    obtain ⟨z, hz, _, hw⟩ := DataW.trod_int he h1
    refine ⟨z, ?_, ?_⟩
    · have h2 : ((cs.drop i).take 1)[0]? = some (.int .u8 z) := by rw [hz]; rfl
      simpa using h2
    · simp [Lit.wf, IntKind.min, IntKind.max, IntKind.signed, IntKind.bits] at hw
      omega
  refine ⟨cs.map fun v => match v with | .int _ z => z | _ => 0, ?_, by simp [hl], ?_⟩
  · apply List.ext_getElem?
    intro i
    rcases Nat.lt_or_ge i n with hi | hi
    · obtain ⟨z, hz, _⟩ := each i hi
      simp [u8s, hz]
    · rw [List.getElem?_eq_none (by omega), List.getElem?_eq_none (by simp [u8s]; omega)]
  · intro z hz
    obtain ⟨v, hv, rfl⟩ := List.mem_map.1 hz
    obtain ⟨i, hi, hiv⟩ := List.mem_iff_getElem.1 hv
    obtain ⟨z, hz, h0, h1⟩ := each i (by omega)
    rw [List.getElem?_eq_getElem hi, hiv] at hz
    cases hz
    exact ⟨h0, h1⟩
theorem trod_u325 {fuel : Nat} {cs : List Value} {x : DataW H × List MemPlace} (h : DataW.trod enc Tryz.prog W 0 (fun _ => true) true fuel 23 cs = some x) : ∃ n, cs = [.int .u32 n] ∧ 0 ≤ n ∧ n ≤ 4294967295 := by
  obtain ⟨n, e, _, hw⟩ := DataW.trod_int Tryz.underlying23 h
  refine ⟨n, e, ?_⟩
  simp [Lit.wf, IntKind.min, IntKind.max, IntKind.signed, IntKind.bits] at hw
  exact ⟨by omega, by omega⟩
theorem trod_i645 {fuel : Nat} {cs : List Value} {x : DataW H × List MemPlace} (h : DataW.trod enc Tryz.prog W 0 (fun _ => true) true fuel 3 cs = some x) : ∃ n, cs = [.int .i64 n] := by
  obtain ⟨n, e, _, hw⟩ := DataW.trod_int Tryz.underlying3 h
  exact ⟨n, e⟩
theorem part_of5 {P : Program} {fs : Array Field} {cs : List Value} {xs : List (DataW H × List MemPlace)} {n : Nat} (hl : xs.length = fs.size) (h : ∀ (i : Nat) (f : Field), fs[i]? = some f → DataW.trod enc P W 0 (fun _ => true) true n f.type ((cs.drop f.offset).take (P.cellsOf f.type)) = xs[i]?)
    (i : Nat) (f : Field) (hf : fs[i]? = some f) : ∃ y ∈ xs, DataW.trod enc P W 0 (fun _ => true) true n f.type ((cs.drop f.offset).take (P.cellsOf f.type)) = some y := by
  have hi := (Array.getElem?_eq_some_iff.1 hf).1
  exact ⟨xs[i], List.getElem_mem _, by rw [h i f hf, List.getElem?_eq_getElem]⟩
theorem drop_split5 (cs : List Value) (o n : Nat) : cs.drop o = (cs.drop o).take n ++ cs.drop (o + n) := by rw [← List.drop_drop, List.take_append_drop]
theorem trod_ip5 {fuel : Nat} {cs : List Value} {x : DataW H × List MemPlace} (h : DataW.trod enc Tryz.prog W 0 (fun _ => true) true fuel 27 cs = some x) : ∃ v l, cs = ipc v l ∧ l.length = 16 ∧ Oct l := by
  obtain ⟨xs, n, _, _, hl, hxl, hat⟩ := DataW.trod_struct Tryz.underlying27 h
  have hl : cs.length = 17 := hl.trans (by kernel_rfl)
  obtain ⟨_, _, h0⟩ := part_of5 hxl hat 0 _ rfl
  obtain ⟨_, _, h1⟩ := part_of5 hxl hat 1 _ rfl
  obtain ⟨v, e0, _⟩ := DataW.trod_bool Tryz.underlying4 h0
  obtain ⟨l, e1, hll, ho⟩ := trod_u8s5 Tryz.underlying25 Tryz.underlying5 (by kernel_rfl) (by kernel_rfl) h1
  have e0 : (cs.drop 0).take 1 = [.bool v] := e0
  have e1 : (cs.drop 1).take 16 = u8s l := e1
  refine ⟨v, l, ?_, hll, ho⟩
  have a0 := drop_split5 cs 0 1
  have a1 := drop_split5 cs 1 16
  rw [e0] at a0
  have z : cs.drop (1 + 16) = [] := List.drop_of_length_le (by omega)
  rw [e1, z, List.append_nil] at a1
  rw [List.drop_zero, Nat.zero_add, a1] at a0
  exact a0
theorem trod_pm5 {fuel : Nat} {cs : List Value} {x : DataW H × List MemPlace} (h : DataW.trod enc Tryz.prog W 0 (fun _ => true) true fuel 29 cs = some x) : ∃ p : Pm, cs = pmc p ∧ (0 ≤ p.label ∧ p.label ≤ 4294967295) ∧ p.ip.length = 16 ∧ Oct p.ip := by
  obtain ⟨xs, m, _, _, hl, hxl, hat⟩ := DataW.trod_struct Tryz.underlying29 h
  have hl : cs.length = 19 := hl.trans (by kernel_rfl)
  obtain ⟨_, _, h0⟩ := part_of5 hxl hat 0 _ rfl
  obtain ⟨_, _, h1⟩ := part_of5 hxl hat 1 _ rfl
  obtain ⟨_, _, h2⟩ := part_of5 hxl hat 2 _ rfl
  obtain ⟨k, e0⟩ := trod_i645 h0
  obtain ⟨lb, e1, hlb⟩ := trod_u325 h1
  obtain ⟨v, l, e2, hll, ho⟩ := trod_ip5 h2
  have e0 : (cs.drop 0).take 1 = [.int .i64 k] := e0
  have e1 : (cs.drop 1).take 1 = [.int .u32 lb] := e1
  have e2 : (cs.drop 2).take 17 = ipc v l := e2
  refine ⟨⟨k, lb, v, l⟩, ?_, hlb, hll, ho⟩
  have a0 := drop_split5 cs 0 1
  have a1 := drop_split5 cs 1 1
  have a2 := drop_split5 cs 2 17
  have z : cs.drop (2 + 17) = [] := List.drop_of_length_le (by omega)
  rw [e0] at a0
  rw [e1] at a1
  rw [e2, z, List.append_nil] at a2
  rw [List.drop_zero] at a0
  rw [a0]
  show _ ++ cs.drop 1 = _
  rw [a1]
  show _ ++ (_ ++ cs.drop 2) = _
  rw [a2]
  rfl
end
end Go.Proofs.YtdgoeibfggjbmaaGreatDoor
namespace Go.Proofs.YtdgoeibfggjbmaaGreatDoor
open Go.RowKit Go.ChangeShapes Go.WideShapes Go.Deep
set_option maxRecDepth 100000
set_option linter.unusedVariables false

section
variable {H : Type} {enc : TypeId × Value → H} {W : World}
theorem lt_of_cellN {w : World} {a : Addr} {v : Value} (h : w.cell? a = some v) : a.block < w.heap.size := by
  rcases Nat.lt_or_ge a.block w.heap.size with h1 | h1
  · exact h1
  · simp [World.cell?, Array.getElem?_eq_none h1] at h
theorem trod_u8sN {P : Program} {t e : TypeId} {n fuel : Nat} {cs : List Value} {x : DataW H × List MemPlace} (ht : P.underlying t = some (.array n e)) (he : P.underlying e = some (.int .u8)) (hce : P.cellsOf e = 1) (hct : P.cellsOf t = n)
    (h : DataW.trod enc P W 0 (fun _ => true) true fuel t cs = some x) : ∃ l, cs = u8s l ∧ l.length = n ∧ Oct l := by
  obtain ⟨xs, m, hf, hx, hl, hxl, hat⟩ := DataW.trod_array ht h
  rw [hct] at hl
  have each : ∀ i, i < n → ∃ z : Int, cs[i]? = some (.int .u8 z) ∧ 0 ≤ z ∧ z < 256 := by
    intro i hi
    have h1 := hat i hi
    rw [List.getElem?_eq_getElem (by omega)] at h1
    rw [hce, Nat.mul_one] at h1
    obtain ⟨z, hz, _, hw⟩ := DataW.trod_int he h1
    refine ⟨z, ?_, ?_⟩
    · have h2 : ((cs.drop i).take 1)[0]? = some (.int .u8 z) := by rw [hz]; rfl
      simpa using h2
    · simp [Lit.wf, IntKind.min, IntKind.max, IntKind.signed, IntKind.bits] at hw
      omega
  refine ⟨cs.map fun v => match v with | .int _ z => z | _ => 0, ?_, by simp [hl], ?_⟩
  · apply List.ext_getElem?
    intro i
    rcases Nat.lt_or_ge i n with hi | hi
    · obtain ⟨z, hz, _⟩ := each i hi
      simp [u8s, hz]
    · rw [List.getElem?_eq_none (by omega), List.getElem?_eq_none (by simp [u8s]; omega)]
  · intro z hz
    obtain ⟨v, hv, rfl⟩ := List.mem_map.1 hz
    obtain ⟨i, hi, hiv⟩ := List.mem_iff_getElem.1 hv
    obtain ⟨z, hz, h0, h1⟩ := each i (by omega)
    rw [List.getElem?_eq_getElem hi, hiv] at hz
    cases hz
    exact ⟨h0, h1⟩
theorem trod_u32 {fuel : Nat} {cs : List Value} {x : DataW H × List MemPlace} (h : DataW.trod enc Tryz.prog W 0 (fun _ => true) true fuel 23 cs = some x) : ∃ n, cs = [.int .u32 n] ∧ U32 n := by
  obtain ⟨n, e, _, hw⟩ := DataW.trod_int Tryz.underlying23 h
  refine ⟨n, e, ?_⟩
  simp [Lit.wf, IntKind.min, IntKind.max, IntKind.signed, IntKind.bits] at hw
  exact ⟨by omega, by omega⟩
theorem trod_i64 {fuel : Nat} {cs : List Value} {x : DataW H × List MemPlace} (h : DataW.trod enc Tryz.prog W 0 (fun _ => true) true fuel 3 cs = some x) : ∃ n, cs = [.int .i64 n] ∧ I64 n := by
  obtain ⟨n, e, _, hw⟩ := DataW.trod_int Tryz.underlying3 h
  exact ⟨n, e, wf_i64 hw⟩
theorem part_of {P : Program} {fs : Array Field} {cs : List Value} {xs : List (DataW H × List MemPlace)} {n : Nat} (hl : xs.length = fs.size) (h : ∀ (i : Nat) (f : Field), fs[i]? = some f → DataW.trod enc P W 0 (fun _ => true) true n f.type ((cs.drop f.offset).take (P.cellsOf f.type)) = xs[i]?)
    (i : Nat) (f : Field) (hf : fs[i]? = some f) : ∃ y, DataW.trod enc P W 0 (fun _ => true) true n f.type ((cs.drop f.offset).take (P.cellsOf f.type)) = some y := by
  have hi := (Array.getElem?_eq_some_iff.1 hf).1
  exact ⟨xs[i], by rw [h i f hf, List.getElem?_eq_getElem]⟩
theorem drop_split (cs : List Value) (o n : Nat) : cs.drop o = (cs.drop o).take n ++ cs.drop (o + n) := by rw [← List.drop_drop, List.take_append_drop]
theorem trod_ip {fuel : Nat} {cs : List Value} {x : DataW H × List MemPlace} (h : DataW.trod enc Tryz.prog W 0 (fun _ => true) true fuel 27 cs = some x) : ∃ v l, cs = ipc v l ∧ l.length = 16 ∧ Oct l := by
  obtain ⟨xs, n, _, _, hl, hxl, hat⟩ := DataW.trod_struct Tryz.underlying27 h
  have hl : cs.length = 17 := hl.trans (by kernel_rfl)
  obtain ⟨_, h0⟩ := part_of hxl hat 0 _ rfl
  obtain ⟨_, h1⟩ := part_of hxl hat 1 _ rfl
  obtain ⟨v, e0, _⟩ := DataW.trod_bool Tryz.underlying4 h0
  obtain ⟨l, e1, hll, ho⟩ := trod_u8sN Tryz.underlying25 Tryz.underlying5 (by kernel_rfl) (by kernel_rfl) h1
  have e0 : (cs.drop 0).take 1 = [.bool v] := e0
  have e1 : (cs.drop 1).take 16 = u8s l := e1
  refine ⟨v, l, ?_, hll, ho⟩
  have a0 := drop_split cs 0 1
  have a1 := drop_split cs 1 16
  rw [e0] at a0
  have z : cs.drop (1 + 16) = [] := List.drop_of_length_le (by omega)
  rw [e1, z, List.append_nil] at a1
  rw [List.drop_zero, Nat.zero_add, a1] at a0
  exact a0
theorem trod_pf {fuel : Nat} {cs : List Value} {x : DataW H × List MemPlace} (h : DataW.trod enc Tryz.prog W 0 (fun _ => true) true fuel 51 cs = some x) : ∃ v l n, cs = pfc v l n ∧ l.length = 16 ∧ Oct l ∧ I64 n := by
  obtain ⟨xs, m, _, _, hl, hxl, hat⟩ := DataW.trod_struct Tryz.underlying51 h
  have hl : cs.length = 18 := hl.trans (by kernel_rfl)
  obtain ⟨_, h0⟩ := part_of hxl hat 0 _ rfl
  obtain ⟨_, h1⟩ := part_of hxl hat 1 _ rfl
  obtain ⟨v, l, e0, hll, ho⟩ := trod_ip h0
  obtain ⟨n, e1, hn⟩ := trod_i64 h1
  have e0 : (cs.drop 0).take 17 = ipc v l := e0
  have e1 : (cs.drop 17).take 1 = [.int .i64 n] := e1
  refine ⟨v, l, n, ?_, hll, ho, hn⟩
  have a0 := drop_split cs 0 17
  have a1 := drop_split cs 17 1
  rw [e0] at a0
  have z : cs.drop (17 + 1) = [] := List.drop_of_length_le (by omega)
  rw [e1, z, List.append_nil] at a1
  rw [List.drop_zero, Nat.zero_add, a1] at a0
  rw [pfc_app]
  exact a0
theorem trod_rt {fuel : Nat} {cs : List Value} {x : DataW H × List MemPlace} (h : DataW.trod enc Tryz.prog W 0 (fun _ => true) true fuel 53 cs = some x) : ∃ r, cs = rtc r ∧ RtOk r := by
  obtain ⟨xs, m, _, _, hl, hxl, hat⟩ := DataW.trod_struct Tryz.underlying53 h
  have hl : cs.length = 63 := hl.trans (by kernel_rfl)
  obtain ⟨_, h0⟩ := part_of hxl hat 0 _ rfl
  obtain ⟨_, h1⟩ := part_of hxl hat 1 _ rfl
  obtain ⟨_, h2⟩ := part_of hxl hat 2 _ rfl
  obtain ⟨_, h3⟩ := part_of hxl hat 3 _ rfl
  obtain ⟨_, h4⟩ := part_of hxl hat 4 _ rfl
  obtain ⟨_, h5⟩ := part_of hxl hat 5 _ rfl
  obtain ⟨_, h6⟩ := part_of hxl hat 6 _ rfl
  obtain ⟨_, h7⟩ := part_of hxl hat 7 _ rfl
  obtain ⟨_, h8⟩ := part_of hxl hat 8 _ rfl
  obtain ⟨k, e0, hk⟩ := trod_i64 h0
  obtain ⟨rd, e1, lrd, ord⟩ := trod_u8sN Tryz.underlying45 Tryz.underlying5 (by kernel_rfl) (by kernel_rfl) h1
  obtain ⟨es, e2, les, oes⟩ := trod_u8sN Tryz.underlying47 Tryz.underlying5 (by kernel_rfl) (by kernel_rfl) h2
  obtain ⟨tg, e3, htg⟩ := trod_u32 h3
  obtain ⟨mc, e4, lmc, omc⟩ := trod_u8sN Tryz.underlying49 Tryz.underlying5 (by kernel_rfl) (by kernel_rfl) h4
  obtain ⟨v6, pl, pn, e5, lpl, opl, hpn⟩ := trod_pf h5
  obtain ⟨gv, gl, e6, lgl, ogl⟩ := trod_ip h6
  obtain ⟨lb, e7, hlb⟩ := trod_u32 h7
  obtain ⟨l2, e8, hl2⟩ := trod_u32 h8
  have e0 : (cs.drop 0).take 1 = [.int .i64 k] := e0
  have e1 : (cs.drop 1).take 8 = u8s rd := e1
  have e2 : (cs.drop 9).take 10 = u8s es := e2
  have e3 : (cs.drop 19).take 1 = [.int .u32 tg] := e3
  have e4 : (cs.drop 20).take 6 = u8s mc := e4
  have e5 : (cs.drop 26).take 18 = pfc v6 pl pn := e5
  have e6 : (cs.drop 44).take 17 = ipc gv gl := e6
  have e7 : (cs.drop 61).take 1 = [.int .u32 lb] := e7
  have e8 : (cs.drop 62).take 1 = [.int .u32 l2] := e8
  refine ⟨⟨k, rd, es, tg, mc, v6, pl, pn, gv, gl, lb, l2⟩, ?_, ⟨hk, lrd, ord, les, oes, htg, lmc, omc, lpl, opl, hpn, lgl, ogl, hlb, hl2⟩⟩
  have a0 := drop_split cs 0 1
  have a1 := drop_split cs 1 8
  have a2 := drop_split cs 9 10
  have a3 := drop_split cs 19 1
  have a4 := drop_split cs 20 6
  have a5 := drop_split cs 26 18
  have a6 := drop_split cs 44 17
  have a7 := drop_split cs 61 1
  have a8 := drop_split cs 62 1
  rw [e0] at a0
  rw [e1] at a1
  rw [e2] at a2
  rw [e3] at a3
  rw [e4] at a4
  rw [e5] at a5
  rw [e6] at a6
  rw [e7] at a7
  have z : cs.drop (62 + 1) = [] := List.drop_of_length_le (by omega)
  rw [e8, z, List.append_nil] at a8
  rw [List.drop_zero] at a0
  rw [a0]
  show _ ++ cs.drop 1 = _
  rw [a1]
  show _ ++ (_ ++ cs.drop 9) = _
  rw [a2]
  show _ ++ (_ ++ (_ ++ cs.drop 19)) = _
  rw [a3]
  show _ ++ (_ ++ (_ ++ (_ ++ cs.drop 20))) = _
  rw [a4]
  show _ ++ (_ ++ (_ ++ (_ ++ (_ ++ cs.drop 26)))) = _
  rw [a5]
  show _ ++ (_ ++ (_ ++ (_ ++ (_ ++ (_ ++ cs.drop 44))))) = _
  rw [a6]
  show _ ++ (_ ++ (_ ++ (_ ++ (_ ++ (_ ++ (_ ++ cs.drop 61)))))) = _
  rw [a7]
  show _ ++ (_ ++ (_ ++ (_ ++ (_ ++ (_ ++ (_ ++ (_ ++ cs.drop 62))))))) = _
  rw [a8]
  rfl
end
end Go.Proofs.YtdgoeibfggjbmaaGreatDoor
namespace Go.Proofs.YtdgoeibfggjbmaaGreatDoor
open Go.RowKit Go.ChangeShapes Go.WideShapes Go.ChangeAt Go.Deep Go.Joins
set_option maxRecDepth 100000
set_option linter.unusedVariables false

section
variable {H : Type} {enc : TypeId × Value → H} {W : World}
theorem trod_u32sF {fuel : Nat} {cs : List Value} {x : DataW H × List MemPlace} (h : DataW.trod enc Tryz.prog W 0 (fun _ => true) true fuel 22 cs = some x) :
    ∃ A n c l, cs = [.slice A n c] ∧ RdN W W.heap.size A n l ∧ ∀ y ∈ l, 0 ≤ y ∧ y ≤ 4294967295 := by
  rcases open_ints Tryz.underlying22 Tryz.underlying23 (by kernel_rfl) h with ⟨hcs, _⟩ | ⟨x0, l, c, zs, hcs, _, hl, hm, hz, hx, hcell, hwz⟩
  · exact ⟨none, 0, 0, [], hcs, RdN.nil_ _, fun y hy => by cases hy⟩
  · simp only [if_pos] at hz
    refine ⟨some x0, l, c, zs.take l, hcs, ⟨by simp; omega, fun hn => ?_⟩, fun y hy => ?_⟩
    · obtain ⟨b, off, spot⟩ := x0
      have h0 := hcell 0 (by omega)
      have hspot : spot = none := by simpa [Addr.add] using World.cell?_spot h0
      subst hspot
      refine ⟨b, off, rfl, by simpa [Addr.add] using lt_of_cell h0, fun i hi => ?_⟩
      have := hcell i (by omega)
      rw [addr_add] at this
      rw [this]
      simp [List.getD, hi]
    · have := hwz y (List.mem_of_mem_take hy)
      simp [Lit.wf, IntKind.min, IntKind.max, IntKind.signed, IntKind.bits] at this
      omega
theorem trod_commsF {fuel : Nat} {cs : List Value} {x : DataW H × List MemPlace} (h : DataW.trod enc Tryz.prog W 0 (fun _ => true) true fuel 24 cs = some x) :
    ∃ A n c ls, cs = [.slice A n c] ∧ RdC W W.heap.size A n ls := by
  rcases open_slice Tryz.underlying24 h with ⟨hcs, _⟩ | ⟨x0, l, c, m, n, D, Pl, hcs, _, hl, hm, hmm, hx, hi⟩
  · exact ⟨none, 0, 0, [], hcs, ⟨rfl, All8.nil_, fun h => absurd h (by omega)⟩⟩
  · simp only [if_pos] at hmm
    subst hmm
    have hC : Tryz.prog.cellsOf 138 = 8 := by kernel_rfl
    have each : ∀ i, i < l → ∃ y : List Int, (y.length = 8 ∧ Oct y) ∧ ∀ k v, (u8s y)[k]? = some v → W.cell? ((x0.add (i * 8)).add k) = some v := by
      intro i him
      obtain ⟨cs', hc, ht'⟩ := hi i (by omega)
      rw [hC] at hc
      obtain ⟨y, rfl, hy, oy⟩ := trod_u8s5 Tryz.underlying138 Tryz.underlying5 (by kernel_rfl) hC ht'
      obtain ⟨_, hl2, hat⟩ := World.cells?_some hc
      refine ⟨y, ⟨hy, oy⟩, fun k v hv => ?_⟩
      have hk := (List.getElem?_eq_some_iff.1 hv).1
      rw [hat k (by omega)]
      exact hv
    have hch : ∃ ys : List (List Int), ys.length = l ∧ ∀ i (h : i < ys.length), (ys[i].length = 8 ∧ Oct ys[i]) ∧ ∀ k v, (u8s ys[i])[k]? = some v → W.cell? ((x0.add (i * 8)).add k) = some v := by
      refine ⟨(List.range l).attach.map fun i => Classical.choose (each i.1 (List.mem_range.1 i.2)), by simp, fun i hi' => ?_⟩
      have hlt : i < l := by simpa using hi'
      have h1 := Classical.choose_spec (each i hlt)
      have e1 : ((List.range l).attach.map fun i => Classical.choose (each i.1 (List.mem_range.1 i.2)))[i] = Classical.choose (each i hlt) := by simp
      rw [e1]
      exact h1
    obtain ⟨ys, hyl, hys⟩ := hch
    refine ⟨some x0, l, _, ys, hcs, ⟨hyl, fun y hy => ?_, fun hn => ?_⟩⟩
    · obtain ⟨i, hi', rfl⟩ := List.mem_iff_getElem.1 hy
      exact (hys i hi').1
    · obtain ⟨b, off, spot⟩ := x0
      have h0 := hys 0 (by omega)
      have h0c := h0.2 0 (.int .u8 (ys[0].getD 0 0)) (by
        rw [u8s, List.getElem?_map, List.getElem?_eq_getElem (by omega)]
        simp [List.getD, h0.1.1])
      have hspot : spot = none := by simpa [Addr.add] using World.cell?_spot h0c
      subst hspot
      have ea : ∀ i, (⟨b, off, none⟩ : Addr).add i = ⟨b, off + i, none⟩ := fun i => by unfold Addr.add; split <;> simp_all
      have eb : ∀ i k, (⟨b, off + i, none⟩ : Addr).add k = ⟨b, off + i + k, none⟩ := fun i k => by unfold Addr.add; split <;> simp_all
      refine ⟨b, off, rfl, by simpa [Addr.add] using lt_of_cell5 h0c, fun i hi' k v hv => ?_⟩
      have := (hys i hi').2 k v hv
      rw [ea, eb] at this
      exact this
theorem trod_attF {fuel : Nat} {cs : List Value} {x : DataW H × List MemPlace} (h : DataW.trod enc Tryz.prog W 0 (fun _ => true) true fuel 31 cs = some x) :
    ∃ a, RdAt W W.heap.size cs a ∧ AtFits a := by
  obtain ⟨xs, m, _, hx, hl, hxl, hat⟩ := DataW.trod_struct Tryz.underlying31 h
  have hl : cs.length = 27 := hl.trans (by kernel_rfl)
  obtain ⟨_, _, h0⟩ := part_of5 hxl hat 0 _ rfl
  obtain ⟨y1, m1, h1⟩ := part_of5 hxl hat 1 _ rfl
  obtain ⟨_, _, h2⟩ := part_of5 hxl hat 2 _ rfl
  obtain ⟨_, _, h3⟩ := part_of5 hxl hat 3 _ rfl
  obtain ⟨_, _, h4⟩ := part_of5 hxl hat 4 _ rfl
  obtain ⟨_, _, h5⟩ := part_of5 hxl hat 5 _ rfl
  obtain ⟨y6, m6, h6⟩ := part_of5 hxl hat 6 _ rfl
  obtain ⟨y7, m7, h7⟩ := part_of5 hxl hat 7 _ rfl
  obtain ⟨_, _, h8⟩ := part_of5 hxl hat 8 _ rfl
  obtain ⟨og, e0⟩ := trod_i645 h0
  obtain ⟨Ap, np, cp, lp, e1, r1, u1⟩ := trod_u32sF h1
  obtain ⟨hm, e2, _⟩ := DataW.trod_bool Tryz.underlying4 h2
  obtain ⟨med, e3, hmed⟩ := trod_u325 h3
  obtain ⟨pref, e4, hpref⟩ := trod_u325 h4
  obtain ⟨orr, e5, horr⟩ := trod_u325 h5
  obtain ⟨Ac, nc, cc, lc, e6, r6, u6⟩ := trod_u32sF h6
  obtain ⟨Am, nm, cm, lm, e7, r7⟩ := trod_commsF h7
  obtain ⟨pm, e8, hlab, hip, hoct⟩ := trod_pm5 h8
  have e0 : (cs.drop 0).take 1 = [.int .i64 og] := e0
  have e1 : (cs.drop 1).take 1 = [.slice Ap np cp] := e1
  have e2 : (cs.drop 2).take 1 = [.bool hm] := e2
  have e3 : (cs.drop 3).take 1 = [.int .u32 med] := e3
  have e4 : (cs.drop 4).take 1 = [.int .u32 pref] := e4
  have e5 : (cs.drop 5).take 1 = [.int .u32 orr] := e5
  have e6 : (cs.drop 6).take 1 = [.slice Ac nc cc] := e6
  have e7 : (cs.drop 7).take 1 = [.slice Am nm cm] := e7
  have e8 : (cs.drop 8).take 19 = pmc pm := e8
  have q1 := r1.len
  have q6 := r6.len
  have q7 := r7.len
  subst q1 q6 q7
  refine ⟨⟨og, lp, hm, med, pref, orr, lc, lm, pm⟩, ⟨⟨Ap, cp, Ac, cc, Am, cm, ?_, r1, r6, r7⟩⟩, ⟨u1, u6, fun l hl => r7.ok l hl, hmed, hpref, horr, hlab, hip, hoct⟩⟩
  have a0 := drop_split5 cs 0 1
  have a1 := drop_split5 cs 1 1
  have a2 := drop_split5 cs 2 1
  have a3 := drop_split5 cs 3 1
  have a4 := drop_split5 cs 4 1
  have a5 := drop_split5 cs 5 1
  have a6 := drop_split5 cs 6 1
  have a7 := drop_split5 cs 7 1
  have a8 := drop_split5 cs 8 19
  have z : cs.drop (8 + 19) = [] := List.drop_of_length_le (by omega)
  rw [e0] at a0
  rw [e1] at a1
  rw [e2] at a2
  rw [e3] at a3
  rw [e4] at a4
  rw [e5] at a5
  rw [e6] at a6
  rw [e7] at a7
  rw [e8, z, List.append_nil] at a8
  rw [List.drop_zero] at a0
  rw [a0]
  show _ ++ cs.drop 1 = _
  rw [a1]
  show _ ++ (_ ++ cs.drop 2) = _
  rw [a2]
  show _ ++ (_ ++ (_ ++ cs.drop 3)) = _
  rw [a3]
  show _ ++ (_ ++ (_ ++ (_ ++ cs.drop 4))) = _
  rw [a4]
  show _ ++ (_ ++ (_ ++ (_ ++ (_ ++ cs.drop 5)))) = _
  rw [a5]
  show _ ++ (_ ++ (_ ++ (_ ++ (_ ++ (_ ++ cs.drop 6))))) = _
  rw [a6]
  show _ ++ (_ ++ (_ ++ (_ ++ (_ ++ (_ ++ (_ ++ cs.drop 7)))))) = _
  rw [a7]
  show _ ++ (_ ++ (_ ++ (_ ++ (_ ++ (_ ++ (_ ++ (_ ++ cs.drop 8))))))) = _
  rw [a8]
  rfl
theorem trod_routesF {fuel : Nat} {cs : List Value} {x : DataW H × List MemPlace} (h : DataW.trod enc Tryz.prog W 0 (fun _ => true) true fuel 32 cs = some x) : ∃ A n c ls, cs = [.slice A n c] ∧ RdRt W W.heap.size A n ls := by
  have hC : Tryz.prog.cellsOf 53 = 63 := by kernel_rfl
  rcases open_slice Tryz.underlying32 h with ⟨hcs, _⟩ | ⟨x, len, c, m, n, D, Pl, hcs, _, hl, hm, hmm, hx, hi⟩
  · exact ⟨none, 0, 0, [], hcs, ⟨rfl, AllRt.nil_, fun h => absurd h (by omega)⟩⟩
  · simp only [if_pos] at hmm
    subst hmm
    have each : ∀ i, i < len → ∃ y : Rt, RtOk y ∧ ∀ k v, (rtc y)[k]? = some v → W.cell? ((x.add (i * 63)).add k) = some v := by
      intro i him
      obtain ⟨cs', hc, ht'⟩ := hi i (by omega)
      rw [hC] at hc
      obtain ⟨y, rfl, hy⟩ := trod_rt ht'
      obtain ⟨_, hl2, hat⟩ := World.cells?_some hc
      refine ⟨y, hy, fun k v hv => ?_⟩
      have hk := (List.getElem?_eq_some_iff.1 hv).1
      rw [hat k (by omega)]
      exact hv
    have hch : ∃ ys : List Rt, ys.length = len ∧ ∀ i (h : i < ys.length), RtOk ys[i] ∧ ∀ k v, (rtc ys[i])[k]? = some v → W.cell? ((x.add (i * 63)).add k) = some v := by
      refine ⟨(List.range len).attach.map fun i => Classical.choose (each i.1 (List.mem_range.1 i.2)), by simp, fun i hi' => ?_⟩
      have hlt : i < len := by simpa using hi'
      have h1 := Classical.choose_spec (each i hlt)
      have e1 : ((List.range len).attach.map fun i => Classical.choose (each i.1 (List.mem_range.1 i.2)))[i] = Classical.choose (each i hlt) := by simp
      rw [e1]
      exact h1
    obtain ⟨ys, hyl, hys⟩ := hch
    refine ⟨some x, len, _, ys, hcs, ⟨hyl, fun y hy => ?_, fun hn => ?_⟩⟩
    · obtain ⟨i, hi', rfl⟩ := List.mem_iff_getElem.1 hy
      exact (hys i hi').1
    · obtain ⟨b, off, spot⟩ := x
      have h0 := hys 0 (by omega)
      have h0c := h0.2 0 (.int .i64 ys[0].k) rfl
      have hspot : spot = none := by simpa [Addr.add] using World.cell?_spot h0c
      subst hspot
      have ea : ∀ i, (⟨b, off, none⟩ : Addr).add i = ⟨b, off + i, none⟩ := fun i => by unfold Addr.add; split <;> simp_all
      have eb : ∀ i k, (⟨b, off + i, none⟩ : Addr).add k = ⟨b, off + i + k, none⟩ := fun i k => by unfold Addr.add; split <;> simp_all
      refine ⟨b, off, rfl, by simpa [Addr.add] using lt_of_cellN h0c, fun i hi' k v hv => ?_⟩
      have := (hys i hi').2 k v hv
      rw [ea, eb] at this
      exact this
theorem trod_upF {fuel : Nat} {cs : List Value} {x : DataW H × List MemPlace} (h : DataW.trod enc Tryz.prog W 0 (fun _ => true) true fuel 34 cs = some x) :
    ∃ u xs A1 n1 c1 A2 n2 c2, cs = upc xs u.nv u.nl (.slice A1 n1 c1) (.slice A2 n2 c2) ∧ UpOk u ∧ RdAt W W.heap.size xs u.at_ ∧ UpRd W u A1 n1 A2 n2 := by
  obtain ⟨xs, m, _, hx, hl, hxl, hat⟩ := DataW.trod_struct Tryz.underlying34 h
  have hl : cs.length = 46 := hl.trans (by kernel_rfl)
  obtain ⟨_, _, h0⟩ := part_of5 hxl hat 0 _ rfl
  obtain ⟨_, _, h1⟩ := part_of5 hxl hat 1 _ rfl
  obtain ⟨_, _, h2⟩ := part_of5 hxl hat 2 _ rfl
  obtain ⟨_, _, h3⟩ := part_of5 hxl hat 3 _ rfl
  obtain ⟨a, ra, fa⟩ := trod_attF h0
  obtain ⟨nv, nl, e1, lnl, onl⟩ := trod_ip5 h1
  obtain ⟨A1, n1, c1, l1, e2, r1⟩ := trod_routesF h2
  obtain ⟨A2, n2, c2, l2, e3, r2⟩ := trod_routesF h3
  have e1 : (cs.drop 27).take 17 = ipc nv nl := e1
  have e2 : (cs.drop 44).take 1 = [.slice A1 n1 c1] := e2
  have e3 : (cs.drop 45).take 1 = [.slice A2 n2 c2] := e3
  refine ⟨⟨a, nv, nl, l1, l2⟩, (cs.drop 0).take 27, A1, n1, c1, A2, n2, c2, ?_, ⟨fa, lnl, onl, r1.ok, r2.ok⟩, ra, ⟨r1, r2⟩⟩
  have a0 := drop_split5 cs 0 27
  have a1 := drop_split5 cs 27 17
  have a2 := drop_split5 cs 44 1
  have a3 := drop_split5 cs 45 1
  have z : cs.drop (45 + 1) = [] := List.drop_of_length_le (by omega)
  rw [e1] at a1
  rw [e2] at a2
  rw [e3, z, List.append_nil] at a3
  rw [List.drop_zero] at a0
  unfold upc
  refine a0.trans (congrArg (List.take 27 (cs.drop 0) ++ ·) ?_)
  show cs.drop 27 = _
  rw [a1]
  refine congrArg (ipc nv nl ++ ·) ?_
  show cs.drop 44 = _
  rw [a2]
  show [_] ++ cs.drop 45 = _
  rw [a3]
  rfl
theorem open_up {r : Reach} {b0 : Nat} {v : Value} {d : DataW H} {p : List MemPlace} (hv : Value.okWide Tryz.prog W r b0 34 v) (h : DataW.Trod enc Tryz.prog W 0 (fun _ => true) true 34 v d p) :
    ∃ u xs A1 n1 c1 A2 n2 c2, v = .agg (upc xs u.nv u.nl (.slice A1 n1 c1) (.slice A2 n2 c2)).toArray ∧ UpOk u ∧ RdAt W W.heap.size xs u.at_ ∧ UpRd W u A1 n1 A2 n2 := by
  unfold Value.okWide at hv
  rw [Tryz.underlying34] at hv
  obtain ⟨⟨cs⟩, rfl, _⟩ := hv
  obtain ⟨fuel, hf⟩ := h
  obtain ⟨u, xs, A1, n1, c1, A2, n2, c2, h1, h2, h3, h4⟩ := trod_upF hf
  have h1 : cs = _ := h1
  subst h1
  exact ⟨u, xs, A1, n1, c1, A2, n2, c2, rfl, h2, h3, h4⟩
end
end Go.Proofs.YtdgoeibfggjbmaaGreatDoor
