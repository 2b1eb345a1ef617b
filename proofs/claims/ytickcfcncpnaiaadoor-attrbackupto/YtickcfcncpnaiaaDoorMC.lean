/-
  Put together: AxA AxB.
-/
import Derived.Test.YtickcfcncpnaiaaDoorMB
import Derived.Test.YtickcfcncpnaiaaDoorMY
import Derived.OpenShut
import Derived.ChangeOld
namespace Go.Proofs.YtickcfcncpnaiaaDoor
open Go.RowKit
set_option maxRecDepth 100000
set_option linter.unusedSimpArgs false
set_option linter.unusedVariables false

theorem enc_of (f k : Int) (v : List Int) (hf : f = 64 ∨ f = 128 ∨ f = 192) (hk : 0 ≤ k ∧ k ≤ 255) (hv : v.length < 65536) : encE (rawW f k v) = 0 := by
  unfold encE rawW lfl
  simp only
  by_cases h : 255 < v.length
  · rw [if_pos h]
    have hl : lsz (f + 16) = 2 := by rcases hf with rfl | rfl | rfl <;> decide
    rw [hl, if_pos (by omega), if_pos (by omega)]
  · rw [if_neg h]
    have hl : lsz f = 1 := by rcases hf with rfl | rfl | rfl <;> decide
    rw [hl, if_pos (by omega), if_pos (by omega)]
theorem write_enc {a : Att} (hf : AtFits a) (h1 : a.path.length ≤ 255) (h2 : a.clus.length ≤ 255) (h3 : a.comms.length ≤ 255) : ∀ r ∈ writeR a, encE r = 0 := by
  intro r hm
  unfold writeR at hm
  simp only [List.mem_append, List.mem_cons, List.mem_nil_iff, or_false] at hm
  rcases hm with (rfl | rfl) | hm | rfl | hm | hm | hm | hm
  · exact enc_of 64 1 _ (by omega) (by omega) (by simp)
  · exact enc_of 64 2 _ (by omega) (by omega) (by have := pathW_len a.path h1; omega)
  · obtain ⟨_, rfl⟩ := mem_opt hm
    exact enc_of 128 4 _ (by omega) (by omega) (by rw [be_len]; omega)
  · exact enc_of 64 5 _ (by omega) (by omega) (by rw [be_len]; omega)
  · obtain ⟨_, rfl⟩ := mem_opt hm
    exact enc_of 128 9 _ (by omega) (by omega) (by rw [be_len]; omega)
  · obtain ⟨_, rfl⟩ := mem_opt hm
    exact enc_of 128 10 _ (by omega) (by omega) (by rw [encN_len]; omega)
  · obtain ⟨_, rfl⟩ := mem_opt hm
    exact enc_of 192 16 _ (by omega) (by omega) (by rw [(cmms_enc _ hf.comms).2]; omega)
  · obtain ⟨_, rfl⟩ := mem_opt hm
    refine enc_of 192 22 _ (by omega) (by omega) ?_
    have h16 := hf.ip
    unfold pmW
    split <;> simp [be_len, h16] <;> omega
theorem opt_len {α : Type} (b : Bool) (x : α) : (opt b x).length ≤ 1 := by unfold opt; split <;> simp
theorem write_len (a : Att) : (writeR a).length ≤ 8 := by
  unfold writeR
  simp only [List.length_append, List.length_cons, List.length_nil]
  have := opt_len a.hasMed (rawW 128 4 (be 4 a.med))
  have := opt_len (decide (a.orr ≠ 0)) (rawW 128 9 (be 4 a.orr))
  have := opt_len (decide (a.clus ≠ [])) (rawW 128 10 (encN a.clus))
  have := opt_len (decide (a.comms ≠ [])) (rawW 192 16 a.comms.flatten)
  have := opt_len (decide (a.pm.kind ≠ 0)) (rawW 192 22 (pmW a.pm))
  omega
theorem joinB_len : ∀ (rs : List Raw), (∀ r ∈ rs, encE r = 0) → (joinB rs).length ≤ rs.length * 65539
  | [], _ => by simp [joinB]
  | r :: rs, h => by
    have e : joinB (r :: rs) = encB r ++ joinB rs := rfl
    rw [e, List.length_append, List.length_cons]
    have h1 := encB_len r (h r (List.mem_cons_self ..))
    have h2 := joinB_len rs (fun x hx => h x (List.mem_cons_of_mem _ hx))
    omega
theorem joinB_take_le (rs : List Raw) (m : Nat) : (joinB (rs.take m)).length ≤ (joinB rs).length := by
  conv => rhs; rw [← List.take_append_drop m rs]
  unfold joinB
  rw [List.flatMap_append, List.length_append]
  omega
theorem joinE_zero {rs : List Raw} (h : ∀ r ∈ rs, encE r = 0) : joinE rs = 0 := joinE_no fun j hj => h _ (List.getElem_mem hj)
theorem enc_val {r : Raw} (h : encE r = 0) : r.2.2.length ≤ 65535 := by
  unfold encE at h
  split at h
  · split at h
    · rename_i hl
      rcases lsz_pow r.1 with e | e <;> rw [e] at hl <;> omega
    · cases h
  · cases h
theorem write_is (w : World) (E : EnvK w) (a : Att) (hf : AtFits a) (cs : List Value) (h : RdAt w w.heap.size cs a) : Calls Tryd.prog 5 #[.agg cs.toArray] w (WritePost w a) := by
  obtain ⟨Ap, cp, Ac, cc, Am, cm, rfl, p1, p2, p3⟩ := h.ex
  cases hr : rightAt a
  · exact write_bad w a hf _ _ _ hr
  · by_cases hl : 255 < a.path.length ∨ 255 < a.clus.length ∨ 255 < a.comms.length
    · exact write_long w a hf Ap Ac Am cp cc cm hr hl
    · exact write_go w E a hf Ap Ac Am cp cc cm p1 p2 p3 hr (by omega) (by omega) (by omega)
theorem writeE_parts {a : Att} (h : writeE a = 0) : rightAt a = true ∧ a.path.length ≤ 255 ∧ a.clus.length ≤ 255 ∧ a.comms.length ≤ 255 := by
  unfold writeE at h
  cases hr : rightAt a
  · rw [if_pos hr] at h; cases h
  · rw [if_neg (by rw [hr]; decide)] at h
    split at h
    · cases h
    · exact ⟨rfl, by omega, by omega, by omega⟩
theorem writeE_any (a : Att) : writeE a = 0 ∨ writeE a = 2 ∨ writeE a = 5 := by unfold writeE; split <;> (try split) <;> simp
theorem att_store5 {ops : Array Oper} {rest : List Oper} {o : Oper} {a : Act} {w : World} {Q : Exit → Act → World → Prop} (hgd : o.guard = none) (x y : Operand) (ho : o.op = .store 31 x y) (g : Nat) (cs : List Value) (hl : cs.length = 27) (h1 : ∀ v ∈ cs, v.oneCell' = true)
    (hx : a.eval x = .pointer (some ⟨g, 0, none⟩)) (hy : a.eval y = .agg cs.toArray) (t : TypeId) (old : Array Value) (hg : Blk w g t old) (hold : old.size = 27)
    (h : wpList Tryd.prog ops Q rest (a.put o.dst undef) (w.setRow g cs.toArray)) : wpList Tryd.prog ops Q (o :: rest) a w :=
  wpList_store_row hgd 31 x y ho g _ hx hy t old hg (by rw [asz]; simp [hl]) (by rw [hold]; simp [hl]) (all_oneCell_toArray h1) h
theorem fault_store5 {ops : Array Oper} {rest : List Oper} {o : Oper} {a : Act} {w : World} {Q : Exit → Act → World → Prop} (hgd : o.guard = none) (x y : Operand) (ho : o.op = .store 47 x y) (g : Nat) (c s : Int) (A : Option Addr) (n cp : Nat)
    (hx : a.eval x = .pointer (some ⟨g, 0, none⟩)) (hy : a.eval y = .agg #[.int .i64 c, .int .i64 s, .slice A n cp]) (t : TypeId) (old : Array Value) (hg : Blk w g t old) (hold : old.size = 3)
    (h : wpList Tryd.prog ops Q rest (a.put o.dst undef) (w.setRow g #[.int .i64 c, .int .i64 s, .slice A n cp])) : wpList Tryd.prog ops Q (o :: rest) a w :=
  wpList_store_row hgd 47 x y ho g _ hx hy t old hg (by rw [fsz]; rfl) (by rw [hold]; rfl) (by kernel_rfl) h
end Go.Proofs.YtickcfcncpnaiaaDoor
namespace Go.Proofs.YtickcfcncpnaiaaDoor
open Go.RowKit Go.ChangeShapes Go.WideShapes Go.ChangeAt Go.Deep Go.Joins
set_option maxRecDepth 100000
set_option linter.unusedVariables false

section
variable {H : Type} {enc : TypeId × Value → H} {W : World}
theorem lt_of_cell5 {w : World} {a : Addr} {v : Value} (h : w.cell? a = some v) : a.block < w.heap.size := by
  rcases Nat.lt_or_ge a.block w.heap.size with h1 | h1
  · exact h1
  · simp [World.cell?, Array.getElem?_eq_none h1] at h
theorem trod_u8s5 {P : Program} {t e : TypeId} {n fuel : Nat} {cs : List Value} {x : DataW H × List MemPlace} (ht : P.underlying t = some (.array n e)) (he : P.underlying e = some (.int .u8)) (hce : P.cellsOf e = 1) (hct : P.cellsOf t = n)
    (h : DataW.trod enc P W 0 (fun _ => true) true fuel t cs = some x) : ∃ l, cs = u8s l ∧ l.length = n ∧ Oct l := by
  obtain ⟨xs, m, hf, hx, hl, hxl, hat⟩ := DataW.trod_array ht h
  rw [hct] at hl
  have each : ∀ i, i < n → ∃ z : Int, cs[i]? = some (.int .u8 z) ∧ 0 ≤ z ∧ z < 256 := by
    intro i hi
    have h1 := hat i hi
    rw [List.getElem?_eq_getElem (by omega)] at h1
    rw [hce, Nat.mul_one] at h1
    obtain ⟨z, hz, _, hw⟩ := DataW.trod_int he h1
    refine ⟨z, ?_, ?_⟩
    · have h2 : ((cs.drop i).take 1)[0]? = some (.int .u8 z) := by rw [hz]; rfl
      simpa using h2
    · simp [Lit.wf, IntKind.min, IntKind.max, IntKind.signed, IntKind.bits] at hw
      omega
  refine ⟨cs.map fun v => match v with | .int _ z => z | _ => 0, ?_, by simp [hl], ?_⟩
  · apply List.ext_getElem?
    intro i
    rcases Nat.lt_or_ge i n with hi | hi
    · obtain ⟨z, hz, _⟩ := each i hi
      simp [u8s, hz]
    · rw [List.getElem?_eq_none (by omega), List.getElem?_eq_none (by simp [u8s]; omega)]
  · intro z hz
    obtain ⟨v, hv, rfl⟩ := List.mem_map.1 hz
    obtain ⟨i, hi, hiv⟩ := List.mem_iff_getElem.1 hv
    obtain ⟨z, hz, h0, h1⟩ := each i (by omega)
    rw [List.getElem?_eq_getElem hi, hiv] at hz
    cases hz
    exact ⟨h0, h1⟩
theorem trod_u325 {fuel : Nat} {cs : List Value} {x : DataW H × List MemPlace} (h : DataW.trod enc Tryd.prog W 0 (fun _ => true) true fuel 23 cs = some x) : ∃ n, cs = [.int .u32 n] ∧ 0 ≤ n ∧ n ≤ 4294967295 := by
  obtain ⟨n, e, _, hw⟩ := DataW.trod_int Tryd.underlying23 h
  refine ⟨n, e, ?_⟩
  simp [Lit.wf, IntKind.min, IntKind.max, IntKind.signed, IntKind.bits] at hw
  exact ⟨by omega, by omega⟩
theorem trod_i645 {fuel : Nat} {cs : List Value} {x : DataW H × List MemPlace} (h : DataW.trod enc Tryd.prog W 0 (fun _ => true) true fuel 3 cs = some x) : ∃ n, cs = [.int .i64 n] := by
  obtain ⟨n, e, _, hw⟩ := DataW.trod_int Tryd.underlying3 h
  exact ⟨n, e⟩
theorem part_of5 {P : Program} {fs : Array Field} {cs : List Value} {xs : List (DataW H × List MemPlace)} {n : Nat} (hl : xs.length = fs.size) (h : ∀ (i : Nat) (f : Field), fs[i]? = some f → DataW.trod enc P W 0 (fun _ => true) true n f.type ((cs.drop f.offset).take (P.cellsOf f.type)) = xs[i]?)
    (i : Nat) (f : Field) (hf : fs[i]? = some f) : ∃ y ∈ xs, DataW.trod enc P W 0 (fun _ => true) true n f.type ((cs.drop f.offset).take (P.cellsOf f.type)) = some y := by
  have hi := (Array.getElem?_eq_some_iff.1 hf).1
  exact ⟨xs[i], List.getElem_mem _, by rw [h i f hf, List.getElem?_eq_getElem]⟩
theorem drop_split5 (cs : List Value) (o n : Nat) : cs.drop o = (cs.drop o).take n ++ cs.drop (o + n) := by rw [← List.drop_drop, List.take_append_drop]
theorem trod_ip5 {fuel : Nat} {cs : List Value} {x : DataW H × List MemPlace} (h : DataW.trod enc Tryd.prog W 0 (fun _ => true) true fuel 27 cs = some x) : ∃ v l, cs = ipc v l ∧ l.length = 16 ∧ Oct l := by
  obtain ⟨xs, n, _, _, hl, hxl, hat⟩ := DataW.trod_struct Tryd.underlying27 h
  have hl : cs.length = 17 := hl.trans (by kernel_rfl)
  obtain ⟨_, _, h0⟩ := part_of5 hxl hat 0 _ rfl
  obtain ⟨_, _, h1⟩ := part_of5 hxl hat 1 _ rfl
  obtain ⟨v, e0, _⟩ := DataW.trod_bool Tryd.underlying4 h0
  obtain ⟨l, e1, hll, ho⟩ := trod_u8s5 Tryd.underlying25 Tryd.underlying5 (by kernel_rfl) (by kernel_rfl) h1
  have e0 : (cs.drop 0).take 1 = [.bool v] := e0
  have e1 : (cs.drop 1).take 16 = u8s l := e1
  refine ⟨v, l, ?_, hll, ho⟩
  have a0 := drop_split5 cs 0 1
  have a1 := drop_split5 cs 1 16
  rw [e0] at a0
  have z : cs.drop (1 + 16) = [] := List.drop_of_length_le (by omega)
  rw [e1, z, List.append_nil] at a1
  rw [List.drop_zero, Nat.zero_add, a1] at a0
  exact a0
theorem trod_pm5 {fuel : Nat} {cs : List Value} {x : DataW H × List MemPlace} (h : DataW.trod enc Tryd.prog W 0 (fun _ => true) true fuel 29 cs = some x) : ∃ p : Pm, cs = pmc p ∧ (0 ≤ p.label ∧ p.label ≤ 4294967295) ∧ p.ip.length = 16 ∧ Oct p.ip := by
  obtain ⟨xs, m, _, _, hl, hxl, hat⟩ := DataW.trod_struct Tryd.underlying29 h
  have hl : cs.length = 19 := hl.trans (by kernel_rfl)
  obtain ⟨_, _, h0⟩ := part_of5 hxl hat 0 _ rfl
  obtain ⟨_, _, h1⟩ := part_of5 hxl hat 1 _ rfl
  obtain ⟨_, _, h2⟩ := part_of5 hxl hat 2 _ rfl
  obtain ⟨k, e0⟩ := trod_i645 h0
  obtain ⟨lb, e1, hlb⟩ := trod_u325 h1
  obtain ⟨v, l, e2, hll, ho⟩ := trod_ip5 h2
  have e0 : (cs.drop 0).take 1 = [.int .i64 k] := e0
  have e1 : (cs.drop 1).take 1 = [.int .u32 lb] := e1
  have e2 : (cs.drop 2).take 17 = ipc v l := e2
  refine ⟨⟨k, lb, v, l⟩, ?_, hlb, hll, ho⟩
  have a0 := drop_split5 cs 0 1
  have a1 := drop_split5 cs 1 1
  have a2 := drop_split5 cs 2 17
  have z : cs.drop (2 + 17) = [] := List.drop_of_length_le (by omega)
  rw [e0] at a0
  rw [e1] at a1
  rw [e2, z, List.append_nil] at a2
  rw [List.drop_zero] at a0
  rw [a0]
  show _ ++ cs.drop 1 = _
  rw [a1]
  show _ ++ (_ ++ cs.drop 2) = _
  rw [a2]
  rfl
theorem trod_u32s {fuel : Nat} {cs : List Value} {x : DataW H × List MemPlace} (h : DataW.trod enc Tryd.prog W 0 (fun _ => true) true fuel 22 cs = some x) (hB : Rows.uptoBulk x.1 ≤ 1048576) :
    ∃ A n c l, cs = [.slice A n c] ∧ RdN W W.heap.size A n l ∧ n ≤ 1048576 ∧ ∀ y ∈ l, 0 ≤ y ∧ y ≤ 4294967295 := by
  rcases open_ints Tryd.underlying22 Tryd.underlying23 (by kernel_rfl) h with ⟨hcs, _⟩ | ⟨x0, l, c, zs, hcs, _, hl, hm, hz, hx, hcell, hwz⟩
  · exact ⟨none, 0, 0, [], hcs, RdN.nil_ _, by omega, fun y hy => by cases hy⟩
  · simp only [if_pos] at hz
    refine ⟨some x0, l, c, zs.take l, hcs, ⟨by simp; omega, fun hn => ?_⟩, ?_, fun y hy => ?_⟩
    · obtain ⟨b, off, spot⟩ := x0
      have h0 := hcell 0 (by omega)
      have hspot : spot = none := by simpa [Addr.add] using World.cell?_spot h0
      subst hspot
      refine ⟨b, off, rfl, by simpa [Addr.add] using lt_of_cell h0, fun i hi => ?_⟩
      have := hcell i (by omega)
      rw [addr_add] at this
      rw [this]
      simp [List.getD, hi]
    · obtain ⟨es, sp, q1, q2⟩ : ∃ es sp, x.1 = .slice es sp ∧ l ≤ es.length + sp.length := ⟨_, _, by rw [hx], by simp [lits]; omega⟩
      rw [q1] at hB
      have := bulk_slice es sp
      omega
    · have := hwz y (List.mem_of_mem_take hy)
      simp [Lit.wf, IntKind.min, IntKind.max, IntKind.signed, IntKind.bits] at this
      omega
theorem trod_comms5 {fuel : Nat} {cs : List Value} {x : DataW H × List MemPlace} (h : DataW.trod enc Tryd.prog W 0 (fun _ => true) true fuel 24 cs = some x) (hB : Rows.uptoBulk x.1 ≤ 1048576) :
    ∃ A n c ls, cs = [.slice A n c] ∧ RdC W W.heap.size A n ls ∧ n ≤ 1048576 := by
  rcases open_slice Tryd.underlying24 h with ⟨hcs, _⟩ | ⟨x0, l, c, m, n, D, Pl, hcs, _, hl, hm, hmm, hx, hi⟩
  · exact ⟨none, 0, 0, [], hcs, ⟨rfl, All8.nil_, fun h => absurd h (by omega)⟩, by omega⟩
  · simp only [if_pos] at hmm
    subst hmm
    rw [hx] at hB
    have hlb := bulk_len ((List.range l).map D)
    simp only [List.length_map, List.length_range] at hlb
    unfold Rows.uptoBulk at hB
    have hC : Tryd.prog.cellsOf 40 = 8 := by kernel_rfl
    have each : ∀ i, i < l → ∃ y : List Int, (y.length = 8 ∧ Oct y) ∧ ∀ k v, (u8s y)[k]? = some v → W.cell? ((x0.add (i * 8)).add k) = some v := by
      intro i him
      obtain ⟨cs', hc, ht'⟩ := hi i (by omega)
      rw [hC] at hc
      obtain ⟨y, rfl, hy, oy⟩ := trod_u8s5 Tryd.underlying40 Tryd.underlying5 (by kernel_rfl) hC ht'
      obtain ⟨_, hl2, hat⟩ := World.cells?_some hc
      refine ⟨y, ⟨hy, oy⟩, fun k v hv => ?_⟩
      have hk := (List.getElem?_eq_some_iff.1 hv).1
      rw [hat k (by omega)]
      exact hv
    have hch : ∃ ys : List (List Int), ys.length = l ∧ ∀ i (h : i < ys.length), (ys[i].length = 8 ∧ Oct ys[i]) ∧ ∀ k v, (u8s ys[i])[k]? = some v → W.cell? ((x0.add (i * 8)).add k) = some v := by
      refine ⟨(List.range l).attach.map fun i => Classical.choose (each i.1 (List.mem_range.1 i.2)), by simp, fun i hi' => ?_⟩
      have hlt : i < l := by simpa using hi'
      have h1 := Classical.choose_spec (each i hlt)
      have e1 : ((List.range l).attach.map fun i => Classical.choose (each i.1 (List.mem_range.1 i.2)))[i] = Classical.choose (each i hlt) := by simp
      rw [e1]
      exact h1
    obtain ⟨ys, hyl, hys⟩ := hch
    refine ⟨some x0, l, _, ys, hcs, ⟨hyl, fun y hy => ?_, fun hn => ?_⟩, by omega⟩
    · obtain ⟨i, hi', rfl⟩ := List.mem_iff_getElem.1 hy
      exact (hys i hi').1
    · obtain ⟨b, off, spot⟩ := x0
      have h0 := hys 0 (by omega)
      have h0c := h0.2 0 (.int .u8 (ys[0].getD 0 0)) (by
        rw [u8s, List.getElem?_map, List.getElem?_eq_getElem (by omega)]
        simp [List.getD, h0.1.1])
      have hspot : spot = none := by simpa [Addr.add] using World.cell?_spot h0c
      subst hspot
      have ea : ∀ i, (⟨b, off, none⟩ : Addr).add i = ⟨b, off + i, none⟩ := fun i => by unfold Addr.add; split <;> simp_all
      have eb : ∀ i k, (⟨b, off + i, none⟩ : Addr).add k = ⟨b, off + i + k, none⟩ := fun i k => by unfold Addr.add; split <;> simp_all
      refine ⟨b, off, rfl, by simpa [Addr.add] using lt_of_cell5 h0c, fun i hi' k v hv => ?_⟩
      have := (hys i hi').2 k v hv
      rw [ea, eb] at this
      exact this
theorem trod_att {fuel : Nat} {cs : List Value} {x : DataW H × List MemPlace} (h : DataW.trod enc Tryd.prog W 0 (fun _ => true) true fuel 31 cs = some x) (hB : Rows.uptoBulk x.1 ≤ 1048576) :
    ∃ a, RdAt W W.heap.size cs a ∧ AtFits a ∧ a.path.length ≤ 1048576 ∧ a.clus.length ≤ 1048576 ∧ a.comms.length ≤ 1048576 := by
  obtain ⟨xs, m, _, hx, hl, hxl, hat⟩ := DataW.trod_struct Tryd.underlying31 h
  have hl : cs.length = 27 := hl.trans (by kernel_rfl)
  have hbk : ∀ y ∈ xs, Rows.uptoBulk y.1 ≤ 1048576 := fun y hy => by
    rw [hx] at hB
    have := bulk_agg (d := y.1) (l := xs.map (·.1)) (List.mem_map.2 ⟨y, hy, rfl⟩)
    simp only at hB
    omega
  obtain ⟨_, _, h0⟩ := part_of5 hxl hat 0 _ rfl
  obtain ⟨y1, m1, h1⟩ := part_of5 hxl hat 1 _ rfl
  obtain ⟨_, _, h2⟩ := part_of5 hxl hat 2 _ rfl
  obtain ⟨_, _, h3⟩ := part_of5 hxl hat 3 _ rfl
  obtain ⟨_, _, h4⟩ := part_of5 hxl hat 4 _ rfl
  obtain ⟨_, _, h5⟩ := part_of5 hxl hat 5 _ rfl
  obtain ⟨y6, m6, h6⟩ := part_of5 hxl hat 6 _ rfl
  obtain ⟨y7, m7, h7⟩ := part_of5 hxl hat 7 _ rfl
  obtain ⟨_, _, h8⟩ := part_of5 hxl hat 8 _ rfl
  obtain ⟨og, e0⟩ := trod_i645 h0
  obtain ⟨Ap, np, cp, lp, e1, r1, b1, u1⟩ := trod_u32s h1 (hbk _ m1)
  obtain ⟨hm, e2, _⟩ := DataW.trod_bool Tryd.underlying4 h2
  obtain ⟨med, e3, hmed⟩ := trod_u325 h3
  obtain ⟨pref, e4, hpref⟩ := trod_u325 h4
  obtain ⟨orr, e5, horr⟩ := trod_u325 h5
  obtain ⟨Ac, nc, cc, lc, e6, r6, b6, u6⟩ := trod_u32s h6 (hbk _ m6)
  obtain ⟨Am, nm, cm, lm, e7, r7, b7⟩ := trod_comms5 h7 (hbk _ m7)
  obtain ⟨pm, e8, hlab, hip, hoct⟩ := trod_pm5 h8
  have e0 : (cs.drop 0).take 1 = [.int .i64 og] := e0
  have e1 : (cs.drop 1).take 1 = [.slice Ap np cp] := e1
  have e2 : (cs.drop 2).take 1 = [.bool hm] := e2
  have e3 : (cs.drop 3).take 1 = [.int .u32 med] := e3
  have e4 : (cs.drop 4).take 1 = [.int .u32 pref] := e4
  have e5 : (cs.drop 5).take 1 = [.int .u32 orr] := e5
  have e6 : (cs.drop 6).take 1 = [.slice Ac nc cc] := e6
  have e7 : (cs.drop 7).take 1 = [.slice Am nm cm] := e7
  have e8 : (cs.drop 8).take 19 = pmc pm := e8
  have q1 := r1.len
  have q6 := r6.len
  have q7 := r7.len
  subst q1 q6 q7
  refine ⟨⟨og, lp, hm, med, pref, orr, lc, lm, pm⟩, ⟨⟨Ap, cp, Ac, cc, Am, cm, ?_, r1, r6, r7⟩⟩, ⟨u1, u6, fun l hl => r7.ok l hl, hmed, hpref, horr, hlab, hip, hoct⟩, b1, b6, b7⟩
  have a0 := drop_split5 cs 0 1
  have a1 := drop_split5 cs 1 1
  have a2 := drop_split5 cs 2 1
  have a3 := drop_split5 cs 3 1
  have a4 := drop_split5 cs 4 1
  have a5 := drop_split5 cs 5 1
  have a6 := drop_split5 cs 6 1
  have a7 := drop_split5 cs 7 1
  have a8 := drop_split5 cs 8 19
  have z : cs.drop (8 + 19) = [] := List.drop_of_length_le (by omega)
  rw [e0] at a0
  rw [e1] at a1
  rw [e2] at a2
  rw [e3] at a3
  rw [e4] at a4
  rw [e5] at a5
  rw [e6] at a6
  rw [e7] at a7
  rw [e8, z, List.append_nil] at a8
  rw [List.drop_zero] at a0
  rw [a0]
  show _ ++ cs.drop 1 = _
  rw [a1]
  show _ ++ (_ ++ cs.drop 2) = _
  rw [a2]
  show _ ++ (_ ++ (_ ++ cs.drop 3)) = _
  rw [a3]
  show _ ++ (_ ++ (_ ++ (_ ++ cs.drop 4))) = _
  rw [a4]
  show _ ++ (_ ++ (_ ++ (_ ++ (_ ++ cs.drop 5)))) = _
  rw [a5]
  show _ ++ (_ ++ (_ ++ (_ ++ (_ ++ (_ ++ cs.drop 6))))) = _
  rw [a6]
  show _ ++ (_ ++ (_ ++ (_ ++ (_ ++ (_ ++ (_ ++ cs.drop 7)))))) = _
  rw [a7]
  show _ ++ (_ ++ (_ ++ (_ ++ (_ ++ (_ ++ (_ ++ (_ ++ cs.drop 8))))))) = _
  rw [a8]
  rfl
theorem open_attrsc {r : Reach} {b0 : Nat} {v : Value} {d : DataW H} {p : List MemPlace} (hv : Value.okWide Tryd.prog W r b0 31 v) (h : DataW.Trod enc Tryd.prog W 0 (fun _ => true) true 31 v d p) (hB : Rows.uptoBulk d ≤ 1048576) :
    ∃ cs a, v = .agg cs.toArray ∧ RdAt W W.heap.size cs a ∧ AtFits a ∧ a.path.length ≤ 1048576 ∧ a.clus.length ≤ 1048576 ∧ a.comms.length ≤ 1048576 := by
  unfold Value.okWide at hv
  rw [Tryd.underlying31] at hv
  obtain ⟨⟨cs⟩, rfl, _⟩ := hv
  obtain ⟨fuel, hf⟩ := h
  obtain ⟨a, h1, h2, h3⟩ := trod_att hf hB
  exact ⟨cs, a, rfl, h1, h2, h3⟩
end
end Go.Proofs.YtickcfcncpnaiaaDoor
