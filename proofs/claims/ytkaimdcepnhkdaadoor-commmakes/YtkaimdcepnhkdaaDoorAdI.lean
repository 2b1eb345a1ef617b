/-
  Layer 2 (addr): groups of an address of IPv6.
-/
import Derived.Test.YtkaimdcepnhkdaaDoorAdC
namespace Go.Proofs.YtkaimdcepnhkdaaDoor
open Go.RowKit
set_option linter.unusedSimpArgs false
set_option linter.unusedVariables false

abbrev u16s (l : List Int) : List Value := l.map (Value.int .u16)
/-- The groups of sixteen bytes. -/
def grp (l : List Int) : List Int := (List.range 8).map fun i => numOf ((l.drop (2 * i)).take 2)
theorem grp_len (l : List Int) : (grp l).length = 8 := by simp [grp]
theorem u16s_set (xs ys : List Int) (y z : Int) (k : Nat) (hk : xs.length = k) : (u16s (xs ++ y :: ys)).toArray.setIfInBounds k (.int .u16 z) = (u16s (xs ++ z :: ys)).toArray := by
  subst hk; simp [List.set_append]
theorem u16s_get (xs ys : List Int) (y : Int) (k : Nat) (hk : xs.length = k) : (u16s (xs ++ y :: ys)).toArray[k]? = some (.int .u16 y) := by
  subst hk; simp
theorem grp_bd (l : List Int) (ho : Oct l) : ∀ x ∈ grp l, 0 ≤ x ∧ x < 65536 := by
  intro x hx
  obtain ⟨i, _, rfl⟩ := List.mem_map.1 hx
  have h := numOf_bd ((l.drop (2 * i)).take 2) (fun x hx => ho x (List.mem_of_mem_drop (List.mem_of_mem_take hx)))
  have hl : ((l.drop (2 * i)).take 2).length ≤ 2 := by simp; omega
  refine ⟨h.1, Int.lt_of_lt_of_le h.2 ?_⟩
  have : ∀ m, m ≤ 2 → (256 : Int) ^ m ≤ 65536 := by decide
  exact this _ hl
theorem grp_fill (l : List Int) (k : Nat) (hk : k < 8) : (grp l).take k ++ List.replicate (8 - k) 0 = (grp l).take k ++ 0 :: List.replicate (8 - (k + 1)) 0 := by
  rw [show 8 - k = 8 - (k + 1) + 1 by omega, List.replicate_succ]
theorem grp_fill2 (l : List Int) (k : Nat) (hk : k < 8) : (grp l).take (k + 1) ++ List.replicate (8 - (k + 1)) 0 = (grp l).take k ++ numOf ((l.drop (2 * k)).take 2) :: List.replicate (8 - (k + 1)) 0 := by
  rw [List.take_succ_eq_append_getElem (by rw [grp_len]; exact hk), List.append_assoc]
  simp [grp]
theorem u16_one (l : List Int) : ∀ x ∈ u16s l, x.oneCell' = true := by
  intro x hx
  obtain ⟨y, _, rfl⟩ := List.mem_map.1 hx
  rfl
theorem grp_size (l : List Int) (hl : l.length = 8) : (Tryd.prog.info? 130).map (·.size) = some (u16s l).toArray.size := by
  have : (Tryd.prog.info? 130).map (·.size) = some 8 := by kernel_rfl
  rw [this]; simp [hl]
theorem grp_fetch {ops : Array Oper} {rest : List Oper} {op : Oper} {a : Act} {w : World} {Q : Exit → Act → World → Prop} (hw : Region.wanted op (yielded ops a.tmps) = true) (x : Operand) (ho : op.op = .load 130 x) (b : Nat) (l : List Int) (hl : l.length = 8)
    (hx : a.eval x = .pointer (some ⟨b, 0, none⟩)) (hc : w.rangeAt b 0 (u16s l)) (h : wpList Tryd.prog ops Q rest (a.put op.dst (.agg (u16s l).toArray)) w) : wpList Tryd.prog ops Q (op :: rest) a w :=
  BigFrame.wpList_want hw fun _ hK => wp_load_mid 130 x ho b 0 hx (u16s l) _ hc Tryd.underlying130 rfl (by simpa using grp_size l hl) (hK _ _ h)
theorem grp_store {ops : Array Oper} {rest : List Oper} {o : Oper} {a : Act} {w : World} {Q : Exit → Act → World → Prop} (hgd : o.guard = none) (x y : Operand) (ho : o.op = .store 130 x y) (g : Nat) (l : List Int) (hl : l.length = 8)
    (hx : a.eval x = .pointer (some ⟨g, 0, none⟩)) (hy : a.eval y = .agg (u16s l).toArray) (t : TypeId) (old : Array Value) (hg : Blk w g t old) (hold : old.size = 8)
    (h : wpList Tryd.prog ops Q rest (a.put o.dst undef) (w.setRow g (u16s l).toArray)) : wpList Tryd.prog ops Q (o :: rest) a w :=
  wpList_store_row hgd 130 x y ho g _ hx hy t old hg (grp_size l hl) (by rw [hold]; simp [hl]) (all_oneCell_toArray (u16_one l)) h

abbrev zg : Array Value := #[Value.int .u16 0, Value.int .u16 0, Value.int .u16 0, Value.int .u16 0, Value.int .u16 0, Value.int .u16 0, Value.int .u16 0, Value.int .u16 0]
set_option maxHeartbeats 1000000 in
set_option maxRecDepth 100000 in
theorem gof_is (w : World) (v : Bool) (l : List Int) (hl : l.length = 16) (ho : Oct l) :
    Calls Tryd.prog 108 #[.agg (ipc v l).toArray] w fun e w' => e = .returned (.agg (u16s (grp l)).toArray) ∧ Below w.heap.size w w' := by
  go_enter Tryd.func108, Tryd.ntmps108
  go_wp2
  go_loopw [4, 5] (fun _ i wr => ∃ k : Nat, k ≤ 8 ∧ i = .int .i64 k ∧ Blk wr (w.heap.size + 1 + 1) 130 (u16s ((grp l).take k ++ List.replicate (8 - k) 0)).toArray ∧ Blk wr (w.heap.size + 1) 130 zg ∧ wr.rangeAt w.heap.size 0 (ipc v l) ∧ Below w.heap.size w wr) (fun _ i _ => 8 - (intOf i).toNat)
  case atStart =>
    refine ⟨0, by omega, rfl, ?_, ?_, ?_, ?_⟩
    · have h := Blk.new ((w.alloc (.cells (ipc v l).toArray 24)).alloc (.cells zg 130)) 130 zg
      simpa using h
    · have h := (Blk.new (w.alloc (.cells (ipc v l).toArray 24)) 130 zg).alloc (.cells zg 130)
      simpa using h
    · exact range_alloc (range_alloc (range_new w 24 (ipc v l)) (.cells zg 130) (by simp)) (.cells zg 130) (by simp; omega)
    · exact (((Below.refl _ _).alloc (Nat.le_refl _) _).alloc (by simp) _).alloc (by simp; omega) _
  case round =>
    obtain ⟨k, hk, rfl, hb, hz, hr, hB⟩ := hrel
    by_cases hlt : k < 8
    · have hrd : Rd wr (w.heap.size + 1) (some ⟨w.heap.size, 1 + 2 * k, none⟩) 2 ((l.drop (2 * k)).take 2) := rd_range (pre := [.bool v]) (post := []) (by simpa using hr) ho (2 * k) 2 (by omega) (by omega)
      have HR := Lib.hid hrd
      have hbd := grp_bd l ho (numOf ((l.drop (2 * k)).take 2)) (List.mem_map.2 ⟨k, by simp; omega, rfl⟩)
      have hkl : ((grp l).take k).length = k := by simp [grp_len]; omega
      rw [grp_fill l k hlt] at hb
      have hc := hb.cell k
      rw [u16s_get _ _ _ k hkl] at hc
      have hf := hb.frozen k
      have hset := hb.set_ k (.int .u16 (numOf ((l.drop (2 * k)).take 2)))
      rw [u16s_set _ _ _ _ k hkl, ← grp_fill2 l k hlt] at hset
      have HS := Lib.hid hset
      have HZ := Lib.hid (show Blk (wr.setCell ⟨w.heap.size + 1 + 1, k, none⟩ (.int .u16 (numOf ((l.drop (2 * k)).take 2)))) (w.heap.size + 1) 130 zg from hz.far (by simp) _)
      have HRR := Lib.hid (range_far hr (p := ⟨w.heap.size + 1 + 1, k, none⟩) (show w.heap.size ≠ w.heap.size + 1 + 1 by omega) (.int .u16 (numOf ((l.drop (2 * k)).take 2))))
      have HB := Lib.hid (hB.setCell (p := ⟨w.heap.size + 1 + 1, k, none⟩) (show w.heap.size ≤ w.heap.size + 1 + 1 by omega) (.int .u16 (numOf ((l.drop (2 * k)).take 2))))
      have hm : IntKind.u16.wrap (numOf ((l.drop (2 * k)).take 2)) = numOf ((l.drop (2 * k)).take 2) := by rw [IntKind.wrap_u16]; exact Int.emod_eq_of_lt hbd.1 hbd.2
      have HM := Lib.hid hm
      have hsl := slice_arr_lh (P := Tryd.prog) (t := 22) (e := 5) (n := 16) Tryd.underlying22 (by kernel_rfl) w.heap.size 1 (2 * k) (2 * k + 2) (by omega) (by omega) (by omega) (2 * (k : Int)) (2 * (k : Int) + 2) (by omega) (by omega)
      rw [show 2 * k + 2 - 2 * k = 2 by omega] at hsl
      clear hset hb hz hr hB hrd hkl hm
      go_wp2_with fail
      refine (number_is _ (w.heap.size + 1) _ 2 (16 - 2 * k) ((l.drop (2 * k)).take 2) HR.out (by omega)).mono ?_
      rintro e w' ⟨rfl, rfl⟩
      have hm := HM.out
      generalize numOf ((l.drop (2 * k)).take 2) = x at *
      go_wp2
      exact ⟨⟨k + 1, by omega, by go_num, HS.out, HZ.out, HRR.out, HB.out⟩, by simp [intOf]; omega⟩
    · obtain rfl : k = 8 := by omega
      rw [show (grp l).take 8 ++ List.replicate (8 - 8) 0 = grp l by rw [List.take_of_length_le (by rw [grp_len]; omega)]; simp] at hb
      have HG := Lib.hid hb.range
      have HZ := Lib.hid hz
      have HB := Lib.hid hB
      clear hb hz hr hB
      go_wp2_with (first
        | (refine grp_fetch rfl _ rfl (w.heap.size + 1 + 1) (grp l) (grp_len l) rfl HG.out ?_)
        | (refine grp_store rfl _ _ rfl (w.heap.size + 1) (grp l) (grp_len l) rfl rfl 130 zg HZ.out rfl ?_))
      refine bodyPost_ret (v := .agg (u16s (grp l)).toArray) ?_ rfl ⟨rfl, HB.out.trans (below_setRow _ _ _ (by omega))⟩
      exact results_cell_row rfl _ _ (w.heap.size + 1) 130 _ (0, 0) _ rfl (Blk.setRow HZ.out _) Tryd.underlying130 rfl (grp_size _ (grp_len l))
end Go.Proofs.YtkaimdcepnhkdaaDoor
