/-
  The document's answer, layer 2: unfour.
-/
import Derived.Test.YtfapmedlnaikiaaDoorRdsM
import Derived.Test.YtfapmedlnaikiaaDoorCarA
namespace Go.Proofs.YtfapmedlnaikiaaDoor
open Go.RowKit
set_option linter.unusedSimpArgs false
set_option linter.unusedVariables false

abbrev zr4 : Array Value := #[Value.int .u8 0, Value.int .u8 0, Value.int .u8 0, Value.int .u8 0]
theorem f4_size (l : List Int) (hl : l.length = 4) : (Tryd.prog.info? 86).map (·.size) = some (u8s l).toArray.size := by
  have : (Tryd.prog.info? 86).map (·.size) = some 4 := by kernel_rfl
  rw [this]; simp [hl]
theorem f4_fetch {ops : Array Oper} {rest : List Oper} {op : Oper} {a : Act} {w : World} {Q : Exit → Act → World → Prop} (hw : Region.wanted op (yielded ops a.tmps) = true) (x : Operand) (ho : op.op = .load 86 x) (b : Nat) (l : List Int) (hl : l.length = 4)
    (hx : a.eval x = .pointer (some ⟨b, 0, none⟩)) (hc : w.rangeAt b 0 (u8s l)) (h : wpList Tryd.prog ops Q rest (a.put op.dst (.agg (u8s l).toArray)) w) : wpList Tryd.prog ops Q (op :: rest) a w :=
  BigFrame.wpList_want hw fun _ hK => wp_load_mid 86 x ho b 0 hx (u8s l) _ hc Tryd.underlying86 rfl (by simpa using f4_size l hl) (hK _ _ h)
theorem f4_store {ops : Array Oper} {rest : List Oper} {o : Oper} {a : Act} {w : World} {Q : Exit → Act → World → Prop} (hgd : o.guard = none) (x y : Operand) (ho : o.op = .store 86 x y) (g : Nat) (l : List Int) (hl : l.length = 4)
    (hx : a.eval x = .pointer (some ⟨g, 0, none⟩)) (hy : a.eval y = .agg (u8s l).toArray) (t : TypeId) (old : Array Value) (hg : Blk w g t old) (hold : old.size = 4)
    (h : wpList Tryd.prog ops Q rest (a.put o.dst undef) (w.setRow g (u8s l).toArray)) : wpList Tryd.prog ops Q (o :: rest) a w :=
  wpList_store_row hgd 86 x y ho g _ hx hy t old hg (f4_size l hl) (by rw [hold]; simp [hl]) (all_oneCell_toArray (u8s_one l)) h
/-- What was read up to j; the field begins at f. -/
def St (l : List UInt8) (f j : Nat) (ds : List Int) : Prop := Oct ds ∧
  ((f ≤ j ∧ j ≤ l.length ∧ (46 : UInt8) ∉ (l.drop f).take (j - f) ∧ un l = U ds (l.drop f)) ∨ (j = l.length + 1 ∧ f = l.length + 1 ∧ un l = if ds.length = 4 then some ds else none))
theorem St.go {l : List UInt8} {f j : Nat} {ds : List Int} (h : St l f j ds) (hj : j < l.length) (hc : l[j] ≠ 46) : St l f (j + 1) ds := by
  obtain ⟨ho, ⟨h1, h2, h3, h4⟩ | ⟨h1, _⟩⟩ := h
  · refine ⟨ho, .inl ⟨by omega, by omega, ?_, h4⟩⟩
    rw [show j + 1 - f = (j - f) + 1 by omega, List.take_succ_eq_append_getElem (by rw [List.length_drop]; omega)]
    intro hm
    rcases List.mem_append.1 hm with hm | hm
    · exact h3 hm
    · simp only [List.getElem_drop, List.mem_singleton] at hm
      have e : f + (j - f) = j := by omega
      simp only [e] at hm
      exact hc hm.symm
  · omega
theorem St.field {l : List UInt8} {f j : Nat} {ds : List Int} (h : St l f j ds) (hj : j < l.length ∧ l[j]? = some 46 ∨ j = l.length) :
    (digits ((l.drop f).take (j - f)) 255 = none → un l = none) ∧ (4 ≤ ds.length → un l = none) ∧ (∀ d, digits ((l.drop f).take (j - f)) 255 = some d → St l (j + 1) (j + 1) (ds ++ [d])) := by
  obtain ⟨ho, ⟨h1, h2, h3, h4⟩ | ⟨h1, _⟩⟩ := h
  · refine ⟨fun hd => ?_, fun hf => ?_, fun d hd => ?_⟩
    · rw [h4]
      rcases hj with ⟨hj, hc⟩ | hj
      · refine U_fail ds _ ((l.drop f).take (j - f)) (fields (l.drop (j + 1))) ?_ hd
        have e : l.drop f = (l.drop f).take (j - f) ++ 46 :: l.drop (j + 1) := by
          have h1' := List.take_append_drop (j - f) (l.drop f)
          rw [List.drop_drop, show f + (j - f) = j by omega, List.drop_eq_getElem_cons hj] at h1'
          have h2' : l[j] = 46 := by rw [List.getElem?_eq_getElem hj] at hc; exact Option.some.inj hc
          rw [h2'] at h1'
          exact h1'.symm
        conv => lhs; rw [e]
        exact fields_cut _ _ h3
      · refine U_fail ds _ ((l.drop f).take (j - f)) [] ?_ hd
        have e : (l.drop f).take (j - f) = l.drop f := by rw [List.take_of_length_le]; rw [List.length_drop]; omega
        rw [e] at h3 ⊢
        exact fields_end _ h3
    · rw [h4]; exact U_full _ _ hf
    · have hd2 := digits_lt _ _ _ hd
      have ho2 : Oct (ds ++ [d]) := by
        intro x hx
        rcases List.mem_append.1 hx with hx | hx
        · exact ho x hx
        · simp at hx; omega
      rcases hj with ⟨hj, hc⟩ | hj
      · have e : l.drop f = (l.drop f).take (j - f) ++ 46 :: l.drop (j + 1) := by
          have h1' := List.take_append_drop (j - f) (l.drop f)
          rw [List.drop_drop, show f + (j - f) = j by omega, List.drop_eq_getElem_cons hj] at h1'
          have h2' : l[j] = 46 := by rw [List.getElem?_eq_getElem hj] at hc; exact Option.some.inj hc
          rw [h2'] at h1'
          exact h1'.symm
        refine ⟨ho2, .inl ⟨Nat.le_refl _, by omega, by simp, ?_⟩⟩
        rw [h4]
        refine U_dot ds _ ((l.drop f).take (j - f)) _ d ?_ hd
        conv => lhs; rw [e]
        exact fields_cut _ _ h3
      · have e : (l.drop f).take (j - f) = l.drop f := by rw [List.take_of_length_le]; rw [List.length_drop]; omega
        refine ⟨ho2, .inr ⟨by omega, by omega, ?_⟩⟩
        rw [h4]
        rw [e] at h3 hd
        exact U_end ds _ _ d (fields_end _ h3) hd
  · rcases hj with hj | hj <;> omega
def UF (w : World) (s : ByteArray) (e : Ending) (w' : World) : Prop := ∃ (l : List Int) (b : Bool), e = .returned (.tuple #[.agg (u8s l).toArray, .bool b]) ∧ l.length = 4 ∧ Oct l ∧ un s.data.toList = (if b then some l else none) ∧ Below w.heap.size w w'
theorem fill4 (ds : List Int) (k : Nat) (hk : ds.length = k) (h4 : k ≤ 4) (ho : Oct ds) : (ds ++ List.replicate (4 - k) 0).length = 4 ∧ Oct (ds ++ List.replicate (4 - k) 0) := by
  refine ⟨by simp [hk]; omega, ?_⟩
  intro x hx
  rcases List.mem_append.1 hx with hx | hx
  · exact ho x hx
  · have := (List.mem_replicate.1 hx).2; omega
set_option maxHeartbeats 4000000 in
set_option maxRecDepth 100000 in
theorem uf_is (w : World) (s : ByteArray) (hs : s.size ≤ 4294967296) : Calls Tryd.prog 63 #[.string s] w (UF w s) := by
  have HL := Lib.hid (str_len s)
  have HB0 : Hid (Blk ((w.alloc (.cells zr4 86)).alloc (.cells zr4 86)) (w.heap.size + 1) 86 (u8s (List.replicate 4 0)).toArray) := Lib.hid (by
    have h := Blk.new (w.alloc (.cells zr4 86)) 86 zr4
    rwa [show (w.alloc (.cells zr4 86)).heap.size = w.heap.size + 1 by simp] at h)
  have HR0 : Hid (Blk ((w.alloc (.cells zr4 86)).alloc (.cells zr4 86)) w.heap.size 86 zr4) := Lib.hid ((Blk.new w 86 zr4).alloc _)
  have HW0 : Hid (Below w.heap.size w ((w.alloc (.cells zr4 86)).alloc (.cells zr4 86))) := Lib.hid (((Below.refl w.heap.size w).alloc (Nat.le_refl _) _).alloc (by simp) _)
  have H0 : Hid (St s.data.toList 0 0 []) := Lib.hid ⟨fun x hx => by simp at hx, .inl ⟨Nat.le_refl _, Nat.zero_le _, by simp, by rw [List.drop_zero, U_nil]⟩⟩
  go_enter Tryd.func63, Tryd.ntmps63
  go_wp2
  go_loopw [5, 6, 7, 8, 9] (fun fr kv i _ _ wr => ∃ (f k j : Nat) (ds : List Int), fr = .int .i64 f ∧ kv = .int .i64 k ∧ i = .int .i64 j ∧ j ≤ s.size + 1 ∧ ds.length = k ∧ k ≤ 4 ∧ St s.data.toList f j ds ∧ Blk wr (w.heap.size + 1) 86 (u8s (ds ++ List.replicate (4 - k) 0)).toArray ∧ Blk wr w.heap.size 86 zr4 ∧ Below w.heap.size w wr) (fun _ _ i _ _ _ => s.size + 1 - (intOf i).toNat)
  case atStart => exact ⟨0, 0, 0, [], rfl, rfl, rfl, Nat.zero_le _, rfl, Nat.zero_le _, H0.out, HB0.out, HR0.out, HW0.out⟩
  case round =>
    obtain ⟨f, k, j, ds, rfl, rfl, rfl, hj1, hdk, hk4, hst, hb, hr, hl⟩ := hrel
    have HS := Lib.hid hst
    have HB := Lib.hid hb
    have HR := Lib.hid hr
    have HW := Lib.hid hl
    have HK := Lib.hid hdk
    have HF := Lib.hid (fill4 ds k hdk hk4 hst.1)
    clear hst hb hr hl hdk HB0 HR0 HW0 H0
    by_cases hjs : j ≤ s.size
    · have hfj : f ≤ j := by
        rcases HS.out.2 with h | h
        · exact h.1
        · have := HL.out; omega
      by_cases hc : j < s.size ∧ s.data.toList[j]? ≠ some 46
      · obtain ⟨hlt, hne⟩ := hc
        have hg := str_get s j hlt
        have HN : Hid (St s.data.toList f (j + 1) ds) := Lib.hid (HS.out.go (by rw [HL.out]; exact hlt) (by
          intro e
          apply hne
          rw [List.getElem?_eq_getElem (by rw [HL.out]; exact hlt), e]))
        have hq : ((s[j].toNat : Int) != 46) = true := by
          rw [bne_iff_ne]
          intro e
          apply hne
          rw [List.getElem?_eq_getElem (by rw [HL.out]; exact hlt), hg]
          congr 1
          apply UInt8.toNat_inj.1
          have : ((46 : UInt8).toNat) = 46 := rfl
          omega
        clear hne hg HS
        go_wp2
        exact ⟨⟨f, k, j + 1, ds, rfl, rfl, by go_num, by omega, HK.out, hk4, HN.out, HB.out, HR.out, HW.out⟩, by simp [intOf]; omega⟩
      · have HFd := Lib.hid (HS.out.field (j := j) (by
          by_cases hlt : j < s.size
          · refine .inl ⟨by rw [HL.out]; exact hlt, Classical.byContradiction fun h => hc ⟨hlt, h⟩⟩
          · exact .inr (by rw [HL.out]; omega)))
        have HX : Hid ((s.extract f j).data.toList = (s.data.toList.drop f).take (j - f)) := Lib.hid (Lib.extract_data s f j)
        have hor : (∃ h : j < s.size, ((s[j].toNat : Int) != 46) = false) ∨ ¬ (j : Int) < (s.size : Int) := by
          by_cases hlt : j < s.size
          · refine .inl ⟨hlt, ?_⟩
            have h46 : s.data.toList[j]? = some 46 := Classical.byContradiction fun h => hc ⟨hlt, h⟩
            rw [List.getElem?_eq_getElem (by rw [HL.out]; exact hlt), str_get s j hlt] at h46
            have := Option.some.inj h46
            rw [this]
            rfl
          · exact .inr (by omega)
        have hxs : (s.extract f j).size ≤ s.size := by rw [ByteArray.size_extract]; omega
        clear hc HS
        rcases hor with ⟨hlt, hq⟩ | hge
        all_goals
          go_wp2_with fail
          refine (rdg_is _ (s.extract f j) 255 (by omega) (by omega)).mono ?_
          rintro e w' ⟨rfl, rfl⟩
          rw [HX.out]
          cases hd : digits ((s.data.toList.drop f).take (j - f)) 255 with
          | none =>
            have HN := Lib.hid (HFd.out.1 hd)
            clear HFd hd HX
            simp only [digV, Option.getD_none, Option.isSome_none]
            generalize ds ++ List.replicate (4 - k) 0 = L at *
            go_wp2_with (first
              | (refine f4_fetch rfl _ rfl (w.heap.size + 1) L HF.out.1 rfl HB.out.range ?_)
              | (refine f4_store rfl _ _ rfl w.heap.size L HF.out.1 rfl rfl 86 zr4 HR.out rfl ?_))
            refine bodyPost_ret (v := .tuple #[.agg (u8s L).toArray, .bool false]) ?_ rfl ⟨_, false, rfl, HF.out.1, HF.out.2, HN.out, HW.out.trans (below_setRow _ _ _ (Nat.le_refl _))⟩
            exact results_cell_slot rfl _ _ w.heap.size 86 _ _ _ rfl rfl (Blk.setRow HR.out _) Tryd.underlying86 rfl (f4_size _ HF.out.1)
          | some d =>
            have hdb := digits_lt _ _ _ hd
            by_cases h4 : k = 4
            · have HN := Lib.hid (HFd.out.2.1 (by rw [HK.out]; omega))
              have hk3 : (k : Int) > 3 := by omega
              clear HFd hd HX
              simp only [digV, Option.getD_some, Option.isSome_some]
              generalize ds ++ List.replicate (4 - k) 0 = L at *
              go_wp2_with (first
                | (refine f4_fetch rfl _ rfl (w.heap.size + 1) L HF.out.1 rfl HB.out.range ?_)
                | (refine f4_store rfl _ _ rfl w.heap.size L HF.out.1 rfl rfl 86 zr4 HR.out rfl ?_))
              refine bodyPost_ret (v := .tuple #[.agg (u8s L).toArray, .bool false]) ?_ rfl ⟨_, false, rfl, HF.out.1, HF.out.2, HN.out, HW.out.trans (below_setRow _ _ _ (Nat.le_refl _))⟩
              exact results_cell_slot rfl _ _ w.heap.size 86 _ _ _ rfl rfl (Blk.setRow HR.out _) Tryd.underlying86 rfl (f4_size _ HF.out.1)
            · have hk3 : ¬ (k : Int) > 3 := by omega
              have hk4' : k < 4 := by omega
              have HN := Lib.hid (HFd.out.2.2 d hd)
              have hcl := HB.out.cell k
              rw [show (u8s (ds ++ List.replicate (4 - k) 0)).toArray[k]? = some (.int .u8 0) from cell_mid ds 4 k HK.out hk4'] at hcl
              have hfr := HB.out.frozen k
              have hset := HB.out.set_ k (.int .u8 d)
              rw [set_mid ds 4 k d HK.out hk4'] at hset
              have HSet := Lib.hid hset
              have HR2 := Lib.hid (HR.out.far (p := ⟨w.heap.size + 1, k, none⟩) (by simp) (.int .u8 d))
              have HW2 := Lib.hid (HW.out.setCell (p := ⟨w.heap.size + 1, k, none⟩) (show w.heap.size ≤ w.heap.size + 1 by omega) (.int .u8 d))
              have hw8 : IntKind.u8.wrap d = d := by rw [IntKind.wrap_u8]; exact Int.emod_eq_of_lt (by omega) (by omega)
              have HK2 : Hid ((ds ++ [d]).length = k + 1) := Lib.hid (by rw [List.length_append, HK.out]; rfl)
              clear hset HFd hd HX HF HB HR HW h4
              simp only [digV, Option.getD_some, Option.isSome_some]
              go_wp2
              exact ⟨⟨j + 1, k + 1, j + 1, ds ++ [d], by go_num, by go_num, by go_num, by omega, HK2.out, by omega, HN.out, HSet.out, HR2.out, HW2.out⟩, by simp [intOf]; omega⟩
    · obtain rfl : j = s.size + 1 := by omega
      have HN : Hid (un s.data.toList = if k = 4 then some ds else none) := Lib.hid (by
        rcases HS.out.2 with h | h
        · have := HL.out; omega
        · rw [h.2.2, HK.out])
      clear HS
      by_cases h4 : k = 4
      · have hk : ((k : Int) == 4) = true := by rw [beq_iff_eq]; omega
        have HE : Hid (ds ++ List.replicate (4 - k) 0 = ds) := Lib.hid (by rw [h4]; simp)
        have HN2 : Hid (un s.data.toList = some ds) := Lib.hid (by rw [HN.out, if_pos h4])
        clear HN
        generalize ds ++ List.replicate (4 - k) 0 = L at *
        go_wp2_with (first
          | (refine f4_fetch rfl _ rfl (w.heap.size + 1) L HF.out.1 rfl HB.out.range ?_)
          | (refine f4_store rfl _ _ rfl w.heap.size L HF.out.1 rfl rfl 86 zr4 HR.out rfl ?_))
        refine bodyPost_ret (v := .tuple #[.agg (u8s L).toArray, .bool true]) ?_ rfl ⟨_, true, rfl, HF.out.1, HF.out.2, by rw [HN2.out, HE.out]; rfl, HW.out.trans (below_setRow _ _ _ (Nat.le_refl _))⟩
        exact results_cell_slot rfl _ _ w.heap.size 86 _ _ _ rfl rfl (Blk.setRow HR.out _) Tryd.underlying86 rfl (f4_size _ HF.out.1)
      · have hk : ((k : Int) == 4) = false := by rw [beq_eq_false_iff_ne]; omega
        have HN2 : Hid (un s.data.toList = none) := Lib.hid (by rw [HN.out, if_neg h4])
        clear HN
        generalize ds ++ List.replicate (4 - k) 0 = L at *
        go_wp2_with (first
          | (refine f4_fetch rfl _ rfl (w.heap.size + 1) L HF.out.1 rfl HB.out.range ?_)
          | (refine f4_store rfl _ _ rfl w.heap.size L HF.out.1 rfl rfl 86 zr4 HR.out rfl ?_))
        refine bodyPost_ret (v := .tuple #[.agg (u8s L).toArray, .bool false]) ?_ rfl ⟨_, false, rfl, HF.out.1, HF.out.2, HN2.out, HW.out.trans (below_setRow _ _ _ (Nat.le_refl _))⟩
        exact results_cell_slot rfl _ _ w.heap.size 86 _ _ _ rfl rfl (Blk.setRow HR.out _) Tryd.underlying86 rfl (f4_size _ HF.out.1)
end Go.Proofs.YtfapmedlnaikiaaDoor
