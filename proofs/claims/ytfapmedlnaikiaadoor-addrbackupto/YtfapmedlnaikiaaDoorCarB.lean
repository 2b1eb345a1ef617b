/-
  Layer 2 (addr): ParseMac, ParseEsi.
-/
import Derived.Test.YtfapmedlnaikiaaDoorCarA
namespace Go.Proofs.YtfapmedlnaikiaaDoor
open Go.RowKit
set_option linter.unusedSimpArgs false
set_option linter.unusedVariables false

set_option maxHeartbeats 1000000 in
theorem rp_is (w : World) (s : ByteArray) (g : Nat) (t : TypeId) (n : Nat) (hn : 1 ≤ n ∧ n ≤ 16) (hb : Blk w g t (u8s (List.replicate n 0)).toArray) :
    Calls Tryd.prog 53 #[.string s, .slice (some ⟨g, 0, none⟩) n n] w (RP w g t (prs s n)) := by
  by_cases hs : s.size + 1 = 3 * n
  · have h : prs s n = prTo s n := by unfold prs; rw [if_pos hs]
    rw [h]
    exact rp_go w s g t n hn hs hb
  · have HN : Hid (prs s n = none) := Lib.hid (by unfold prs; rw [if_neg hs])
    have hne : ((s.size : Int) != 3 * (n : Int) - 1) = true := by simp; omega
    clear hs hb
    go_enter Tryd.func53, Tryd.ntmps53
    go_wp2
    go_ret
    exact ⟨by rw [HN.out]; rfl, (fun l h => by rw [HN.out] at h; cases h), Below.refl _ _⟩
theorem prs_bd {s : ByteArray} {n : Nat} {l : List Int} (h : prs s n = some l) : l.length = n ∧ Oct l := by
  unfold prs at h
  split at h
  · exact ⟨prTo_len s n l h, prTo_oct s n l h⟩
  · cases h
/-- What a reader of names hands back. -/
def namE (n : Nat) (o : Option (List Int)) : Value := match o with
  | some l => .tuple #[.agg (u8s l).toArray, .int .i64 0]
  | none => .tuple #[.agg (u8s (List.replicate n 0)).toArray, .int .i64 4]
def Nam (w : World) (n : Nat) (o : Option (List Int)) (e : Ending) (w' : World) : Prop := e = .returned (namE n o) ∧ Below w.heap.size w w'

abbrev zmac : Array Value := #[Value.int .u8 0, Value.int .u8 0, Value.int .u8 0, Value.int .u8 0, Value.int .u8 0, Value.int .u8 0]
theorem mac_size (l : List Int) (hl : l.length = 6) : (Tryd.prog.info? 23).map (·.size) = some (u8s l).toArray.size := by
  have : (Tryd.prog.info? 23).map (·.size) = some 6 := by kernel_rfl
  rw [this]; simp [hl]
theorem mac_fetch {ops : Array Oper} {rest : List Oper} {op : Oper} {a : Act} {w : World} {Q : Exit → Act → World → Prop} (hw : Region.wanted op (yielded ops a.tmps) = true) (x : Operand) (ho : op.op = .load 23 x) (b : Nat) (l : List Int) (hl : l.length = 6)
    (hx : a.eval x = .pointer (some ⟨b, 0, none⟩)) (hc : w.rangeAt b 0 (u8s l)) (h : wpList Tryd.prog ops Q rest (a.put op.dst (.agg (u8s l).toArray)) w) : wpList Tryd.prog ops Q (op :: rest) a w :=
  BigFrame.wpList_want hw fun _ hK => wp_load_mid 23 x ho b 0 hx (u8s l) _ hc Tryd.underlying23 rfl (by simpa using mac_size l hl) (hK _ _ h)
theorem mac_store {ops : Array Oper} {rest : List Oper} {o : Oper} {a : Act} {w : World} {Q : Exit → Act → World → Prop} (hgd : o.guard = none) (x y : Operand) (ho : o.op = .store 23 x y) (g : Nat) (l : List Int) (hl : l.length = 6)
    (hx : a.eval x = .pointer (some ⟨g, 0, none⟩)) (hy : a.eval y = .agg (u8s l).toArray) (t : TypeId) (old : Array Value) (hg : Blk w g t old) (hold : old.size = 6)
    (h : wpList Tryd.prog ops Q rest (a.put o.dst undef) (w.setRow g (u8s l).toArray)) : wpList Tryd.prog ops Q (o :: rest) a w :=
  wpList_store_row hgd 23 x y ho g _ hx hy t old hg (mac_size l hl) (by rw [hold]; simp [hl]) (all_oneCell_toArray (u8s_one l)) h
set_option maxHeartbeats 4000000 in
set_option maxRecDepth 100000 in
theorem pmac_is (w : World) (s : ByteArray) : Calls Tryd.prog 10 #[.string s] w (Nam w 6 (prs s 6)) := by
  have hz : (zmac : Array Value) = (u8s (List.replicate 6 0)).toArray := rfl
  have HR := Lib.hid ((Blk.new w 23 zmac).alloc (.cells zmac 23))
  have hM := Blk.new (w.alloc (.cells zmac 23)) 23 zmac
  rw [show (w.alloc (.cells zmac 23)).heap.size = w.heap.size + 1 by simp] at hM
  have HM : Hid (Blk ((w.alloc (.cells zmac 23)).alloc (.cells zmac 23)) (w.heap.size + 1) 23 (u8s (List.replicate 6 0)).toArray) := Lib.hid hM
  have HL : Hid (Below w.heap.size w ((w.alloc (.cells zmac 23)).alloc (.cells zmac 23))) := Lib.hid (((Below.refl w.heap.size w).alloc (Nat.le_refl _) _).alloc (by simp) _)
  clear hM hz
  go_enter Tryd.func10, Tryd.ntmps10
  go_wp2_with fail
  refine (rp_is _ s (w.heap.size + 1) 23 6 (by omega) HM.out).mono ?_
  rintro e w1 ⟨rfl, hsome, hB⟩
  have HR1 := Lib.hid (HR.out.below hB (by omega))
  have HL1 := Lib.hid (HL.out.trans (hB.mono (by omega)))
  have HBd := Lib.hid (fun l => prs_bd (s := s) (n := 6) (l := l))
  clear hB HR HM HL
  cases ho : prs s 6 with
  | none =>
    have HN := Lib.hid ho
    clear hsome ho HBd
    simp only [Option.isSome_none]
    go_wp2_with (refine mac_store rfl _ _ rfl w.heap.size (List.replicate 6 0) rfl rfl rfl 23 zmac HR1.out rfl ?_)
    refine bodyPost_ret (v := namE 6 none) ?_ rfl ⟨by rw [HN.out], HL1.out.trans (below_setRow _ _ _ (Nat.le_refl _))⟩
    exact results_cell_slot rfl _ _ w.heap.size 23 _ _ _ rfl rfl (Blk.setRow HR1.out _) Tryd.underlying23 rfl (by kernel_rfl)
  | some l =>
    have HS := Lib.hid (hsome l ho)
    have hl := (HBd.out l ho).1
    have HN := Lib.hid ho
    clear hsome ho HBd
    simp only [Option.isSome_some]
    go_wp2_with (first
      | (refine mac_fetch rfl _ rfl (w.heap.size + 1) l hl rfl HS.out.range ?_)
      | (refine mac_store rfl _ _ rfl w.heap.size l hl rfl rfl 23 zmac HR1.out rfl ?_))
    refine bodyPost_ret (v := namE 6 (some l)) ?_ rfl ⟨by rw [HN.out], HL1.out.trans (below_setRow _ _ _ (Nat.le_refl _))⟩
    exact results_cell_slot rfl _ _ w.heap.size 23 _ _ _ rfl rfl (Blk.setRow HR1.out _) Tryd.underlying23 rfl (mac_size l hl)

abbrev zesi : Array Value := #[Value.int .u8 0, Value.int .u8 0, Value.int .u8 0, Value.int .u8 0, Value.int .u8 0, Value.int .u8 0, Value.int .u8 0, Value.int .u8 0, Value.int .u8 0, Value.int .u8 0]
theorem esi_size (l : List Int) (hl : l.length = 10) : (Tryd.prog.info? 25).map (·.size) = some (u8s l).toArray.size := by
  have : (Tryd.prog.info? 25).map (·.size) = some 10 := by kernel_rfl
  rw [this]; simp [hl]
theorem esi_fetch {ops : Array Oper} {rest : List Oper} {op : Oper} {a : Act} {w : World} {Q : Exit → Act → World → Prop} (hw : Region.wanted op (yielded ops a.tmps) = true) (x : Operand) (ho : op.op = .load 25 x) (b : Nat) (l : List Int) (hl : l.length = 10)
    (hx : a.eval x = .pointer (some ⟨b, 0, none⟩)) (hc : w.rangeAt b 0 (u8s l)) (h : wpList Tryd.prog ops Q rest (a.put op.dst (.agg (u8s l).toArray)) w) : wpList Tryd.prog ops Q (op :: rest) a w :=
  BigFrame.wpList_want hw fun _ hK => wp_load_mid 25 x ho b 0 hx (u8s l) _ hc Tryd.underlying25 rfl (by simpa using esi_size l hl) (hK _ _ h)
theorem esi_store {ops : Array Oper} {rest : List Oper} {o : Oper} {a : Act} {w : World} {Q : Exit → Act → World → Prop} (hgd : o.guard = none) (x y : Operand) (ho : o.op = .store 25 x y) (g : Nat) (l : List Int) (hl : l.length = 10)
    (hx : a.eval x = .pointer (some ⟨g, 0, none⟩)) (hy : a.eval y = .agg (u8s l).toArray) (t : TypeId) (old : Array Value) (hg : Blk w g t old) (hold : old.size = 10)
    (h : wpList Tryd.prog ops Q rest (a.put o.dst undef) (w.setRow g (u8s l).toArray)) : wpList Tryd.prog ops Q (o :: rest) a w :=
  wpList_store_row hgd 25 x y ho g _ hx hy t old hg (esi_size l hl) (by rw [hold]; simp [hl]) (all_oneCell_toArray (u8s_one l)) h
set_option maxHeartbeats 4000000 in
set_option maxRecDepth 100000 in
theorem pesi_is (w : World) (s : ByteArray) : Calls Tryd.prog 12 #[.string s] w (Nam w 10 (prs s 10)) := by
  have hz : (zesi : Array Value) = (u8s (List.replicate 10 0)).toArray := rfl
  have HR := Lib.hid ((Blk.new w 25 zesi).alloc (.cells zesi 25))
  have hM := Blk.new (w.alloc (.cells zesi 25)) 25 zesi
  rw [show (w.alloc (.cells zesi 25)).heap.size = w.heap.size + 1 by simp] at hM
  have HM : Hid (Blk ((w.alloc (.cells zesi 25)).alloc (.cells zesi 25)) (w.heap.size + 1) 25 (u8s (List.replicate 10 0)).toArray) := Lib.hid hM
  have HL : Hid (Below w.heap.size w ((w.alloc (.cells zesi 25)).alloc (.cells zesi 25))) := Lib.hid (((Below.refl w.heap.size w).alloc (Nat.le_refl _) _).alloc (by simp) _)
  clear hM hz
  go_enter Tryd.func12, Tryd.ntmps12
  go_wp2_with fail
  refine (rp_is _ s (w.heap.size + 1) 25 10 (by omega) HM.out).mono ?_
  rintro e w1 ⟨rfl, hsome, hB⟩
  have HR1 := Lib.hid (HR.out.below hB (by omega))
  have HL1 := Lib.hid (HL.out.trans (hB.mono (by omega)))
  have HBd := Lib.hid (fun l => prs_bd (s := s) (n := 10) (l := l))
  clear hB HR HM HL
  cases ho : prs s 10 with
  | none =>
    have HN := Lib.hid ho
    clear hsome ho HBd
    simp only [Option.isSome_none]
    go_wp2_with (refine esi_store rfl _ _ rfl w.heap.size (List.replicate 10 0) rfl rfl rfl 25 zesi HR1.out rfl ?_)
    refine bodyPost_ret (v := namE 10 none) ?_ rfl ⟨by rw [HN.out], HL1.out.trans (below_setRow _ _ _ (Nat.le_refl _))⟩
    exact results_cell_slot rfl _ _ w.heap.size 25 _ _ _ rfl rfl (Blk.setRow HR1.out _) Tryd.underlying25 rfl (by kernel_rfl)
  | some l =>
    have HS := Lib.hid (hsome l ho)
    have hl := (HBd.out l ho).1
    have HN := Lib.hid ho
    clear hsome ho HBd
    simp only [Option.isSome_some]
    go_wp2_with (first
      | (refine esi_fetch rfl _ rfl (w.heap.size + 1) l hl rfl HS.out.range ?_)
      | (refine esi_store rfl _ _ rfl w.heap.size l hl rfl rfl 25 zesi HR1.out rfl ?_))
    refine bodyPost_ret (v := namE 10 (some l)) ?_ rfl ⟨by rw [HN.out], HL1.out.trans (below_setRow _ _ _ (Nat.le_refl _))⟩
    exact results_cell_slot rfl _ _ w.heap.size 25 _ _ _ rfl rfl (Blk.setRow HR1.out _) Tryd.underlying25 rfl (esi_size l hl)
end Go.Proofs.YtfapmedlnaikiaaDoor
