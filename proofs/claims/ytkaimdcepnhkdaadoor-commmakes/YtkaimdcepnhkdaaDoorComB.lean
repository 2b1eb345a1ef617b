/-
  Layer 4 (comm): communities are made.
-/
import Derived.Test.YtkaimdcepnhkdaaDoorComA
import Derived.Deep.RegionHeld3
import Derived.Laws.CopyRow
namespace Go.Proofs.YtkaimdcepnhkdaaDoor
open Go.RowKit
set_option linter.unusedSimpArgs false
set_option linter.unusedVariables false

theorem u8s_one1 (l : List Int) : ∀ x ∈ u8s l, x.oneCell' = true := by
  intro x hx
  obtain ⟨y, _, rfl⟩ := List.mem_map.1 hx
  rfl
theorem comm_size (l : List Int) (hl : l.length = 8) : (Tryd.prog.info? 52).map (·.size) = some (u8s l).toArray.size := by
  have : (Tryd.prog.info? 52).map (·.size) = some 8 := by kernel_rfl
  rw [this]; simp [hl]
theorem comm_fetch {ops : Array Oper} {rest : List Oper} {op : Oper} {a : Act} {w : World} {Q : Exit → Act → World → Prop} (hw : Region.wanted op (yielded ops a.tmps) = true) (x : Operand) (ho : op.op = .load 52 x) (b : Nat) (o : Nat) (l : List Int) (hl : l.length = 8)
    (hx : a.eval x = .pointer (some ⟨b, o, none⟩)) (hc : w.rangeAt b o (u8s l)) (h : wpList Tryd.prog ops Q rest (a.put op.dst (.agg (u8s l).toArray)) w) : wpList Tryd.prog ops Q (op :: rest) a w :=
  BigFrame.wpList_want hw fun _ hK => wp_load_mid 52 x ho b o hx (u8s l) _ hc Tryd.underlying52 rfl (by simpa using comm_size l hl) (hK _ _ h)
theorem comm_store {ops : Array Oper} {rest : List Oper} {o : Oper} {a : Act} {w : World} {Q : Exit → Act → World → Prop} (hgd : o.guard = none) (x y : Operand) (ho : o.op = .store 52 x y) (g : Nat) (l : List Int) (hl : l.length = 8)
    (hx : a.eval x = .pointer (some ⟨g, 0, none⟩)) (hy : a.eval y = .agg (u8s l).toArray) (t : TypeId) (old : Array Value) (hg : Blk w g t old) (hold : old.size = 8)
    (h : wpList Tryd.prog ops Q rest (a.put o.dst undef) (w.setRow g (u8s l).toArray)) : wpList Tryd.prog ops Q (o :: rest) a w :=
  wpList_store_row hgd 52 x y ho g _ hx hy t old hg (comm_size l hl) (by rw [hold]; simp [hl]) (all_oneCell_toArray (u8s_one1 l)) h
theorem mac6_size (l : List Int) (hl : l.length = 6) : (Tryd.prog.info? 49).map (·.size) = some (u8s l).toArray.size := by
  have : (Tryd.prog.info? 49).map (·.size) = some 6 := by kernel_rfl
  rw [this]; simp [hl]
theorem mac6_fetch {ops : Array Oper} {rest : List Oper} {op : Oper} {a : Act} {w : World} {Q : Exit → Act → World → Prop} (hw : Region.wanted op (yielded ops a.tmps) = true) (x : Operand) (ho : op.op = .load 49 x) (b o : Nat) (l : List Int) (hl : l.length = 6)
    (hx : a.eval x = .pointer (some ⟨b, o, none⟩)) (hc : w.rangeAt b o (u8s l)) (h : wpList Tryd.prog ops Q rest (a.put op.dst (.agg (u8s l).toArray)) w) : wpList Tryd.prog ops Q (op :: rest) a w :=
  BigFrame.wpList_want hw fun _ hK => wp_load_mid 49 x ho b o hx (u8s l) _ hc Tryd.underlying49 rfl (by simpa using mac6_size l hl) (hK _ _ h)
abbrev zc8 : Array Value := #[Value.int .u8 0, Value.int .u8 0, Value.int .u8 0, Value.int .u8 0, Value.int .u8 0, Value.int .u8 0, Value.int .u8 0, Value.int .u8 0]
def z8 : List Int := [0, 0, 0, 0, 0, 0, 0, 0]
/-- The end of a function that answers a community. -/
theorem comm_res {fn : Func} {p : Tmp} (h : fn.results = #[.cell p 52]) (tmps : Array Value) (w : World) (g : Nat) (t : TypeId) (l : List Int) (hl : l.length = 8)
    (hp : tmps.getD p undef = .pointer (some ⟨g, 0, none⟩)) (hg : Blk w g t (u8s l).toArray) : (results fn tmps).run Tryd.prog w = .ok (.agg (u8s l).toArray) w :=
  results_cell_row h tmps w g t _ (0, 0) _ hp hg Tryd.underlying52 rfl (comm_size l hl)
theorem size_a2 (w : World) (o o' : Obj) : ((w.alloc o).alloc o').heap.size = w.heap.size + 2 := by simp
theorem size_a1 (w : World) (o : Obj) : (w.alloc o).heap.size = w.heap.size + 1 := by simp
set_option maxHeartbeats 1000000 in
set_option maxRecDepth 100000 in
theorem beg_is (w : World) (h : Int) (h0 : 0 ≤ h) (h1 : h < 4294967296) :
    Calls Tryd.prog 87 #[.int .u32 h] w fun e w' => e = .returned (.agg (u8s (put8 z8 0 2 h)).toArray) ∧ Below w.heap.size w w' := by
  have HR := Lib.hid ((Blk.new w 52 zc8).alloc (.cells zc8 52))
  have hM := Blk.new (w.alloc (.cells zc8 52)) 52 zc8
  rw [size_a1] at hM
  have HM : Hid (Blk ((w.alloc (.cells zc8 52)).alloc (.cells zc8 52)) (w.heap.size + 1) 52 (u8s z8).toArray) := Lib.hid hM
  have HL : Hid (Below w.heap.size w ((w.alloc (.cells zc8 52)).alloc (.cells zc8 52))) := Lib.hid (((Below.refl w.heap.size w).alloc (Nat.le_refl _) _).alloc (by simp) _)
  clear hM
  go_enter Tryd.func87, Tryd.ntmps87
  go_wp2_with fail
  refine (pn_is _ (w.heap.size + 1) 52 z8 0 2 8 h HM.out (by decide) (by decide) h0 h1).mono ?_
  rintro e w1 ⟨rfl, hb, hg⟩
  have HB := Lib.hid hb
  have HR1 := Lib.hid (HR.out.grown hg (by simp))
  have HL1 := Lib.hid (below_only HL.out hg HL.out.size (fun g e => by cases e; omega))
  clear hb hg HR HM HL
  go_wp2_with (first
    | (refine comm_fetch rfl _ rfl (w.heap.size + 1) 0 (put8 z8 0 2 h) (put8_len _ _ _ _ (by decide)) rfl HB.out.range ?_)
    | (refine comm_store rfl _ _ rfl w.heap.size (put8 z8 0 2 h) (put8_len _ _ _ _ (by decide)) rfl rfl 52 zc8 HR1.out rfl ?_))
  exact bodyPost_ret (comm_res rfl _ _ w.heap.size 52 (put8 z8 0 2 h) (put8_len _ _ _ _ (by decide)) rfl (Blk.setRow HR1.out _)) rfl ⟨rfl, HL1.out.trans (below_setRow _ _ _ (Nat.le_refl _))⟩
def fl (b : Bool) : Int := if b then 1 else 0
set_option maxHeartbeats 1000000 in
set_option maxRecDepth 100000 in
theorem sf_is (w : World) (g : Nat) (t : TypeId) (a b : Int) (r : List Int) (on : Bool) (hb : Blk w g t (u8s (a :: b :: 0 :: r)).toArray) :
    Calls Tryd.prog 88 #[.pointer (some ⟨g, 0, none⟩), .bool on] w fun e w' => e = .returned (.tuple #[]) ∧ Blk w' g t (u8s (a :: b :: fl on :: r)).toArray ∧ w.grownBy w' (some g) := by
  have hc : w.cell? ⟨g, 2, none⟩ = some (.int .u8 0) := by rw [hb.cell]; rfl
  have hf := hb.frozen 2
  have HB := Lib.hid hb
  have HS : Hid (Blk (w.setCell ⟨g, 2, none⟩ (.int .u8 1)) g t (u8s (a :: b :: 1 :: r)).toArray) := Lib.hid (hb.set_ 2 (.int .u8 1))
  have HG := Lib.hid (only_setCell (only_refl w (some g)) (p := ⟨g, 2, none⟩) (.inl rfl) (.int .u8 1))
  have h01 : bits .or .u8 0 1 = 1 := by decide
  clear hb
  cases on
  · go_enter Tryd.func88, Tryd.ntmps88
    go_wp2
    go_end0
    exact ⟨rfl, HB.out, only_refl _ _⟩
  · go_enter Tryd.func88, Tryd.ntmps88
    go_wp2
    go_region
    go_wp2
    go_end0
    exact ⟨rfl, HS.out, only_drewN HG.out 1⟩
end Go.Proofs.YtkaimdcepnhkdaaDoor
