/-
  Layer 2 (addr): ParseMac, ParseEsi.
-/
import Derived.Test.YtkaimdcepnhkdaaDoorCarA
namespace Go.Proofs.YtkaimdcepnhkdaaDoor
open Go.RowKit
set_option linter.unusedSimpArgs false
set_option linter.unusedVariables false

theorem prs_bd {s : ByteArray} {n : Nat} {l : List Int} (h : prs s n = some l) : l.length = n ∧ Oct l := by
  unfold prs at h
  split at h
  · exact ⟨prTo_len s n l h, prTo_oct s n l h⟩
  · cases h
/-- What a reader of names hands back. -/
def namE (n : Nat) (o : Option (List Int)) : Value := match o with
  | some l => .tuple #[.agg (u8s l).toArray, .int .i64 0]
  | none => .tuple #[.agg (u8s (List.replicate n 0)).toArray, .int .i64 4]
def Nam (w : World) (n : Nat) (o : Option (List Int)) (e : Ending) (w' : World) : Prop := e = .returned (namE n o) ∧ Below w.heap.size w w'

abbrev zmac : Array Value := #[Value.int .u8 0, Value.int .u8 0, Value.int .u8 0, Value.int .u8 0, Value.int .u8 0, Value.int .u8 0]
theorem mac_size (l : List Int) (hl : l.length = 6) : (Tryd.prog.info? 49).map (·.size) = some (u8s l).toArray.size := by
  have : (Tryd.prog.info? 49).map (·.size) = some 6 := by kernel_rfl
  rw [this]; simp [hl]
theorem mac_fetch {ops : Array Oper} {rest : List Oper} {op : Oper} {a : Act} {w : World} {Q : Exit → Act → World → Prop} (hw : Region.wanted op (yielded ops a.tmps) = true) (x : Operand) (ho : op.op = .load 49 x) (b : Nat) (l : List Int) (hl : l.length = 6)
    (hx : a.eval x = .pointer (some ⟨b, 0, none⟩)) (hc : w.rangeAt b 0 (u8s l)) (h : wpList Tryd.prog ops Q rest (a.put op.dst (.agg (u8s l).toArray)) w) : wpList Tryd.prog ops Q (op :: rest) a w :=
  BigFrame.wpList_want hw fun _ hK => wp_load_mid 49 x ho b 0 hx (u8s l) _ hc Tryd.underlying49 rfl (by simpa using mac_size l hl) (hK _ _ h)
theorem mac_store {ops : Array Oper} {rest : List Oper} {o : Oper} {a : Act} {w : World} {Q : Exit → Act → World → Prop} (hgd : o.guard = none) (x y : Operand) (ho : o.op = .store 49 x y) (g : Nat) (l : List Int) (hl : l.length = 6)
    (hx : a.eval x = .pointer (some ⟨g, 0, none⟩)) (hy : a.eval y = .agg (u8s l).toArray) (t : TypeId) (old : Array Value) (hg : Blk w g t old) (hold : old.size = 6)
    (h : wpList Tryd.prog ops Q rest (a.put o.dst undef) (w.setRow g (u8s l).toArray)) : wpList Tryd.prog ops Q (o :: rest) a w :=
  wpList_store_row hgd 49 x y ho g _ hx hy t old hg (mac_size l hl) (by rw [hold]; simp [hl]) (all_oneCell_toArray (u8s_one l)) h
abbrev zesi : Array Value := #[Value.int .u8 0, Value.int .u8 0, Value.int .u8 0, Value.int .u8 0, Value.int .u8 0, Value.int .u8 0, Value.int .u8 0, Value.int .u8 0, Value.int .u8 0, Value.int .u8 0]
end Go.Proofs.YtkaimdcepnhkdaaDoor
