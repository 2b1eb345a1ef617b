/-
  Put together: NlR.
-/
import Derived.Test.YtdgoeibfggjbmaaGreatDoorMNM
import Derived.Test.YtdgoeibfggjbmaaGreatDoorMNP
namespace Go.Proofs.YtdgoeibfggjbmaaGreatDoor
open Go.RowKit
set_option maxRecDepth 100000
set_option linter.unusedSimpArgs false
set_option linter.unusedVariables false

theorem wpList_copy {P : Program} {ops : Array Oper} {rest : List Oper} {o : Oper} {a : Act} {w : World} {Q : Exit → Act → World → Prop} (hgd : o.guard = none) (s x : Operand) (dT sT elem : TypeId)
    (ho : o.op = .call { callee := .builtin .copy, args := #[s, x], argTypes := #[dT, sT] }) (hu : P.underlying dT = some (.slice elem)) (hsz : (P.info? elem).map (·.size) = some 1) (dp sp : Option Addr) (dLen dCap sLen sCap : Nat)
    (hs : a.eval s = .slice dp dLen dCap) (hx : a.eval x = .slice sp sLen sCap)
    (g off : Nat) (cur : List Value) (t : TypeId) (hg : w.heap[g]? = some (.cells cur.toArray t (0, 0))) (cs : List Value) (hn : cs.length = Nat.min sLen dLen)
    (hpos : 0 < cs.length → dp = some ⟨g, off, none⟩ ∧ ∃ ad, sp = some ad ∧ ∀ j v, cs[j]? = some v → w.cell? (ad.add j) = some v)
    (hfit : off + cs.length ≤ cur.length) (h1 : ∀ v ∈ cs, v.oneCell' = true)
    (h : ∀ w', w'.heap[g]? = some (.cells (cur.take off ++ cs ++ cur.drop (off + cs.length)).toArray t (0, 0)) → Below g w w' → wpList P ops Q rest (a.put o.dst (.int .i64 cs.length)) w') : wpList P ops Q (o :: rest) a w := by
  obtain ⟨w', hrun, hg', hB, _⟩ := copy_row (P := P) w dT sT o.type elem hu hsz dp sp dLen dCap sLen sCap g off cur t hg cs hn hpos hfit h1
  refine wpList_plain hgd fun _ hK => ?_
  unfold Oper.wp execOp
  simp only [ho, resolve, invoke, builtin, Sem.run_bind, Sem.run_pure, Result.andThen_ok, List.map_toArray, List.map_cons, List.map_nil, hs, hx, hrun]
  exact hK _ _ (h w' hg' hB)

def floodR : Rt := { rtZ 3 [0, 1, 10, 0, 0, 1, 0, 100] with pl := [10, 0, 0, 1, 0, 0, 0, 0, 0, 0, 0, 0, 0, 0, 0, 0], pn := 32 }
def flood1 : Rt := rtZ 3 [0, 1, 10, 0, 0, 1, 0, 100]
theorem floodR_ok : RtOk floodR := by
  refine ⟨⟨by decide, by decide⟩, rfl, ?_, rfl, ?_, ⟨by decide, by decide⟩, rfl, ?_, rfl, ?_, ⟨by decide, by decide⟩, rfl, ?_, ⟨by decide, by decide⟩, ⟨by decide, by decide⟩⟩
  all_goals (unfold Oct; decide)
theorem flood1_ok : RtOk flood1 := by
  refine ⟨⟨by decide, by decide⟩, rfl, ?_, rfl, ?_, ⟨by decide, by decide⟩, rfl, ?_, rfl, ?_, ⟨by decide, by decide⟩, rfl, ?_, ⟨by decide, by decide⟩, ⟨by decide, by decide⟩⟩
  all_goals (unfold Oct; decide)
theorem flood_set : ((rtc flood1).toArray.setIfInBounds 43 (.int .i64 32)) = (rtc { flood1 with pn := 32 }).toArray := by kernel_rfl
theorem flood_copy : ((rtc { flood1 with pn := 32 }).take 27 ++ u8s [10, 0, 0, 1] ++ (rtc { flood1 with pn := 32 }).drop (27 + (u8s [10, 0, 0, 1]).length)) = rtc floodR := by kernel_rfl
structure FlW (w W : World) (r : Rt) : Prop where
  res : ∃ Z, Blk W w.heap.size 53 Z ∧ Z.size = 63
  rt : Blk W (w.heap.size + 1) 53 (rtc r).toArray
  low : Below w.heap.size w W
def StopAt (p : Prop) : Prop := p
theorem stop_here {P : Program} {ops : Array Oper} {rest : List Oper} {o : Oper} {a : Act} {w : World} {Q : Exit → Act → World → Prop} {n : Nat} (ho : o.dst = some n) (h : StopAt (wpList P ops Q (o :: rest) a w)) : wpList P ops Q (o :: rest) a w := h
section
variable {F1 F2 F3 : Rt}
theorem flCell {W : World} {g : Nat} (h : Blk W g 53 (rtc F1).toArray) (hc : (rtc F1)[43]? = some (.int .i64 0)) : W.cell? ⟨g, 43, none⟩ = some (.int .i64 0) := (h.cell 43).trans (by rw [List.getElem?_toArray]; exact hc)
theorem flC (he : (rtc F1).toArray.setIfInBounds 43 (.int .i64 32) = (rtc F2).toArray) {W : World} {g : Nat} (h : Blk W g 53 (rtc F1).toArray) : Hid (Blk ((W.setCell ⟨g, 43, none⟩ (.int .i64 32)).alloc (.cells #[.int .u8 10, .int .u8 0, .int .u8 0, .int .u8 1] 5)) g 53 (rtc F2).toArray) := Lib.hid (by
  have := h.set_ 43 (.int .i64 32)
  rw [he] at this
  exact this.alloc _)
theorem flS (W : World) (g : Nat) : Hid (0 < (u8s [10, 0, 0, 1]).length → (some ⟨g, 27, none⟩ : Option Addr) = some ⟨g, 27, none⟩ ∧ ∃ ad, (some ⟨W.heap.size, 0, none⟩ : Option Addr) = some ad ∧ ∀ j v, (u8s [10, 0, 0, 1])[j]? = some v → ((W.setCell ⟨g, 43, none⟩ (.int .i64 32)).alloc (.cells #[.int .u8 10, .int .u8 0, .int .u8 0, .int .u8 1] 5)).cell? (ad.add j) = some v) := Lib.hid (fun _ => ⟨rfl, _, rfl, fun j v hv => by
  have hs : (W.setCell ⟨g, 43, none⟩ (.int .i64 32)).heap.size = W.heap.size := by simp [World.setCell]
  have hb := Blk.new (W.setCell ⟨g, 43, none⟩ (.int .i64 32)) 5 #[.int .u8 10, .int .u8 0, .int .u8 0, .int .u8 1]
  rw [hs] at hb
  rw [show ((⟨W.heap.size, 0, none⟩ : Addr).add j) = ⟨W.heap.size, j, none⟩ from by unfold Addr.add; split <;> simp_all, hb.cell]
  rw [← hv, ← List.getElem?_toArray]
  rfl⟩)
theorem flE (h3 : RtOk F3) {w W W3 : World} (hZ : ∃ Z, Blk W w.heap.size 53 Z ∧ Z.size = 63) (hL : Below w.heap.size w W) (hg : W3.heap[w.heap.size + 1]? = some (.cells (rtc F3).toArray 53 (0, 0)))
    (hB : Below (w.heap.size + 1) ((W.setCell ⟨w.heap.size + 1, 43, none⟩ (.int .i64 32)).alloc (.cells #[.int .u8 10, .int .u8 0, .int .u8 0, .int .u8 1] 5)) W3) :
    Hid (RtAt W3 (w.heap.size + 1) F3 ∧ (∃ Z, Blk W3 w.heap.size 53 Z ∧ Z.size = 63) ∧ EndW w (W3.setRow w.heap.size (rtc F3).toArray) F3) := Lib.hid (by
  obtain ⟨Z, hZ, hs⟩ := hZ
  have hb : Blk W3 (w.heap.size + 1) 53 (rtc F3).toArray := hg
  have h1 : Below (w.heap.size + 1) W ((W.setCell ⟨w.heap.size + 1, 43, none⟩ (.int .i64 32)).alloc (.cells #[.int .u8 10, .int .u8 0, .int .u8 0, .int .u8 1] 5)) := ((Below.refl _ _).setCell (p := ⟨w.heap.size + 1, 43, none⟩) (Nat.le_refl _) _).alloc (by have := hZ.lt; simp [World.setCell]; omega) _
  have h2 := hZ.below (h1.trans hB) (by omega)
  exact ⟨⟨blk_range hb, blk_there hb 0 63 (by rw [rtc_len h3]; omega)⟩, ⟨Z, h2, hs⟩, ⟨h2.setRow _, (hL.trans ((h1.trans hB).mono (by omega))).trans (below_setRow _ _ _ (Nat.le_refl _))⟩⟩)
end
theorem flood2_ok : RtOk { flood1 with pn := 32 } := { flood1_ok with pn := ⟨by decide, by decide⟩ }
end Go.Proofs.YtdgoeibfggjbmaaGreatDoor
