/-
  Layer 2 (addr): prefixes compared; Has, RightPrefix.
-/
import Derived.Test.YtkaimdcepnhkdaaDoorAdC
namespace Go.Proofs.YtkaimdcepnhkdaaDoor
open Go.RowKit
set_option linter.unusedSimpArgs false
set_option linter.unusedVariables false

abbrev I64 (n : Int) : Prop := -9223372036854775808 ≤ n ∧ n < 9223372036854775808
theorem i64_wf {n : Int} (h : I64 n) : (Lit.int .i64 n).wf = true := by
  simp [Lit.wf, IntKind.min, IntKind.max, IntKind.signed, IntKind.bits]; omega
theorem pf_lits (v : Bool) (l : List Int) (n : Int) (hl : l.length = 16) (ho : Oct l) (hn : I64 n) : Tryd.prog.keyLits 4 40 (pfc v l n) = some (.bool v :: (l.map (Lit.int .u8) ++ [.int .i64 n])) := by
  have h := ip_lits v l hl ho
  have hc1 : Tryd.prog.cellsOf 40 = 18 := by kernel_rfl
  have hc2 : Tryd.prog.cellsOf 24 = 17 := by kernel_rfl
  have hc3 : Tryd.prog.cellsOf 3 = 1 := by kernel_rfl
  unfold Program.keyLits
  rw [Tryd.underlying40]
  have hb : Tryd.prog.keyLits 3 3 [Value.int .i64 n] = some [Lit.int .i64 n] := by
    unfold Program.keyLits
    rw [Tryd.underlying3]
    simp [i64_wf hn]
  have ht : (pfc v l n).take 17 = ipc v l := by show (ipc v l ++ [Value.int .i64 n]).take 17 = _; rw [List.take_append_of_le_length (by simp [hl])]; exact List.take_of_length_le (by simp [hl])
  have hd : ((pfc v l n).drop 17).take 1 = [Value.int .i64 n] := by
    show ((ipc v l ++ [Value.int .i64 n]).drop 17).take 1 = _
    rw [show 17 = (ipc v l).length by simp [hl], List.drop_left]; rfl
  have hlen : (pfc v l n).length = 18 := by simp [hl]
  simp only [hc1, hlen, hc2, hc3, List.mapM_cons, List.mapM_nil, List.drop_zero, ht, hd, h, hb]
  simp [ht, hd, h, hb, hc2, hc3]
theorem pf_formed (v : Bool) (l : List Int) (n : Int) (hl : l.length = 16) : (Value.agg (pfc v l n).toArray).formed Tryd.prog 40 = true := by
  have hc1 : Tryd.prog.cellsOf 40 = 18 := by kernel_rfl
  simp [Value.formed, Tryd.underlying40, hc1, hl]
theorem pf_inj {v v' : Bool} {l l' : List Int} {n n' : Int} (hl : l.length = 16) (hl' : l'.length = 16) :
    (Lit.bool v :: (l.map (Lit.int .u8) ++ [Lit.int .i64 n]) = Lit.bool v' :: (l'.map (Lit.int .u8) ++ [Lit.int .i64 n'])) ↔ (v = v' ∧ l = l' ∧ n = n') := by
  constructor
  · intro h
    simp only [List.cons.injEq, Lit.bool.injEq] at h
    obtain ⟨h1, h2⟩ := List.append_inj h.2 (by simp [hl, hl'])
    simp at h2
    exact ⟨h.1, lits_inj h1, h2⟩
  · rintro ⟨rfl, rfl, rfl⟩; rfl
theorem pf_eql (v v' : Bool) (l l' : List Int) (n n' : Int) (hl : l.length = 16) (hl' : l'.length = 16) (ho : Oct l) (ho' : Oct l') (hn : I64 n) (hn' : I64 n') (b : Bool) (hb : decide (v = v' ∧ l = l' ∧ n = n') = b) (w : World) :
    (binOp .eql 40 (.agg (pfc v l n).toArray) (.agg (pfc v' l' n').toArray)).run Tryd.prog w = .ok (.bool b) w := by
  refine run_eql_key 4 4 4 (by kernel_rfl) (by omega) _ _ _ _ (pf_formed v l n hl) (pf_formed v' l' n' hl') (pf_lits v l n hl ho hn) (pf_lits v' l' n' hl' ho' hn') b ?_ w
  subst hb
  rw [decide_eq_true_eq, pf_inj hl hl']
theorem pf_neq (v v' : Bool) (l l' : List Int) (n n' : Int) (hl : l.length = 16) (hl' : l'.length = 16) (ho : Oct l) (ho' : Oct l') (hn : I64 n) (hn' : I64 n') (b : Bool) (hb : (!decide (v = v' ∧ l = l' ∧ n = n')) = b) (w : World) :
    (binOp .neq 40 (.agg (pfc v l n).toArray) (.agg (pfc v' l' n').toArray)).run Tryd.prog w = .ok (.bool b) w := by
  subst hb
  refine run_neq_key 4 4 4 (by kernel_rfl) (by omega) _ _ _ _ (pf_formed v l n hl) (pf_formed v' l' n' hl') (pf_lits v l n hl ho hn) (pf_lits v' l' n' hl' ho' hn') _ ?_ w
  rw [decide_eq_true_eq, pf_inj hl hl']
theorem pf_fetch {ops : Array Oper} {rest : List Oper} {op : Oper} {a : Act} {w : World} {Q : Exit → Act → World → Prop} (hw : Region.wanted op (yielded ops a.tmps) = true) (x : Operand) (ho : op.op = .load 40 x) (b : Nat) (v : Bool) (l : List Int) (n : Int) (hl : l.length = 16)
    (hx : a.eval x = .pointer (some ⟨b, 0, none⟩)) (hc : w.rangeAt b 0 (pfc v l n)) (h : wpList Tryd.prog ops Q rest (a.put op.dst (.agg (pfc v l n).toArray)) w) : wpList Tryd.prog ops Q (op :: rest) a w :=
  BigFrame.wpList_want hw fun _ hK => wp_load_mid 40 x ho b 0 hx (pfc v l n) _ hc Tryd.underlying40 rfl (by simpa using pfc_size v l n hl) (hK _ _ h)

def hasB (v : Bool) (l : List Int) (n : Int) (v' : Bool) (l' : List Int) : Bool := cutB v' l' n && decide (v' = v ∧ firstBits l' n = l)

set_option maxHeartbeats 1000000 in
set_option maxRecDepth 100000 in
theorem has_is (w : World) (v : Bool) (l : List Int) (n : Int) (v' : Bool) (l' : List Int) (hl : l.length = 16) (ho : Oct l) (hl' : l'.length = 16) (ho' : Oct l') (hn : I64 n) :
    Calls Tryd.prog 34 #[.agg (pfc v l n).toArray, .agg (ipc v' l').toArray] w fun e w' => e = .returned (.bool (hasB v l n v' l')) ∧ Below w.heap.size w w' := by
  have hp := range_alloc (range_new w 40 (pfc v l n)) (.cells (ipc v' l').toArray 24) (by simp)
  have ha := range_new (w.alloc (.cells (pfc v l n).toArray 40)) 24 (ipc v' l')
  rw [show (w.alloc (.cells (pfc v l n).toArray 40)).heap.size = w.heap.size + 1 by simp] at ha
  have hc := (range_post (cs := ipc v l) (ds := [Value.int .i64 n]) hp) 0 _ rfl
  rw [show 0 + (ipc v l).length + 0 = 17 by simp [hl]] at hc
  have Hp := Lib.hid hp
  have Ha := Lib.hid ha
  clear hp ha
  go_enter Tryd.func34, Tryd.ntmps34
  go_wp2_with (refine ip_fetch rfl _ rfl (w.heap.size + 1) 0 v' l' hl' rfl Ha.out ?_)
  refine (cut_is _ v' l' n hl' ho').mono ?_
  rintro e w1 ⟨hB, he⟩
  have Hp1 := Lib.hid (range_below Hp.out hB (by simp; omega))
  have HB : Hid (Below w.heap.size w w1) := Lib.hid ((((Below.refl w.heap.size w).alloc (Nat.le_refl _) _).alloc (by simp) _).trans (hB.mono (by simp; omega)))
  have hs1 : w.heap.size < w1.heap.size := by have := hB.size; simp at this; omega
  clear hB Hp Ha hc
  cases hcut : cutB v' l' n
  · rw [hcut] at he
    subst he
    have HR := Lib.hid (show hasB v l n v' l' = false by unfold hasB; rw [hcut]; rfl)
    clear hcut
    go_wp2_with (first | (refine pf_store rfl _ _ rfl w1.heap.size false (List.replicate 16 0) 0 rfl rfl rfl 40 noPf.toArray (Blk.new w1 40 noPf.toArray) rfl ?_))
    go_ret
    exact ⟨by rw [HR.out]; rfl, (HB.out.alloc (Nat.le_of_lt hs1) _).trans (below_setRow _ _ _ (Nat.le_of_lt hs1))⟩
  · rw [hcut] at he
    subst he
    have hr0 : hasB v l n v' l' = decide (v' = v ∧ firstBits l' n = l) := by unfold hasB; rw [hcut, Bool.true_and]
    have hE : ∀ W, (binOp .eql 40 (.agg (pfc v' (firstBits l' n) n).toArray) (.agg (pfc v l n).toArray)).run Tryd.prog W = .ok (.bool (hasB v l n v' l')) W :=
      pf_eql v' v (firstBits l' n) l n n (by rw [fb_len]; exact hl') hl (fb_oct l' n ho') ho hn hn _ (by rw [hr0]; simp)
    have hfl : (firstBits l' n).length = 16 := by rw [fb_len]; exact hl'
    have HF := Lib.hid hfl
    have Hn1 : Hid (((w1.alloc (.cells noPf.toArray 40)).setRow w1.heap.size (pfc v' (firstBits l' n) n).toArray).rangeAt w1.heap.size 0 (pfc v' (firstBits l' n) n)) := Lib.hid (Blk.range (Blk.setRow (Blk.new w1 40 noPf.toArray) _))
    have Hn2 : Hid (((w1.alloc (.cells noPf.toArray 40)).setRow w1.heap.size (pfc v' (firstBits l' n) n).toArray).rangeAt w.heap.size 0 (pfc v l n)) :=
      Lib.hid (range_below (range_alloc Hp1.out _ hs1) (below_setRow _ w1.heap.size _ (Nat.le_refl _)) hs1)
    clear hcut hr0 hfl Hp1
    generalize hr : hasB v l n v' l' = r at *
    have HRR := Lib.hid hr
    clear hr
    generalize firstBits l' n = f at *
    go_wp2_with (first
      | (refine pf_store rfl _ _ rfl w1.heap.size v' f n HF.out rfl rfl 40 noPf.toArray (Blk.new w1 40 noPf.toArray) rfl ?_)
      | (refine pf_fetch rfl _ rfl w1.heap.size v' f n HF.out rfl Hn1.out ?_)
      | (refine pf_fetch rfl _ rfl w.heap.size v l n hl rfl Hn2.out ?_))
    go_ret
    exact ⟨by rw [HRR.out]; rfl, (HB.out.alloc (Nat.le_of_lt hs1) _).trans (below_setRow _ _ _ (Nat.le_of_lt hs1))⟩

def rightPfB (v : Bool) (l : List Int) (n : Int) : Bool := hasB v l n v l
set_option maxHeartbeats 1000000 in
set_option maxRecDepth 100000 in
theorem rpf_is (w : World) (v : Bool) (l : List Int) (n : Int) (hl : l.length = 16) (ho : Oct l) (hn : I64 n) :
    Calls Tryd.prog 32 #[.agg (pfc v l n).toArray] w fun e w' => e = .returned (.bool (rightPfB v l n)) ∧ Below w.heap.size w w' := by
  have hp := range_new w 40 (pfc v l n)
  have Hp := Lib.hid hp
  have Ha := Lib.hid (range_pre (cs := ipc v l) (ds := [Value.int .i64 n]) hp)
  clear hp
  go_enter Tryd.func32, Tryd.ntmps32
  go_wp2_with (first
    | (refine pf_fetch rfl _ rfl w.heap.size v l n hl rfl Hp.out ?_)
    | (refine ip_fetch rfl _ rfl w.heap.size 0 v l hl rfl Ha.out ?_))
  refine (has_is _ v l n v l hl ho hl ho hn).mono ?_
  rintro e w1 ⟨rfl, hB⟩
  have HB := Lib.hid hB
  clear hB
  go_wp2
  go_ret
  exact ⟨rfl, ((Below.refl w.heap.size w).alloc (Nat.le_refl _) _).trans (HB.out.mono (by simp))⟩
end Go.Proofs.YtkaimdcepnhkdaaDoor
