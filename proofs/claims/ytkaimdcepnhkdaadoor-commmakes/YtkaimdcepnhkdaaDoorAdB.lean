/-
  Layer 2 (addr): addresses compared; RightIp.
-/
import Derived.Test.YtkaimdcepnhkdaaDoorAdA
namespace Go.Proofs.YtkaimdcepnhkdaaDoor
open Go.RowKit
set_option linter.unusedSimpArgs false
set_option linter.unusedVariables false

theorem ip_lits (v : Bool) (l : List Int) (hl : l.length = 16) (ho : Oct l) : Tryd.prog.keyLits 3 24 (ipc v l) = some (.bool v :: l.map (Lit.int .u8)) := by
  have h := keyLits_u8s (P := Tryd.prog) 0 (t := 22) (e := 5) (n := 16) Tryd.underlying22 Tryd.underlying5 (by kernel_rfl) (by kernel_rfl) l hl ho
  have hc1 : Tryd.prog.cellsOf 24 = 17 := by kernel_rfl
  have hc2 : Tryd.prog.cellsOf 22 = 16 := by kernel_rfl
  have hc3 : Tryd.prog.cellsOf 4 = 1 := by kernel_rfl
  unfold Program.keyLits
  rw [Tryd.underlying24]
  have hb : Tryd.prog.keyLits 2 4 [Value.bool v] = some [Lit.bool v] := by
    unfold Program.keyLits
    rw [Tryd.underlying4]
  have ht : (u8s l).take 16 = u8s l := List.take_of_length_le (by simp [hl])
  simp [hc1, hc2, hc3, hl, hb, ht, h]
theorem ip_formed (v : Bool) (l : List Int) (hl : l.length = 16) : (Value.agg (ipc v l).toArray).formed Tryd.prog 24 = true := by
  have hc1 : Tryd.prog.cellsOf 24 = 17 := by kernel_rfl
  simp [Value.formed, Tryd.underlying24, hc1, hl]
theorem lits_inj {a b : List Int} (h : a.map (Lit.int .u8) = b.map (Lit.int .u8)) : a = b := by
  have := congrArg (List.map fun v : Lit => match v with | .int _ n => n | _ => 0) h
  simpa [List.map_map, Function.comp_def] using this
theorem ip_eql (v v' : Bool) (l l' : List Int) (hl : l.length = 16) (hl' : l'.length = 16) (ho : Oct l) (ho' : Oct l') (b : Bool) (hb : decide (v = v' ∧ l = l') = b) (w : World) :
    (binOp .eql 24 (.agg (ipc v l).toArray) (.agg (ipc v' l').toArray)).run Tryd.prog w = .ok (.bool b) w := by
  refine run_eql_key 3 3 3 (by kernel_rfl) (by omega) _ _ _ _ (ip_formed v l hl) (ip_formed v' l' hl') (ip_lits v l hl ho) (ip_lits v' l' hl' ho') b ?_ w
  subst hb
  simp only [decide_eq_true_eq, List.cons.injEq, Lit.bool.injEq]
  exact ⟨fun h => ⟨h.1, by rw [h.2]⟩, fun h => ⟨h.1, lits_inj h.2⟩⟩
theorem ip_neq (v v' : Bool) (l l' : List Int) (hl : l.length = 16) (hl' : l'.length = 16) (ho : Oct l) (ho' : Oct l') (b : Bool) (hb : (!decide (v = v' ∧ l = l')) = b) (w : World) :
    (binOp .neq 24 (.agg (ipc v l).toArray) (.agg (ipc v' l').toArray)).run Tryd.prog w = .ok (.bool b) w := by
  subst hb
  refine run_neq_key 3 3 3 (by kernel_rfl) (by omega) _ _ _ _ (ip_formed v l hl) (ip_formed v' l' hl') (ip_lits v l hl ho) (ip_lits v' l' hl' ho') _ ?_ w
  simp only [decide_eq_true_eq, List.cons.injEq, Lit.bool.injEq]
  exact ⟨fun h => ⟨h.1, by rw [h.2]⟩, fun h => ⟨h.1, lits_inj h.2⟩⟩

set_option maxHeartbeats 400000 in
theorem right_six (w : World) (l : List Int) (hl : l.length = 16) :
    Calls Tryd.prog 17 #[.agg (ipc true l).toArray] w fun e w' => e = .returned (.bool true) ∧ Below w.heap.size w w' := by
  go_enter Tryd.func17, Tryd.ntmps17
  go_wp2
  go_region_with (fail)
  all_goals
    go_wp2
    go_ret
    exact ⟨rfl, below_drewN ((Below.refl _ _).alloc (Nat.le_refl _) _) 1⟩

theorem ipc_get (v : Bool) (xs ys : List Int) (y : Int) (k : Nat) (hk : xs.length = k) : (ipc v (xs ++ y :: ys)).toArray[1 + k]? = some (.int .u8 y) := by
  subst hk
  rw [Nat.add_comm]
  simp [u8s]
theorem ipc_set (v : Bool) (xs ys : List Int) (y z : Int) (k : Nat) (hk : xs.length = k) : (ipc v (xs ++ y :: ys)).toArray.setIfInBounds (1 + k) (.int .u8 z) = (ipc v (xs ++ z :: ys)).toArray := by
  subst hk
  rw [Nat.add_comm]
  simp [u8s, List.set_append]

theorem num4_bd (l : List Int) (hl : l.length = 16) (ho : Oct l) : 0 ≤ numOf (l.take 4) ∧ numOf (l.take 4) < 4294967296 := by
  have hb := numOf_bd (l.take 4) (fun x hx => ho x (List.mem_of_mem_take hx))
  rw [show (l.take 4).length = 4 by simp; omega] at hb
  exact ⟨hb.1, by omega⟩

theorem ip_size (v : Bool) (l : List Int) (hl : l.length = 16) : (Tryd.prog.info? 24).map (·.size) = some (ipc v l).length := by
  have : (Tryd.prog.info? 24).map (·.size) = some 17 := by kernel_rfl
  rw [this]; simp [hl]

set_option maxHeartbeats 1000000 in
theorem right_four (w : World) (l : List Int) (hl : l.length = 16) (ho : Oct l) :
    Calls Tryd.prog 17 #[.agg (ipc false l).toArray] w fun e w' => e = .returned (.bool (rightB false l)) ∧ Below w.heap.size w w' := by
  have HN := Lib.hid (num4_bd l hl ho)
  have he : ∀ W, (binOp .eql 24 (.agg (ipc false l).toArray) (.agg (ipc false (four (numOf (l.take 4)))).toArray)).run Tryd.prog W = .ok (.bool (rightB false l)) W :=
    ip_eql false false l _ hl (four_len _) ho (four_oct _ HN.out.1 HN.out.2) _ (by simp only [true_and, rightB, Bool.false_or]; rw [Bool.eq_iff_iff]; simp only [decide_eq_true_eq]; exact four_num l hl ho)
  have HL := Lib.hid hl
  have HO := Lib.hid ho
  clear hl ho
  generalize rightB false l = r at *
  go_enter Tryd.func17, Tryd.ntmps17
  go_wp2
  refine wp_region_held_drew (S := fun w' => w'.rangeAt w.heap.size 0 (ipc false l)) (by kernel_rfl) (range_drewN (range_new w 24 (ipc false l)) 1) (fun hS => ?_)
  refine wpAnyH_take (i := 0) (oi := ⟨some 3, _, _, _, _, _⟩) (v := ?_) rfl (by kernel_rfl) (by kernel_rfl) (by kernel_rfl) (fun _ _ _ h => h) (Or.inl ⟨by rfl, ?_⟩) hS ?_
  rotate_left
  · intro wq hq
    first | (go_simp; done) | (go_simp; rfl)
  try simp only [Act.put, List.setIfInBounds_toArray, List.set_cons_zero, List.set_cons_succ]
  refine wpAnyH_take (i := 1) (oi := ⟨some 4, _, _, _, _, _⟩) (v := ?_) rfl (by kernel_rfl) (by kernel_rfl) (by kernel_rfl) (fun _ _ _ h => h) (Or.inl ⟨by rfl, ?_⟩) hS ?_
  rotate_left
  · intro wq hq
    have hc := hq 0 _ rfl
    first | (go_simp; done) | (go_simp; rfl)
  try simp only [Act.put, List.setIfInBounds_toArray, List.set_cons_zero, List.set_cons_succ]
  refine wpAnyH_take (i := 2) (oi := ⟨some 5, _, _, _, _, _⟩) (v := ?_) rfl (by kernel_rfl) (by kernel_rfl) (by kernel_rfl) (fun _ _ _ h => h) (Or.inl ⟨by rfl, ?_⟩) hS ?_
  rotate_left
  · intro wq hq
    first | (go_simp; done) | (go_simp; rfl)
  try simp only [Act.put, List.setIfInBounds_toArray, List.set_cons_zero, List.set_cons_succ]
  refine wpAnyH_take (i := 3) (oi := ⟨some 6, _, _, _, _, _⟩) rfl (by kernel_rfl) (by kernel_rfl) (by kernel_rfl) (fun _ _ _ h => h) (yieldsIf_load_mid (by rfl) 24 _ rfl _ _ rfl (ipc false l) _ (fun wq hq => hq) Tryd.underlying24 rfl (ip_size false l HL.out)) hS ?_
  try simp only [Act.put, List.setIfInBounds_toArray, List.set_cons_zero, List.set_cons_succ]
  refine wpAnyH_take (i := 4) (oi := ⟨some 7, _, _, _, _, _⟩) rfl (by kernel_rfl) (by kernel_rfl) (by kernel_rfl) (fun _ _ _ h => h) (yieldsIf_load_mid (by rfl) 24 _ rfl _ _ rfl (ipc false l) _ (fun wq hq => hq) Tryd.underlying24 rfl (ip_size false l HL.out)) hS ?_
  try simp only [Act.put, List.setIfInBounds_toArray, List.set_cons_zero, List.set_cons_succ]
  refine wpAnyH_ready (rs := [5]) (by kernel_rfl) (by simp) ?_
  refine AllReadyH.cons (o := ⟨some 8, _, _, _, _, _⟩) rfl (fun K hK => ?_) AllReadyH.nil
  rw [if_pos (by rfl)]
  go_wp2_with fail
  refine (first4_is _ false l HL.out HO.out).mono ?_
  rintro e w1 ⟨rfl, hB⟩
  have hS1 := range_below hS hB (by simp)
  have HB := Lib.hid hB
  clear hB
  refine hK.out _ _ (hS1) (fun hS => ?_)
  clear hK K
  try simp only [Act.put, List.setIfInBounds_toArray, List.set_cons_zero, List.set_cons_succ]
  refine wpAnyH_ready (rs := [6]) (by kernel_rfl) (by simp) ?_
  refine AllReadyH.cons (o := ⟨some 9, _, _, _, _, _⟩) rfl (fun K hK => ?_) AllReadyH.nil
  rw [if_pos (by rfl)]
  go_wp2_with fail
  refine (four_is _ _ HN.out.1 HN.out.2).mono ?_
  rintro e w2 ⟨rfl, hB2⟩
  have hS2 := range_below hS hB2 (by have := HB.out.size; simp at this; omega)
  have HB2 := Lib.hid hB2
  clear hB2
  refine hK.out _ _ (hS2) (fun hS => ?_)
  clear hK K
  try simp only [Act.put, List.setIfInBounds_toArray, List.set_cons_zero, List.set_cons_succ]
  refine wpAnyH_take (i := 7) (oi := ⟨some 10, _, _, _, _, _⟩) (v := ?_) rfl (by kernel_rfl) (by kernel_rfl) (by kernel_rfl) (fun _ _ _ h => h) (Or.inl ⟨by rfl, ?_⟩) hS ?_
  rotate_left
  · intro wq hq
    first | (go_simp; done) | (go_simp; rfl)
  try simp only [Act.put, List.setIfInBounds_toArray, List.set_cons_zero, List.set_cons_succ]
  refine wpAnyH_take (i := 8) (oi := ⟨some 11, _, _, _, _, _⟩) (v := ?_) rfl (by kernel_rfl) (by kernel_rfl) (by kernel_rfl) (fun _ _ _ h => h) (Or.inl ⟨by rfl, ?_⟩) hS ?_
  rotate_left
  · intro wq hq
    first | (go_simp; done) | (go_simp; rfl)
  try simp only [Act.put, List.setIfInBounds_toArray, List.set_cons_zero, List.set_cons_succ]
  refine wpAnyH_take (i := 9) (oi := ⟨some 2, _, _, _, _, _⟩) (v := ?_) rfl (by kernel_rfl) (by kernel_rfl) (by kernel_rfl) (fun _ _ _ h => h) (Or.inl ⟨by rfl, ?_⟩) hS ?_
  rotate_left
  · intro wq hq
    first | (go_simp; done) | (go_simp; rfl)
  try simp only [Act.put, List.setIfInBounds_toArray, List.set_cons_zero, List.set_cons_succ]
  refine wpAnyH_done (by kernel_rfl) ?_ _
  go_wp2
  go_ret
  refine ⟨rfl, ?_⟩
  have h1 : Below w.heap.size w w1 := (below_drewN ((Below.refl w.heap.size w).alloc (Nat.le_refl _) _) 1).trans (HB.out.mono (by simp))
  exact h1.trans (HB2.out.mono h1.size)

theorem right_is (w : World) (v : Bool) (l : List Int) (hl : l.length = 16) (ho : Oct l) :
    Calls Tryd.prog 17 #[.agg (ipc v l).toArray] w fun e w' => e = .returned (.bool (rightB v l)) ∧ Below w.heap.size w w' := by
  cases v with
  | true => exact right_six w l hl
  | false => exact right_four w l hl ho
end Go.Proofs.YtkaimdcepnhkdaaDoor
