/-
  Put together: AdA AdB AdC AdD.
-/
import Derived.Test.YtickcfcncpnaiaaProg
import Derived.Test.YtickcfcncpnaiaaMO
import Derived.Outline
import Derived.BigQuiet
import Derived.WalkLawsBesides
import Derived.BigFrame
namespace Go.Proofs.Ytickcfcncpnaiaa
open Go.RowKit
set_option maxRecDepth 100000
set_option linter.unusedSimpArgs false
set_option linter.unusedVariables false

set_option maxHeartbeats 400000 in
theorem number_is (w : World) (B : Nat) (A : Option Addr) (n c : Nat) (l : List Int) (hr : Rd w B A n l) (h8 : n ≤ 8) :
    Calls Try.prog 82 #[.slice A n c] w fun e w' => e = .returned (.int .u64 (numOf l)) ∧ w = w' := by
  have H := Lib.hid hr
  obtain rfl := hr.len
  have HO := Lib.hid hr.oct
  clear hr
  go_enter Try.func82, Try.ntmps82
  go_wp2
  go_loop [3, 5, 8] (fun s _ i => ∃ m : Nat, m ≤ l.length ∧ i = .int .i64 m ∧ s = .int .u64 (numOf (l.take m))) (fun _ _ i => l.length - (intOf i).toNat)
  case atStart => exact ⟨0, Nat.zero_le _, rfl, rfl⟩
  case round =>
    obtain ⟨m, hm, rfl, rfl⟩ := hrel
    by_cases hlt : m < l.length
    · obtain ⟨b, off, rfl, hb, hcell⟩ := H.out.at_ (by omega)
      have hcm := hcell m hlt
      have HS := Lib.hid (numOf_step l m hlt h8 HO.out)
      clear hcell
      go_wp2
      refine ⟨⟨m + 1, by omega, by go_num, by rw [HS.out]⟩, by simp [intOf]; omega⟩
    · obtain rfl : m = l.length := by omega
      rw [List.take_length]
      go_wp2
      go_ret
      exact ⟨rfl, rfl⟩

/-- An address's cells. -/
abbrev ipc (v : Bool) (l : List Int) : List Value := Value.bool v :: u8s l
set_option maxHeartbeats 400000 in
theorem first4_is (w : World) (v : Bool) (l : List Int) (hl : l.length = 16) (ho : Oct l) :
    Calls Try.prog 73 #[.agg (ipc v l).toArray] w fun e w' => e = .returned (.int .u32 (numOf (l.take 4))) ∧ Below w.heap.size w w' := by
  have hr0 := rd_range (pre := [.bool v]) (post := []) (l := l) (B := w.heap.size + 1) (by simpa using range_new w 32 (ipc v l)) ho 0 4 (by omega) (by omega)
  have H := Lib.hid hr0
  clear hr0
  have hb := numOf_bd (l.take 4) (fun x hx => ho x (List.mem_of_mem_take hx))
  rw [show (l.take 4).length = 4 by simp; omega] at hb
  have HW := Lib.hid (show numOf (l.take 4) % 4294967296 = numOf (l.take 4) from Int.emod_eq_of_lt hb.1 (by omega))
  clear hb
  go_enter Try.func73, Try.ntmps73
  go_wp2_with fail
  refine (number_is _ (w.heap.size + 1) _ 4 16 (l.take 4) (by simpa using H.out) (by omega)).mono ?_
  rintro e w' ⟨rfl, rfl⟩
  go_wp2
  go_ret
  rw [HW.out]
  exact ⟨rfl, (Below.refl _ _).alloc (Nat.le_refl _) _⟩

/-- The four bytes of n. -/
def four (n : Int) : List Int := [n / 16777216, n / 65536 % 256, n / 256 % 256, n % 256] ++ List.replicate 12 0

set_option maxHeartbeats 400000 in
theorem four_is (w : World) (n : Int) (h0 : 0 ≤ n) (h1 : n < 4294967296) :
    Calls Try.prog 72 #[.int .u32 n] w fun e w' => e = .returned (.agg (ipc false (four n)).toArray) ∧ Below w.heap.size w w' := by
  go_enter Try.func72, Try.ntmps72
  go_wp2
  refine bodyPost_ret (v := .agg (ipc false (four n)).toArray) ?_ rfl ⟨rfl, (Below.refl _ _).alloc (Nat.le_refl _) _⟩
  exact results_cell_row rfl _ _ w.heap.size 32 _ (0, 0) _ rfl (Blk.new w 32 _) Try.underlying32 rfl (by kernel_rfl)

theorem four_len (n : Int) : (four n).length = 16 := by simp [four]
theorem four_oct (n : Int) (h0 : 0 ≤ n) (h1 : n < 4294967296) : Oct (four n) := by
  intro x hx
  simp [four] at hx
  omega
/-- An address that is right. -/
def rightB (v : Bool) (l : List Int) : Bool := v || decide (l.drop 4 = List.replicate 12 0)
theorem four_num : ∀ (l : List Int), l.length = 16 → Oct l → (l = four (numOf (l.take 4)) ↔ l.drop 4 = List.replicate 12 0) := by
  intro l hl ho
  match l, hl with
  | a :: b :: c :: d :: r, hl =>
    have ha := ho a (by simp)
    have hb := ho b (by simp)
    have hc := ho c (by simp)
    have hd := ho d (by simp)
    have e : numOf [a, b, c, d] = ((a * 256 + b) * 256 + c) * 256 + d := by simp [numOf]
    simp only [List.take_succ_cons, List.take_zero, e, four, List.drop_succ_cons, List.drop_zero, List.cons_append, List.nil_append, List.cons.injEq]
    constructor
    · exact fun h => h.2.2.2.2
    · exact fun h => ⟨by omega, by omega, by omega, by omega, h⟩

end Go.Proofs.Ytickcfcncpnaiaa
namespace Go.Proofs.Ytickcfcncpnaiaa
open Go.RowKit
set_option maxRecDepth 100000
set_option linter.unusedSimpArgs false
set_option linter.unusedVariables false

theorem ip_lits (v : Bool) (l : List Int) (hl : l.length = 16) (ho : Oct l) : Try.prog.keyLits 3 32 (ipc v l) = some (.bool v :: l.map (Lit.int .u8)) := by
  have h := keyLits_u8s (P := Try.prog) 0 (t := 30) (e := 5) (n := 16) Try.underlying30 Try.underlying5 (by kernel_rfl) (by kernel_rfl) l hl ho
  have hc1 : Try.prog.cellsOf 32 = 17 := by kernel_rfl
  have hc2 : Try.prog.cellsOf 30 = 16 := by kernel_rfl
  have hc3 : Try.prog.cellsOf 4 = 1 := by kernel_rfl
  unfold Program.keyLits
  rw [Try.underlying32]
  have hb : Try.prog.keyLits 2 4 [Value.bool v] = some [Lit.bool v] := by
    unfold Program.keyLits
    rw [Try.underlying4]
  have ht : (u8s l).take 16 = u8s l := List.take_of_length_le (by simp [hl])
  simp [hc1, hc2, hc3, hl, hb, ht, h]
theorem ip_formed (v : Bool) (l : List Int) (hl : l.length = 16) : (Value.agg (ipc v l).toArray).formed Try.prog 32 = true := by
  have hc1 : Try.prog.cellsOf 32 = 17 := by kernel_rfl
  simp [Value.formed, Try.underlying32, hc1, hl]
theorem lits_inj {a b : List Int} (h : a.map (Lit.int .u8) = b.map (Lit.int .u8)) : a = b := by
  have := congrArg (List.map fun v : Lit => match v with | .int _ n => n | _ => 0) h
  simpa [List.map_map, Function.comp_def] using this
theorem ip_eql (v v' : Bool) (l l' : List Int) (hl : l.length = 16) (hl' : l'.length = 16) (ho : Oct l) (ho' : Oct l') (b : Bool) (hb : decide (v = v' ∧ l = l') = b) (w : World) :
    (binOp .eql 32 (.agg (ipc v l).toArray) (.agg (ipc v' l').toArray)).run Try.prog w = .ok (.bool b) w := by
  refine run_eql_key 3 3 3 (by kernel_rfl) (by omega) _ _ _ _ (ip_formed v l hl) (ip_formed v' l' hl') (ip_lits v l hl ho) (ip_lits v' l' hl' ho') b ?_ w
  subst hb
  simp only [decide_eq_true_eq, List.cons.injEq, Lit.bool.injEq]
  exact ⟨fun h => ⟨h.1, by rw [h.2]⟩, fun h => ⟨h.1, lits_inj h.2⟩⟩
theorem ip_neq (v v' : Bool) (l l' : List Int) (hl : l.length = 16) (hl' : l'.length = 16) (ho : Oct l) (ho' : Oct l') (b : Bool) (hb : (!decide (v = v' ∧ l = l')) = b) (w : World) :
    (binOp .neq 32 (.agg (ipc v l).toArray) (.agg (ipc v' l').toArray)).run Try.prog w = .ok (.bool b) w := by
  subst hb
  refine run_neq_key 3 3 3 (by kernel_rfl) (by omega) _ _ _ _ (ip_formed v l hl) (ip_formed v' l' hl') (ip_lits v l hl ho) (ip_lits v' l' hl' ho') _ ?_ w
  simp only [decide_eq_true_eq, List.cons.injEq, Lit.bool.injEq]
  exact ⟨fun h => ⟨h.1, by rw [h.2]⟩, fun h => ⟨h.1, lits_inj h.2⟩⟩

set_option maxHeartbeats 400000 in
theorem right_six (w : World) (l : List Int) (hl : l.length = 16) :
    Calls Try.prog 57 #[.agg (ipc true l).toArray] w fun e w' => e = .returned (.bool true) ∧ Below w.heap.size w w' := by
  go_enter Try.func57, Try.ntmps57
  go_wp2
  go_region_with (fail)
  all_goals
    go_wp2
    go_ret
    exact ⟨rfl, below_drewN ((Below.refl _ _).alloc (Nat.le_refl _) _) 1⟩

theorem ipc_get (v : Bool) (xs ys : List Int) (y : Int) (k : Nat) (hk : xs.length = k) : (ipc v (xs ++ y :: ys)).toArray[1 + k]? = some (.int .u8 y) := by
  subst hk
  rw [Nat.add_comm]
  simp [u8s]
theorem ipc_set (v : Bool) (xs ys : List Int) (y z : Int) (k : Nat) (hk : xs.length = k) : (ipc v (xs ++ y :: ys)).toArray.setIfInBounds (1 + k) (.int .u8 z) = (ipc v (xs ++ z :: ys)).toArray := by
  subst hk
  rw [Nat.add_comm]
  simp [u8s, List.set_append]

theorem num4_bd (l : List Int) (hl : l.length = 16) (ho : Oct l) : 0 ≤ numOf (l.take 4) ∧ numOf (l.take 4) < 4294967296 := by
  have hb := numOf_bd (l.take 4) (fun x hx => ho x (List.mem_of_mem_take hx))
  rw [show (l.take 4).length = 4 by simp; omega] at hb
  exact ⟨hb.1, by omega⟩

theorem ip_size (v : Bool) (l : List Int) (hl : l.length = 16) : (Try.prog.info? 32).map (·.size) = some (ipc v l).length := by
  have : (Try.prog.info? 32).map (·.size) = some 17 := by kernel_rfl
  rw [this]; simp [hl]

set_option maxHeartbeats 1000000 in
theorem right_four (w : World) (l : List Int) (hl : l.length = 16) (ho : Oct l) :
    Calls Try.prog 57 #[.agg (ipc false l).toArray] w fun e w' => e = .returned (.bool (rightB false l)) ∧ Below w.heap.size w w' := by
  have HN := Lib.hid (num4_bd l hl ho)
  have he : ∀ W, (binOp .eql 32 (.agg (ipc false l).toArray) (.agg (ipc false (four (numOf (l.take 4)))).toArray)).run Try.prog W = .ok (.bool (rightB false l)) W :=
    ip_eql false false l _ hl (four_len _) ho (four_oct _ HN.out.1 HN.out.2) _ (by simp only [true_and, rightB, Bool.false_or]; rw [Bool.eq_iff_iff]; simp only [decide_eq_true_eq]; exact four_num l hl ho)
  have HL := Lib.hid hl
  have HO := Lib.hid ho
  clear hl ho
  generalize rightB false l = r at *
  go_enter Try.func57, Try.ntmps57
  go_wp2
  refine wp_region_held_drew (S := fun w' => w'.rangeAt w.heap.size 0 (ipc false l)) (by kernel_rfl) (range_drewN (range_new w 32 (ipc false l)) 1) (fun hS => ?_)
  refine wpAnyH_take (i := 0) (oi := ⟨some 3, _, _, _, _, _⟩) (v := ?_) rfl (by kernel_rfl) (by kernel_rfl) (by kernel_rfl) (fun _ _ _ h => h) (Or.inl ⟨by rfl, ?_⟩) hS ?_
  rotate_left
  · intro wq hq
    first | (go_simp; done) | (go_simp; rfl)
  try simp only [Act.put, List.setIfInBounds_toArray, List.set_cons_zero, List.set_cons_succ]
  refine wpAnyH_take (i := 1) (oi := ⟨some 4, _, _, _, _, _⟩) (v := ?_) rfl (by kernel_rfl) (by kernel_rfl) (by kernel_rfl) (fun _ _ _ h => h) (Or.inl ⟨by rfl, ?_⟩) hS ?_
  rotate_left
  · intro wq hq
    have hc := hq 0 _ rfl
    first | (go_simp; done) | (go_simp; rfl)
  try simp only [Act.put, List.setIfInBounds_toArray, List.set_cons_zero, List.set_cons_succ]
  refine wpAnyH_take (i := 2) (oi := ⟨some 5, _, _, _, _, _⟩) (v := ?_) rfl (by kernel_rfl) (by kernel_rfl) (by kernel_rfl) (fun _ _ _ h => h) (Or.inl ⟨by rfl, ?_⟩) hS ?_
  rotate_left
  · intro wq hq
    first | (go_simp; done) | (go_simp; rfl)
  try simp only [Act.put, List.setIfInBounds_toArray, List.set_cons_zero, List.set_cons_succ]
  refine wpAnyH_take (i := 3) (oi := ⟨some 6, _, _, _, _, _⟩) rfl (by kernel_rfl) (by kernel_rfl) (by kernel_rfl) (fun _ _ _ h => h) (yieldsIf_load_mid (by rfl) 32 _ rfl _ _ rfl (ipc false l) _ (fun wq hq => hq) Try.underlying32 rfl (ip_size false l HL.out)) hS ?_
  try simp only [Act.put, List.setIfInBounds_toArray, List.set_cons_zero, List.set_cons_succ]
  refine wpAnyH_take (i := 4) (oi := ⟨some 7, _, _, _, _, _⟩) rfl (by kernel_rfl) (by kernel_rfl) (by kernel_rfl) (fun _ _ _ h => h) (yieldsIf_load_mid (by rfl) 32 _ rfl _ _ rfl (ipc false l) _ (fun wq hq => hq) Try.underlying32 rfl (ip_size false l HL.out)) hS ?_
  try simp only [Act.put, List.setIfInBounds_toArray, List.set_cons_zero, List.set_cons_succ]
  refine wpAnyH_ready (rs := [5]) (by kernel_rfl) (by simp) ?_
  refine AllReadyH.cons (o := ⟨some 8, _, _, _, _, _⟩) rfl (fun K hK => ?_) AllReadyH.nil
  rw [if_pos (by rfl)]
  go_wp2_with fail
  refine (first4_is _ false l HL.out HO.out).mono ?_
  rintro e w1 ⟨rfl, hB⟩
  have hS1 := range_below hS hB (by simp)
  have HB := Lib.hid hB
  clear hB
  refine hK.out _ _ (hS1) (fun hS => ?_)
  clear hK K
  try simp only [Act.put, List.setIfInBounds_toArray, List.set_cons_zero, List.set_cons_succ]
  refine wpAnyH_ready (rs := [6]) (by kernel_rfl) (by simp) ?_
  refine AllReadyH.cons (o := ⟨some 9, _, _, _, _, _⟩) rfl (fun K hK => ?_) AllReadyH.nil
  rw [if_pos (by rfl)]
  go_wp2_with fail
  refine (four_is _ _ HN.out.1 HN.out.2).mono ?_
  rintro e w2 ⟨rfl, hB2⟩
  have hS2 := range_below hS hB2 (by have := HB.out.size; simp at this; omega)
  have HB2 := Lib.hid hB2
  clear hB2
  refine hK.out _ _ (hS2) (fun hS => ?_)
  clear hK K
  try simp only [Act.put, List.setIfInBounds_toArray, List.set_cons_zero, List.set_cons_succ]
  refine wpAnyH_take (i := 7) (oi := ⟨some 10, _, _, _, _, _⟩) (v := ?_) rfl (by kernel_rfl) (by kernel_rfl) (by kernel_rfl) (fun _ _ _ h => h) (Or.inl ⟨by rfl, ?_⟩) hS ?_
  rotate_left
  · intro wq hq
    first | (go_simp; done) | (go_simp; rfl)
  try simp only [Act.put, List.setIfInBounds_toArray, List.set_cons_zero, List.set_cons_succ]
  refine wpAnyH_take (i := 8) (oi := ⟨some 11, _, _, _, _, _⟩) (v := ?_) rfl (by kernel_rfl) (by kernel_rfl) (by kernel_rfl) (fun _ _ _ h => h) (Or.inl ⟨by rfl, ?_⟩) hS ?_
  rotate_left
  · intro wq hq
    first | (go_simp; done) | (go_simp; rfl)
  try simp only [Act.put, List.setIfInBounds_toArray, List.set_cons_zero, List.set_cons_succ]
  refine wpAnyH_take (i := 9) (oi := ⟨some 2, _, _, _, _, _⟩) (v := ?_) rfl (by kernel_rfl) (by kernel_rfl) (by kernel_rfl) (fun _ _ _ h => h) (Or.inl ⟨by rfl, ?_⟩) hS ?_
  rotate_left
  · intro wq hq
    first | (go_simp; done) | (go_simp; rfl)
  try simp only [Act.put, List.setIfInBounds_toArray, List.set_cons_zero, List.set_cons_succ]
  refine wpAnyH_done (by kernel_rfl) ?_ _
  go_wp2
  go_ret
  refine ⟨rfl, ?_⟩
  have h1 : Below w.heap.size w w1 := (below_drewN ((Below.refl w.heap.size w).alloc (Nat.le_refl _) _) 1).trans (HB.out.mono (by simp))
  exact h1.trans (HB2.out.mono h1.size)

theorem right_is (w : World) (v : Bool) (l : List Int) (hl : l.length = 16) (ho : Oct l) :
    Calls Try.prog 57 #[.agg (ipc v l).toArray] w fun e w' => e = .returned (.bool (rightB v l)) ∧ Below w.heap.size w w' := by
  cases v with
  | true => exact right_six w l hl
  | false => exact right_four w l hl ho
end Go.Proofs.Ytickcfcncpnaiaa
namespace Go.Proofs.Ytickcfcncpnaiaa
open Go.RowKit
set_option maxRecDepth 100000
set_option linter.unusedSimpArgs false
set_option linter.unusedVariables false

def bitsOf (v : Bool) : Int := if v then 128 else 32
theorem bits_is (w : World) (v : Bool) (l : List Int) :
    Calls Try.prog 70 #[.agg (ipc v l).toArray] w fun e w' => e = .returned (.int .i64 (bitsOf v)) ∧ Below w.heap.size w w' := by
  cases v
  · go_enter Try.func70, Try.ntmps70
    go_wp2
    go_ret
    exact ⟨rfl, (Below.refl _ _).alloc (Nat.le_refl _) _⟩
  · go_enter Try.func70, Try.ntmps70
    go_wp2
    go_ret
    exact ⟨rfl, (Below.refl _ _).alloc (Nat.le_refl _) _⟩

/-- A byte's first k bits. -/
def keepB (b : Int) (k : Nat) : Int := b / 2 ^ (8 - k) * 2 ^ (8 - k)
/-- How many bits of byte i stay. -/
def stay (n : Int) (i : Nat) : Nat := (min (max (n - 8 * i) 0) 8).toNat
def firstBits (l : List Int) (n : Int) : List Int := l.mapIdx fun i b => keepB b (stay n i)
theorem keepB_all : ∀ b : Fin 256, ∀ k : Fin 9, bits .andNot .u8 (b.val : Int) (255 / 2 ^ k.val) = keepB (b.val : Int) k.val := by decide +kernel
theorem keepB_is (b : Int) (k : Nat) (h0 : 0 ≤ b) (h1 : b < 256) (hk : k ≤ 8) : bits .andNot .u8 b (255 / 2 ^ k) = keepB b k := by
  have := keepB_all ⟨b.toNat, by omega⟩ ⟨k, by omega⟩
  simpa [Int.toNat_of_nonneg h0] using this

theorem fb_len (l : List Int) (n : Int) : (firstBits l n).length = l.length := by simp [firstBits]
theorem fb_get (l : List Int) (n : Int) (k : Nat) (hk : k < l.length) : (firstBits l n)[k]'(by rw [fb_len]; exact hk) = keepB (l.getD k 0) (stay n k) := by simp [firstBits, List.getD, hk]
theorem fb_split (l : List Int) (n : Int) (k : Nat) (hk : k < l.length) : (firstBits l n).take k ++ l.drop k = (firstBits l n).take k ++ l.getD k 0 :: l.drop (k + 1) := by
  rw [List.drop_eq_getElem_cons hk]
  simp [List.getD, hk]
theorem fb_split2 (l : List Int) (n : Int) (k : Nat) (hk : k < l.length) : (firstBits l n).take (k + 1) ++ l.drop (k + 1) = (firstBits l n).take k ++ keepB (l.getD k 0) (stay n k) :: l.drop (k + 1) := by
  rw [List.take_succ_eq_append_getElem (by rw [fb_len]; exact hk), fb_get l n k hk]
  simp
set_option maxHeartbeats 1000000 in
set_option maxRecDepth 100000 in
theorem fbits_is (w : World) (v : Bool) (l : List Int) (n : Int) (hl : l.length = 16) (ho : Oct l) (hn : 0 ≤ n) (hn2 : n ≤ 128) :
    Calls Try.prog 84 #[.agg (ipc v l).toArray, .int .i64 n] w fun e w' => e = .returned (.agg (ipc v (firstBits l n)).toArray) ∧ Below w.heap.size w w' := by
  go_enter Try.func84, Try.ntmps84
  go_wp2
  go_loopw [5, 6, 7] (fun _ _ i wr => ∃ k : Nat, k ≤ 16 ∧ i = .int .i64 k ∧ Blk wr w.heap.size 32 (ipc v ((firstBits l n).take k ++ l.drop k)).toArray ∧ (∃ z, Blk wr (w.heap.size + 1) 32 z ∧ z.size = 17) ∧ Below w.heap.size w wr) (fun _ _ i _ => 16 - (intOf i).toNat)
  case atStart =>
    exact ⟨0, by omega, rfl, by simpa using (Blk.new w 32 (ipc v l).toArray).alloc _, ⟨_, by simpa using Blk.new (w.alloc (.cells (ipc v l).toArray 32)) 32 _, rfl⟩, ((Below.refl _ _).alloc (Nat.le_refl _) _).alloc (by simp) _⟩
  case round =>
    obtain ⟨k, hk, rfl, hb, ⟨z, hz, hzs⟩, hB⟩ := hrel
    by_cases hlt : k < 16
    · have hkl : ((firstBits l n).take k).length = k := by simp [fb_len]; omega
      rw [fb_split l n k (by omega)] at hb
      have hc := hb.cell (1 + k)
      rw [ipc_get v _ _ _ k hkl] at hc
      have hf := hb.frozen (1 + k)
      have hset := hb.set_ (1 + k) (.int .u8 (keepB (l.getD k 0) (stay n k)))
      rw [ipc_set v _ _ _ _ k hkl, ← fb_split2 l n k (by omega)] at hset
      have Hb := Lib.hid hset
      have Hz := Lib.hid (show Blk (wr.setCell ⟨w.heap.size, 1 + k, none⟩ (.int .u8 (keepB (l.getD k 0) (stay n k)))) (w.heap.size + 1) 32 z from hz.far (by simp) _)
      have HB := Lib.hid (hB.setCell (p := ⟨w.heap.size, 1 + k, none⟩) (Nat.le_refl _) (.int .u8 (keepB (l.getD k 0) (stay n k))))
      have HZ := Lib.hid hzs
      have hx := ho.getD k
      have HK := Lib.hid (fun s hs => keepB_is (l.getD k 0) s hx.1 hx.2 hs)
      generalize hX : l.getD k 0 = x at *
      clear hset hb hB hz hzs hX hkl
      have e3 : (n - 8 * k < 0 ∧ stay n k = 0) ∨ (0 ≤ n - 8 * k ∧ n - 8 * k ≤ 8 ∧ stay n k = (n - 8 * k).toNat) ∨ (8 < n - 8 * k ∧ stay n k = 8) := by unfold stay; omega
      generalize stay n k = s at *
      have hv : (n - 8 * k < 0 ∧ bits .andNot .u8 x 255 = keepB x s) ∨ (0 ≤ n - 8 * k ∧ n - 8 * k ≤ 8 ∧ bits .andNot .u8 x (255 / 2 ^ (n - 8 * k).toNat) = keepB x s) ∨ (8 < n - 8 * k ∧ bits .andNot .u8 x 0 = keepB x s) := by
        rcases e3 with ⟨h1, rfl⟩ | ⟨h1, h2, rfl⟩ | ⟨h1, rfl⟩
        · exact .inl ⟨h1, HK.out 0 (by omega)⟩
        · exact .inr (.inl ⟨h1, h2, HK.out _ (by omega)⟩)
        · exact .inr (.inr ⟨h1, HK.out 8 (by omega)⟩)
      clear e3 HK hx
      generalize keepB x s = y at *
      rcases hv with ⟨h1, hv⟩ | ⟨h1, h2, hv⟩ | ⟨h1, hv⟩
      all_goals
        go_wp2
        go_region
        go_wp2
        exact ⟨⟨k + 1, by omega, by go_num, Hb.out, ⟨z, Hz.out, HZ.out⟩, below_drewN HB.out 1⟩, by simp [intOf]; omega⟩
    · obtain rfl : k = 16 := by omega
      rw [show (firstBits l n).take 16 ++ l.drop 16 = firstBits l n by rw [List.take_of_length_le (by rw [fb_len]; omega), List.drop_of_length_le (by omega), List.append_nil]] at hb
      have Hr := Lib.hid (show wr.rangeAt w.heap.size 0 (ipc v (firstBits l n)) from fun j u hu => by rw [hb.cell]; simpa using hu)
      have Hs := Lib.hid (ip_size v (firstBits l n) (by rw [fb_len]; exact hl))
      have Hz := Lib.hid hz
      have HZ := Lib.hid hzs
      have HB := Lib.hid hB
      clear hb hz hzs hB
      go_wp2_with (first
        | (refine wpList_load_mid rfl 32 _ rfl w.heap.size 0 rfl (ipc v (firstBits l n)) _ Hr.out Try.underlying32 rfl Hs.out ?_)
        | (refine wpList_store_row rfl 32 _ _ rfl (w.heap.size + 1) (ipc v (firstBits l n)).toArray rfl rfl 32 z Hz.out (by simpa using Hs.out) (by rw [HZ.out]; simp [fb_len, hl]) (by simp [Value.oneCell']) ?_))
      refine bodyPost_ret (v := .agg (ipc v (firstBits l n)).toArray) ?_ rfl ⟨rfl, HB.out.trans (below_setRow _ _ _ (by omega))⟩
      exact results_cell_row rfl _ _ (w.heap.size + 1) 32 _ (0, 0) _ rfl (Blk.setRow Hz.out _) Try.underlying32 rfl (by simpa using Hs.out)
theorem fb_oct (l : List Int) (n : Int) (ho : Oct l) : Oct (firstBits l n) := by
  intro x hx
  obtain ⟨i, hi, rfl⟩ := List.getElem_of_mem hx
  rw [fb_get l n i (by rwa [fb_len] at hi)]
  have hb := ho.getD i
  generalize l.getD i 0 = b at *
  have hs : stay n i ≤ 8 := by unfold stay; omega
  generalize stay n i = k at *
  unfold keepB
  have hp : (0 : Int) < 2 ^ (8 - k) := Int.pow_pos (by decide)
  have h1 := Int.mul_ediv_add_emod b (2 ^ (8 - k))
  have h2 := Int.emod_nonneg b (Int.ne_of_gt hp)
  have h3 : 0 ≤ b / 2 ^ (8 - k) := Int.ediv_nonneg hb.1 (Int.le_of_lt hp)
  rw [Int.mul_comm] at h1
  exact ⟨Int.mul_nonneg h3 (Int.le_of_lt hp), by omega⟩

/-- A prefix's cells. -/
abbrev pfc (v : Bool) (l : List Int) (n : Int) : List Value := Value.bool v :: (u8s l ++ [Value.int .i64 n])
def cutB (v : Bool) (l : List Int) (n : Int) : Bool := rightB v l && (decide (0 ≤ n) && decide (n ≤ bitsOf v))
def noPf : List Value := pfc false (List.replicate 16 0) 0
theorem u8s_one (l : List Int) : ∀ x ∈ u8s l, x.oneCell' = true := by
  intro x hx
  obtain ⟨y, _, rfl⟩ := List.mem_map.1 hx
  rfl
theorem pfc_one (v : Bool) (l : List Int) (n : Int) : (pfc v l n).toArray.all (·.oneCell') = true := all_oneCell_toArray (by
  intro x hx
  simp only [pfc, List.mem_cons, List.mem_append, List.mem_nil_iff, or_false] at hx
  rcases hx with rfl | hx | rfl
  · rfl
  · exact u8s_one l x hx
  · rfl)
theorem pfc_size (v : Bool) (l : List Int) (n : Int) (hl : l.length = 16) : (Try.prog.info? 34).map (·.size) = some (pfc v l n).toArray.size := by
  have : (Try.prog.info? 34).map (·.size) = some 18 := by kernel_rfl
  rw [this]; simp [hl]
theorem pf_store {ops : Array Oper} {rest : List Oper} {o : Oper} {a : Act} {w : World} {Q : Exit → Act → World → Prop} (hgd : o.guard = none) (x y : Operand) (ho : o.op = .store 34 x y) (g : Nat) (v : Bool) (l : List Int) (n : Int) (hl : l.length = 16)
    (hx : a.eval x = .pointer (some ⟨g, 0, none⟩)) (hy : a.eval y = .agg (pfc v l n).toArray) (t : TypeId) (old : Array Value) (hg : Blk w g t old) (hold : old.size = 18)
    (h : wpList Try.prog ops Q rest (a.put o.dst undef) (w.setRow g (pfc v l n).toArray)) : wpList Try.prog ops Q (o :: rest) a w :=
  wpList_store_row hgd 34 x y ho g _ hx hy t old hg (pfc_size v l n hl) (by rw [hold]; simp [hl]) (pfc_one v l n) h
theorem ip_fetch {ops : Array Oper} {rest : List Oper} {op : Oper} {a : Act} {w : World} {Q : Exit → Act → World → Prop} (hw : Region.wanted op (yielded ops a.tmps) = true) (x : Operand) (ho : op.op = .load 32 x) (b o : Nat) (v : Bool) (l : List Int) (hl : l.length = 16)
    (hx : a.eval x = .pointer (some ⟨b, o, none⟩)) (hc : w.rangeAt b o (ipc v l)) (h : wpList Try.prog ops Q rest (a.put op.dst (.agg (ipc v l).toArray)) w) : wpList Try.prog ops Q (op :: rest) a w :=
  BigFrame.wpList_want hw fun _ hK => wp_load_mid 32 x ho b o hx (ipc v l) _ hc Try.underlying32 rfl (ip_size v l hl) (hK _ _ h)
theorem built_pf16 (v : Bool) (b0 b1 b2 b3 b4 b5 b6 b7 b8 b9 b10 b11 b12 b13 b14 b15 n : Int) : Try.prog.built 34 [(0, .agg (ipc v [b0, b1, b2, b3, b4, b5, b6, b7, b8, b9, b10, b11, b12, b13, b14, b15]).toArray), (1, .int .i64 n)] = some (pfc v [b0, b1, b2, b3, b4, b5, b6, b7, b8, b9, b10, b11, b12, b13, b14, b15] n).toArray := by kernel_rfl
theorem built_pf (v : Bool) (l : List Int) (n : Int) (hl : l.length = 16) : Try.prog.built 34 [(0, .agg (ipc v l).toArray), (1, .int .i64 n)] = some (pfc v l n).toArray := by
  match l, hl with
  | [b0, b1, b2, b3, b4, b5, b6, b7, b8, b9, b10, b11, b12, b13, b14, b15], _ => exact built_pf16 v b0 b1 b2 b3 b4 b5 b6 b7 b8 b9 b10 b11 b12 b13 b14 b15 n
theorem pf_build {ops : Array Oper} {rest : List Oper} {o : Oper} {a : Act} {w : World} {Q : Exit → Act → World → Prop} (hg : o.guard = none) (x y : Operand) (ho : o.op = .build 34 #[(0, x), (1, y)]) (v : Bool) (l : List Int) (n : Int) (hl : l.length = 16)
    (hx : a.eval x = .agg (ipc v l).toArray) (hy : a.eval y = .int .i64 n) (h : wpList Try.prog ops Q rest (a.put o.dst (.agg (pfc v l n).toArray)) w) : wpList Try.prog ops Q (o :: rest) a w := by
  have hb := built_pf v l n hl
  have he : (#[(0, x), (1, y)].map fun (i, x) => (i, a.eval x)).toList = [(0, .agg (ipc v l).toArray), (1, .int .i64 n)] := by simp [hx, hy]
  refine wpList_build hg 34 _ ho (by rw [he, hb]; rfl) ?_
  rw [he, hb]
  exact h
def Cut (w : World) (v : Bool) (l : List Int) (n : Int) (e : Ending) (w' : World) : Prop :=
  Below w.heap.size w w' ∧ e = .returned (if cutB v l n then .tuple #[.agg (pfc v (firstBits l n) n).toArray, .int .i64 0] else .tuple #[.agg noPf.toArray, .int .i64 2])
set_option maxHeartbeats 1000000 in
set_option maxRecDepth 100000 in
theorem cut_no (w : World) (v : Bool) (l : List Int) (n : Int) (hl : l.length = 16) (ho : Oct l) (h : rightB v l = false) :
    Calls Try.prog 81 #[.agg (ipc v l).toArray, .int .i64 n] w (Cut w v l n) := by
  have hr := range_alloc (range_new w 32 (ipc v l)) (.cells noPf.toArray 34) (by simp)
  have Hr := Lib.hid hr
  have Hs := Lib.hid (ip_size v l hl)
  have HC := Lib.hid (show cutB v l n = false by unfold cutB; rw [h]; rfl)
  have HR := Lib.hid (right_is ((w.alloc (.cells (ipc v l).toArray 32)).alloc (.cells noPf.toArray 34)) v l hl ho)
  rw [h] at HR
  clear hr h
  go_enter Try.func81, Try.ntmps81
  go_wp2_with (refine ip_fetch rfl _ rfl w.heap.size 0 v l hl rfl Hr.out ?_)
  refine HR.out.mono ?_
  rintro e w1 ⟨rfl, hB⟩
  have HB := Lib.hid hB
  have Hz := Lib.hid ((Blk.new (w.alloc (.cells (ipc v l).toArray 32)) 34 noPf.toArray).below hB (by simp))
  rw [show (w.alloc (.cells (ipc v l).toArray 32)).heap.size = w.heap.size + 1 by simp] at Hz
  clear hB
  go_wp2_with (refine pf_store rfl _ _ rfl (w.heap.size + 1) false (List.replicate 16 0) 0 rfl rfl rfl 34 noPf.toArray Hz.out rfl ?_)
  refine bodyPost_ret (v := .tuple #[.agg noPf.toArray, .int .i64 2]) ?_ rfl ⟨?_, by rw [HC.out]; rfl⟩
  · exact results_cell_slot rfl _ _ (w.heap.size + 1) 34 _ _ _ rfl rfl (Blk.setRow Hz.out _) Try.underlying34 rfl (by kernel_rfl)
  · exact ((((Below.refl w.heap.size w).alloc (Nat.le_refl _) _).alloc (by simp) _).trans (HB.out.mono (by simp; omega))).trans (below_setRow _ _ _ (by omega))

set_option maxHeartbeats 1000000 in
set_option maxRecDepth 100000 in
theorem cut_low (w : World) (v : Bool) (l : List Int) (n : Int) (hl : l.length = 16) (ho : Oct l) (h : rightB v l = true) (hn : n < 0) :
    Calls Try.prog 81 #[.agg (ipc v l).toArray, .int .i64 n] w (Cut w v l n) := by
  have hr := range_alloc (range_new w 32 (ipc v l)) (.cells noPf.toArray 34) (by simp)
  have Hr := Lib.hid hr
  have HC := Lib.hid (show cutB v l n = false by unfold cutB; rw [decide_eq_false (show ¬ 0 ≤ n by omega), Bool.false_and, Bool.and_false])
  have HR := Lib.hid (right_is ((w.alloc (.cells (ipc v l).toArray 32)).alloc (.cells noPf.toArray 34)) v l hl ho)
  rw [h] at HR
  have hd : decide (n < 0) = true := by simpa using hn
  clear hr h
  go_enter Try.func81, Try.ntmps81
  go_wp2_with (refine ip_fetch rfl _ rfl w.heap.size 0 v l hl rfl Hr.out ?_)
  refine HR.out.mono ?_
  rintro e w1 ⟨rfl, hB⟩
  have HB := Lib.hid hB
  have Hz := Lib.hid ((Blk.new (w.alloc (.cells (ipc v l).toArray 32)) 34 noPf.toArray).below hB (by simp))
  rw [show (w.alloc (.cells (ipc v l).toArray 32)).heap.size = w.heap.size + 1 by simp] at Hz
  clear hB
  go_wp2_with (refine pf_store rfl _ _ rfl (w.heap.size + 1) false (List.replicate 16 0) 0 rfl rfl rfl 34 noPf.toArray Hz.out rfl ?_)
  refine bodyPost_ret (v := .tuple #[.agg noPf.toArray, .int .i64 2]) ?_ rfl ⟨?_, by rw [HC.out]; rfl⟩
  · exact results_cell_slot rfl _ _ (w.heap.size + 1) 34 _ _ _ rfl rfl (Blk.setRow Hz.out _) Try.underlying34 rfl (by kernel_rfl)
  · exact ((((Below.refl w.heap.size w).alloc (Nat.le_refl _) _).alloc (by simp) _).trans (HB.out.mono (by simp; omega))).trans (below_setRow _ _ _ (by omega))

set_option maxHeartbeats 1000000 in
set_option maxRecDepth 100000 in
theorem cut_in (w : World) (v : Bool) (l : List Int) (n : Int) (hl : l.length = 16) (ho : Oct l) (h : rightB v l = true) (hn : 0 ≤ n) :
    Calls Try.prog 81 #[.agg (ipc v l).toArray, .int .i64 n] w (Cut w v l n) := by
  have hr := range_alloc (range_new w 32 (ipc v l)) (.cells noPf.toArray 34) (by simp)
  have Hr := Lib.hid hr
  have HC := Lib.hid (show cutB v l n = decide (n ≤ bitsOf v) by unfold cutB; rw [h, decide_eq_true hn, Bool.true_and, Bool.true_and])
  have HR := Lib.hid (right_is ((w.alloc (.cells (ipc v l).toArray 32)).alloc (.cells noPf.toArray 34)) v l hl ho)
  rw [h] at HR
  have hd : decide (n < 0) = false := by simpa using hn
  have hb8 : bitsOf v ≤ 128 := by unfold bitsOf; split <;> omega
  clear hr h
  go_enter Try.func81, Try.ntmps81
  go_wp2_with (refine ip_fetch rfl _ rfl w.heap.size 0 v l hl rfl Hr.out ?_)
  refine HR.out.mono ?_
  rintro e w1 ⟨rfl, hB⟩
  have HB := Lib.hid hB
  have Hz := Lib.hid ((Blk.new (w.alloc (.cells (ipc v l).toArray 32)) 34 noPf.toArray).below hB (by simp))
  rw [show (w.alloc (.cells (ipc v l).toArray 32)).heap.size = w.heap.size + 1 by simp] at Hz
  have Hr1 := Lib.hid (range_below Hr.out hB (by simp; omega))
  clear hB
  go_wp2_with (refine ip_fetch rfl _ rfl w.heap.size 0 v l hl rfl Hr1.out ?_)
  refine (bits_is w1 v l).mono ?_
  rintro e w2 ⟨rfl, hB2⟩
  have HB2 := Lib.hid hB2
  have hs1 : w.heap.size + 1 < w1.heap.size := by have := HB.out.size; simp at this; omega
  have Hz2 := Lib.hid (Hz.out.below hB2 hs1)
  have Hr2 := Lib.hid (range_below Hr1.out hB2 (by omega))
  have HB02 : Hid (Below w.heap.size w w2) := Lib.hid ((((((Below.refl w.heap.size w).alloc (Nat.le_refl _) _).alloc (by simp) _).trans (HB.out.mono (by simp; omega)))).trans (HB2.out.mono (by omega)))
  have hs2 : w.heap.size + 1 < w2.heap.size := by have := HB2.out.size; omega
  clear hB2 Hr1 Hz HB HB2 Hr
  by_cases hle : n ≤ bitsOf v
  · have HL := Lib.hid hle
    have hd2 : decide (n > bitsOf v) = false := by simpa using hle
    have hd3 : decide (bitsOf v < n) = false := by simpa using hle
    go_wp2_with (refine ip_fetch rfl _ rfl w.heap.size 0 v l hl rfl Hr2.out ?_)
    refine (fbits_is w2 v l n hl ho hn (by omega)).mono ?_
    rintro e w3 ⟨rfl, hB3⟩
    have HB3 := Lib.hid hB3
    have Hz3 := Lib.hid (Hz2.out.below hB3 hs2)
    clear hB3
    go_wp2_with (first
      | (refine pf_build rfl _ _ rfl v (firstBits l n) n (by rw [fb_len]; exact hl) rfl rfl ?_)
      | (refine pf_store rfl _ _ rfl (w.heap.size + 1) v (firstBits l n) n (by rw [fb_len]; exact hl) rfl rfl 34 noPf.toArray Hz3.out rfl ?_))
    refine bodyPost_ret (v := .tuple #[.agg (pfc v (firstBits l n) n).toArray, .int .i64 0]) ?_ rfl ⟨?_, by rw [HC.out, decide_eq_true HL.out]; rfl⟩
    · exact results_cell_slot rfl _ _ (w.heap.size + 1) 34 _ _ _ rfl rfl (Blk.setRow Hz3.out _) Try.underlying34 rfl (pfc_size v _ n (by rw [fb_len]; exact hl))
    · exact (HB02.out.trans (HB3.out.mono (by omega))).trans (below_setRow _ _ _ (by omega))
  · have HL := Lib.hid hle
    have hd2 : decide (n > bitsOf v) = true := by simpa using hle
    have hd3 : decide (bitsOf v < n) = true := by simpa using hle
    go_wp2_with (refine pf_store rfl _ _ rfl (w.heap.size + 1) false (List.replicate 16 0) 0 rfl rfl rfl 34 noPf.toArray Hz2.out rfl ?_)
    refine bodyPost_ret (v := .tuple #[.agg noPf.toArray, .int .i64 2]) ?_ rfl ⟨?_, by rw [HC.out, decide_eq_false (Int.not_le.2 HL.out)]; rfl⟩
    · exact results_cell_slot rfl _ _ (w.heap.size + 1) 34 _ _ _ rfl rfl (Blk.setRow Hz2.out _) Try.underlying34 rfl (by kernel_rfl)
    · exact HB02.out.trans (below_setRow _ _ _ (by omega))

theorem cut_is (w : World) (v : Bool) (l : List Int) (n : Int) (hl : l.length = 16) (ho : Oct l) :
    Calls Try.prog 81 #[.agg (ipc v l).toArray, .int .i64 n] w (Cut w v l n) := by
  cases h : rightB v l
  · exact cut_no w v l n hl ho h
  · rcases Int.lt_or_le n 0 with hn | hn
    · exact cut_low w v l n hl ho h hn
    · exact cut_in w v l n hl ho h hn
end Go.Proofs.Ytickcfcncpnaiaa
namespace Go.Proofs.Ytickcfcncpnaiaa
open Go.RowKit
set_option maxRecDepth 100000
set_option linter.unusedSimpArgs false
set_option linter.unusedVariables false

abbrev I64 (n : Int) : Prop := -9223372036854775808 ≤ n ∧ n < 9223372036854775808
theorem i64_wf {n : Int} (h : I64 n) : (Lit.int .i64 n).wf = true := by
  simp [Lit.wf, IntKind.min, IntKind.max, IntKind.signed, IntKind.bits]; omega
theorem pf_lits (v : Bool) (l : List Int) (n : Int) (hl : l.length = 16) (ho : Oct l) (hn : I64 n) : Try.prog.keyLits 4 34 (pfc v l n) = some (.bool v :: (l.map (Lit.int .u8) ++ [.int .i64 n])) := by
  have h := ip_lits v l hl ho
  have hc1 : Try.prog.cellsOf 34 = 18 := by kernel_rfl
  have hc2 : Try.prog.cellsOf 32 = 17 := by kernel_rfl
  have hc3 : Try.prog.cellsOf 3 = 1 := by kernel_rfl
  unfold Program.keyLits
  rw [Try.underlying34]
  have hb : Try.prog.keyLits 3 3 [Value.int .i64 n] = some [Lit.int .i64 n] := by
    unfold Program.keyLits
    rw [Try.underlying3]
    simp [i64_wf hn]
  have ht : (pfc v l n).take 17 = ipc v l := by show (ipc v l ++ [Value.int .i64 n]).take 17 = _; rw [List.take_append_of_le_length (by simp [hl])]; exact List.take_of_length_le (by simp [hl])
  have hd : ((pfc v l n).drop 17).take 1 = [Value.int .i64 n] := by
    show ((ipc v l ++ [Value.int .i64 n]).drop 17).take 1 = _
    rw [show 17 = (ipc v l).length by simp [hl], List.drop_left]; rfl
  have hlen : (pfc v l n).length = 18 := by simp [hl]
  simp only [hc1, hlen, hc2, hc3, List.mapM_cons, List.mapM_nil, List.drop_zero, ht, hd, h, hb]
  simp [ht, hd, h, hb, hc2, hc3]
theorem pf_formed (v : Bool) (l : List Int) (n : Int) (hl : l.length = 16) : (Value.agg (pfc v l n).toArray).formed Try.prog 34 = true := by
  have hc1 : Try.prog.cellsOf 34 = 18 := by kernel_rfl
  simp [Value.formed, Try.underlying34, hc1, hl]
theorem pf_inj {v v' : Bool} {l l' : List Int} {n n' : Int} (hl : l.length = 16) (hl' : l'.length = 16) :
    (Lit.bool v :: (l.map (Lit.int .u8) ++ [Lit.int .i64 n]) = Lit.bool v' :: (l'.map (Lit.int .u8) ++ [Lit.int .i64 n'])) ↔ (v = v' ∧ l = l' ∧ n = n') := by
  constructor
  · intro h
    simp only [List.cons.injEq, Lit.bool.injEq] at h
    obtain ⟨h1, h2⟩ := List.append_inj h.2 (by simp [hl, hl'])
    simp at h2
    exact ⟨h.1, lits_inj h1, h2⟩
  · rintro ⟨rfl, rfl, rfl⟩; rfl
theorem pf_eql (v v' : Bool) (l l' : List Int) (n n' : Int) (hl : l.length = 16) (hl' : l'.length = 16) (ho : Oct l) (ho' : Oct l') (hn : I64 n) (hn' : I64 n') (b : Bool) (hb : decide (v = v' ∧ l = l' ∧ n = n') = b) (w : World) :
    (binOp .eql 34 (.agg (pfc v l n).toArray) (.agg (pfc v' l' n').toArray)).run Try.prog w = .ok (.bool b) w := by
  refine run_eql_key 4 4 4 (by kernel_rfl) (by omega) _ _ _ _ (pf_formed v l n hl) (pf_formed v' l' n' hl') (pf_lits v l n hl ho hn) (pf_lits v' l' n' hl' ho' hn') b ?_ w
  subst hb
  rw [decide_eq_true_eq, pf_inj hl hl']
theorem pf_neq (v v' : Bool) (l l' : List Int) (n n' : Int) (hl : l.length = 16) (hl' : l'.length = 16) (ho : Oct l) (ho' : Oct l') (hn : I64 n) (hn' : I64 n') (b : Bool) (hb : (!decide (v = v' ∧ l = l' ∧ n = n')) = b) (w : World) :
    (binOp .neq 34 (.agg (pfc v l n).toArray) (.agg (pfc v' l' n').toArray)).run Try.prog w = .ok (.bool b) w := by
  subst hb
  refine run_neq_key 4 4 4 (by kernel_rfl) (by omega) _ _ _ _ (pf_formed v l n hl) (pf_formed v' l' n' hl') (pf_lits v l n hl ho hn) (pf_lits v' l' n' hl' ho' hn') _ ?_ w
  rw [decide_eq_true_eq, pf_inj hl hl']
theorem pf_fetch {ops : Array Oper} {rest : List Oper} {op : Oper} {a : Act} {w : World} {Q : Exit → Act → World → Prop} (hw : Region.wanted op (yielded ops a.tmps) = true) (x : Operand) (ho : op.op = .load 34 x) (b : Nat) (v : Bool) (l : List Int) (n : Int) (hl : l.length = 16)
    (hx : a.eval x = .pointer (some ⟨b, 0, none⟩)) (hc : w.rangeAt b 0 (pfc v l n)) (h : wpList Try.prog ops Q rest (a.put op.dst (.agg (pfc v l n).toArray)) w) : wpList Try.prog ops Q (op :: rest) a w :=
  BigFrame.wpList_want hw fun _ hK => wp_load_mid 34 x ho b 0 hx (pfc v l n) _ hc Try.underlying34 rfl (by simpa using pfc_size v l n hl) (hK _ _ h)

def hasB (v : Bool) (l : List Int) (n : Int) (v' : Bool) (l' : List Int) : Bool := cutB v' l' n && decide (v' = v ∧ firstBits l' n = l)

set_option maxHeartbeats 1000000 in
set_option maxRecDepth 100000 in
theorem has_is (w : World) (v : Bool) (l : List Int) (n : Int) (v' : Bool) (l' : List Int) (hl : l.length = 16) (ho : Oct l) (hl' : l'.length = 16) (ho' : Oct l') (hn : I64 n) :
    Calls Try.prog 71 #[.agg (pfc v l n).toArray, .agg (ipc v' l').toArray] w fun e w' => e = .returned (.bool (hasB v l n v' l')) ∧ Below w.heap.size w w' := by
  have hp := range_alloc (range_new w 34 (pfc v l n)) (.cells (ipc v' l').toArray 32) (by simp)
  have ha := range_new (w.alloc (.cells (pfc v l n).toArray 34)) 32 (ipc v' l')
  rw [show (w.alloc (.cells (pfc v l n).toArray 34)).heap.size = w.heap.size + 1 by simp] at ha
  have hc := (range_post (cs := ipc v l) (ds := [Value.int .i64 n]) hp) 0 _ rfl
  rw [show 0 + (ipc v l).length + 0 = 17 by simp [hl]] at hc
  have Hp := Lib.hid hp
  have Ha := Lib.hid ha
  clear hp ha
  go_enter Try.func71, Try.ntmps71
  go_wp2_with (refine ip_fetch rfl _ rfl (w.heap.size + 1) 0 v' l' hl' rfl Ha.out ?_)
  refine (cut_is _ v' l' n hl' ho').mono ?_
  rintro e w1 ⟨hB, he⟩
  have Hp1 := Lib.hid (range_below Hp.out hB (by simp; omega))
  have HB : Hid (Below w.heap.size w w1) := Lib.hid ((((Below.refl w.heap.size w).alloc (Nat.le_refl _) _).alloc (by simp) _).trans (hB.mono (by simp; omega)))
  have hs1 : w.heap.size < w1.heap.size := by have := hB.size; simp at this; omega
  clear hB Hp Ha hc
  cases hcut : cutB v' l' n
  · rw [hcut] at he
    subst he
    have HR := Lib.hid (show hasB v l n v' l' = false by unfold hasB; rw [hcut]; rfl)
    clear hcut
    go_wp2_with (first | (refine pf_store rfl _ _ rfl w1.heap.size false (List.replicate 16 0) 0 rfl rfl rfl 34 noPf.toArray (Blk.new w1 34 noPf.toArray) rfl ?_))
    go_ret
    exact ⟨by rw [HR.out]; rfl, (HB.out.alloc (Nat.le_of_lt hs1) _).trans (below_setRow _ _ _ (Nat.le_of_lt hs1))⟩
  · rw [hcut] at he
    subst he
    have hr0 : hasB v l n v' l' = decide (v' = v ∧ firstBits l' n = l) := by unfold hasB; rw [hcut, Bool.true_and]
    have hE : ∀ W, (binOp .eql 34 (.agg (pfc v' (firstBits l' n) n).toArray) (.agg (pfc v l n).toArray)).run Try.prog W = .ok (.bool (hasB v l n v' l')) W :=
      pf_eql v' v (firstBits l' n) l n n (by rw [fb_len]; exact hl') hl (fb_oct l' n ho') ho hn hn _ (by rw [hr0]; simp)
    have hfl : (firstBits l' n).length = 16 := by rw [fb_len]; exact hl'
    have HF := Lib.hid hfl
    have Hn1 : Hid (((w1.alloc (.cells noPf.toArray 34)).setRow w1.heap.size (pfc v' (firstBits l' n) n).toArray).rangeAt w1.heap.size 0 (pfc v' (firstBits l' n) n)) := Lib.hid (Blk.range (Blk.setRow (Blk.new w1 34 noPf.toArray) _))
    have Hn2 : Hid (((w1.alloc (.cells noPf.toArray 34)).setRow w1.heap.size (pfc v' (firstBits l' n) n).toArray).rangeAt w.heap.size 0 (pfc v l n)) :=
      Lib.hid (range_below (range_alloc Hp1.out _ hs1) (below_setRow _ w1.heap.size _ (Nat.le_refl _)) hs1)
    clear hcut hr0 hfl Hp1
    generalize hr : hasB v l n v' l' = r at *
    have HRR := Lib.hid hr
    clear hr
    generalize firstBits l' n = f at *
    go_wp2_with (first
      | (refine pf_store rfl _ _ rfl w1.heap.size v' f n HF.out rfl rfl 34 noPf.toArray (Blk.new w1 34 noPf.toArray) rfl ?_)
      | (refine pf_fetch rfl _ rfl w1.heap.size v' f n HF.out rfl Hn1.out ?_)
      | (refine pf_fetch rfl _ rfl w.heap.size v l n hl rfl Hn2.out ?_))
    go_ret
    exact ⟨by rw [HRR.out]; rfl, (HB.out.alloc (Nat.le_of_lt hs1) _).trans (below_setRow _ _ _ (Nat.le_of_lt hs1))⟩

def rightPfB (v : Bool) (l : List Int) (n : Int) : Bool := hasB v l n v l
set_option maxHeartbeats 1000000 in
set_option maxRecDepth 100000 in
theorem rpf_is (w : World) (v : Bool) (l : List Int) (n : Int) (hl : l.length = 16) (ho : Oct l) (hn : I64 n) :
    Calls Try.prog 56 #[.agg (pfc v l n).toArray] w fun e w' => e = .returned (.bool (rightPfB v l n)) ∧ Below w.heap.size w w' := by
  have hp := range_new w 34 (pfc v l n)
  have Hp := Lib.hid hp
  have Ha := Lib.hid (range_pre (cs := ipc v l) (ds := [Value.int .i64 n]) hp)
  clear hp
  go_enter Try.func56, Try.ntmps56
  go_wp2_with (first
    | (refine pf_fetch rfl _ rfl w.heap.size v l n hl rfl Hp.out ?_)
    | (refine ip_fetch rfl _ rfl w.heap.size 0 v l hl rfl Ha.out ?_))
  refine (has_is _ v l n v l hl ho hl ho hn).mono ?_
  rintro e w1 ⟨rfl, hB⟩
  have HB := Lib.hid hB
  clear hB
  go_wp2
  go_ret
  exact ⟨rfl, ((Below.refl w.heap.size w).alloc (Nat.le_refl _) _).trans (HB.out.mono (by simp))⟩
end Go.Proofs.Ytickcfcncpnaiaa
