/-
  Layer 2 (addr): contracts of the small functions.
-/
import Derived.Test.YtkaimdcepnhkdaaDoorProg
import Derived.Test.YtkaimdcepnhkdaaDoorMid
import Derived.Outline
import Derived.BigQuiet
import Derived.WalkLawsBesides
namespace Go.Proofs.YtkaimdcepnhkdaaDoor
open Go.RowKit
set_option linter.unusedSimpArgs false
set_option linter.unusedVariables false

set_option maxHeartbeats 400000 in
theorem number_is (w : World) (B : Nat) (A : Option Addr) (n c : Nat) (l : List Int) (hr : Rd w B A n l) (h8 : n ≤ 8) :
    Calls Tryd.prog 117 #[.slice A n c] w fun e w' => e = .returned (.int .u64 (numOf l)) ∧ w = w' := by
  have H := Lib.hid hr
  obtain rfl := hr.len
  have HO := Lib.hid hr.oct
  clear hr
  go_enter Tryd.func117, Tryd.ntmps117
  go_wp2
  go_loop [3, 5, 8] (fun s _ i => ∃ m : Nat, m ≤ l.length ∧ i = .int .i64 m ∧ s = .int .u64 (numOf (l.take m))) (fun _ _ i => l.length - (intOf i).toNat)
  case atStart => exact ⟨0, Nat.zero_le _, rfl, rfl⟩
  case round =>
    obtain ⟨m, hm, rfl, rfl⟩ := hrel
    by_cases hlt : m < l.length
    · obtain ⟨b, off, rfl, hb, hcell⟩ := H.out.at_ (by omega)
      have hcm := hcell m hlt
      have HS := Lib.hid (numOf_step l m hlt h8 HO.out)
      clear hcell
      go_wp2
      refine ⟨⟨m + 1, by omega, by go_num, by rw [HS.out]⟩, by simp [intOf]; omega⟩
    · obtain rfl : m = l.length := by omega
      rw [List.take_length]
      go_wp2
      go_ret
      exact ⟨rfl, rfl⟩

/-- An address's cells. -/
abbrev ipc (v : Bool) (l : List Int) : List Value := Value.bool v :: u8s l
set_option maxHeartbeats 400000 in
theorem first4_is (w : World) (v : Bool) (l : List Int) (hl : l.length = 16) (ho : Oct l) :
    Calls Tryd.prog 76 #[.agg (ipc v l).toArray] w fun e w' => e = .returned (.int .u32 (numOf (l.take 4))) ∧ Below w.heap.size w w' := by
  have hr0 := rd_range (pre := [.bool v]) (post := []) (l := l) (B := w.heap.size + 1) (by simpa using range_new w 24 (ipc v l)) ho 0 4 (by omega) (by omega)
  have H := Lib.hid hr0
  clear hr0
  have hb := numOf_bd (l.take 4) (fun x hx => ho x (List.mem_of_mem_take hx))
  rw [show (l.take 4).length = 4 by simp; omega] at hb
  have HW := Lib.hid (show numOf (l.take 4) % 4294967296 = numOf (l.take 4) from Int.emod_eq_of_lt hb.1 (by omega))
  clear hb
  go_enter Tryd.func76, Tryd.ntmps76
  go_wp2_with fail
  refine (number_is _ (w.heap.size + 1) _ 4 16 (l.take 4) (by simpa using H.out) (by omega)).mono ?_
  rintro e w' ⟨rfl, rfl⟩
  go_wp2
  go_ret
  rw [HW.out]
  exact ⟨rfl, (Below.refl _ _).alloc (Nat.le_refl _) _⟩

/-- The four bytes of n. -/
def four (n : Int) : List Int := [n / 16777216, n / 65536 % 256, n / 256 % 256, n % 256] ++ List.replicate 12 0

set_option maxHeartbeats 400000 in
theorem four_is (w : World) (n : Int) (h0 : 0 ≤ n) (h1 : n < 4294967296) :
    Calls Tryd.prog 19 #[.int .u32 n] w fun e w' => e = .returned (.agg (ipc false (four n)).toArray) ∧ Below w.heap.size w w' := by
  go_enter Tryd.func19, Tryd.ntmps19
  go_wp2
  refine bodyPost_ret (v := .agg (ipc false (four n)).toArray) ?_ rfl ⟨rfl, (Below.refl _ _).alloc (Nat.le_refl _) _⟩
  exact results_cell_row rfl _ _ w.heap.size 24 _ (0, 0) _ rfl (Blk.new w 24 _) Tryd.underlying24 rfl (by kernel_rfl)

theorem four_len (n : Int) : (four n).length = 16 := by simp [four]
theorem four_oct (n : Int) (h0 : 0 ≤ n) (h1 : n < 4294967296) : Oct (four n) := by
  intro x hx
  simp [four] at hx
  omega
/-- An address that is right. -/
def rightB (v : Bool) (l : List Int) : Bool := v || decide (l.drop 4 = List.replicate 12 0)
theorem four_num : ∀ (l : List Int), l.length = 16 → Oct l → (l = four (numOf (l.take 4)) ↔ l.drop 4 = List.replicate 12 0) := by
  intro l hl ho
  match l, hl with
  | a :: b :: c :: d :: r, hl =>
    have ha := ho a (by simp)
    have hb := ho b (by simp)
    have hc := ho c (by simp)
    have hd := ho d (by simp)
    have e : numOf [a, b, c, d] = ((a * 256 + b) * 256 + c) * 256 + d := by simp [numOf]
    simp only [List.take_succ_cons, List.take_zero, e, four, List.drop_succ_cons, List.drop_zero, List.cons_append, List.nil_append, List.cons.injEq]
    constructor
    · exact fun h => h.2.2.2.2
    · exact fun h => ⟨by omega, by omega, by omega, by omega, h⟩

end Go.Proofs.YtkaimdcepnhkdaaDoor
