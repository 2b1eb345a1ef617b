/-
  The document's answer, layer 2: four.
-/
import Derived.Test.YtfapmedlnaikiaaDoorRefB
import Derived.Test.YtfapmedlnaikiaaDoorAdL
namespace Go.Proofs.YtfapmedlnaikiaaDoor
open Go.RowKit
set_option linter.unusedSimpArgs false
set_option linter.unusedVariables false

/-- The first k numbers, with . between. -/
def ft (l : List Int) : Nat → ByteArray
  | 0 => ⟨#[]⟩
  | k + 1 => (if 0 < k then ft l k ++ ⟨#[46]⟩ else ft l k) ++ decS (l.getD k 0)
theorem ft_size (l : List Int) (ho : Oct l) : ∀ k, (ft l k).size ≤ 21 * k
  | 0 => by simp [ft, ByteArray.size]
  | k + 1 => by
    have ih := ft_size l ho k
    have hx := ho.getD k
    have := decS_size (l.getD k 0) hx.1 (by omega)
    unfold ft
    have h1 : (⟨#[46]⟩ : ByteArray).size = 1 := rfl
    split
    · simp only [ByteArray.size_append]; omega
    · simp only [ByteArray.size_append]; omega
theorem ft_four (l : List Int) (hl : l.length = 4) : ft l 4 = fourS l := by
  match l, hl with
  | [a, b, c, d], _ =>
    apply ByteArray.ext
    simp [ft, fourS, joinS, Lib.join_cons, Lib.joinTail, List.getD, ByteArray.data_append]
set_option maxHeartbeats 4000000 in
set_option maxRecDepth 100000 in
theorem rfourt_is (w : World) (B : Nat) (A : Option Addr) (c : Nat) (l : List Int) (hr : Rd w B A 4 l) (hB : B ≤ w.heap.size) :
    Calls Tryd.prog 59 #[.slice A 4 c] w fun e w' => e = .returned (.string (fourS l)) ∧ Below w.heap.size w w' := by
  have HF := Lib.hid (ft_four l hr.len)
  have HO := Lib.hid hr.oct
  obtain ⟨b, off, rfl, hb, hcell⟩ := hr.at_ (by omega)
  have HC := Lib.hid hcell
  clear hcell hr
  generalize fourS l = out at *
  go_enter Tryd.func59, Tryd.ntmps59
  go_wp2
  go_loopw [3, 4] (fun s i wr => ∃ k : Nat, k ≤ 4 ∧ i = .int .i64 k ∧ s = .string (ft l k) ∧ Below w.heap.size w wr) (fun _ i _ => 4 - (intOf i).toNat)
  case atStart => exact ⟨0, by omega, rfl, rfl, Below.refl _ _⟩
  case round =>
    obtain ⟨k, hk, rfl, rfl, hL⟩ := hrel
    have HL := Lib.hid hL
    clear hL
    by_cases hlt : k < 4
    · have hx := HO.out.getD k
      have hsz := ft_size l HO.out k
      have hds := decS_size (l.getD k 0) hx.1 (by omega)
      have hcm : wr.cell? ⟨b, off + k, none⟩ = some (.int .u8 (l.getD k 0)) := (HL.out.cell (p := ⟨b, off + k, none⟩) (show b < w.heap.size by omega)).trans (HC.out k hlt)
      have HS : Hid (ft l (k + 1) = (if 0 < k then ft l k ++ ⟨#[46]⟩ else ft l k) ++ decS (l.getD k 0)) := Lib.hid rfl
      obtain ⟨x, hxe⟩ := Int.eq_ofNat_of_zero_le hx.1
      have hx256 : x < 18446744073709551616 := by omega
      have wx : IntKind.u64.wrap (x : Int) = (x : Int) := by rw [IntKind.wrap_u64]; exact Int.emod_eq_of_lt (by omega) (by omega)
      rw [hxe] at hcm HS hds
      clear hxe hx
      have HDec := Lib.hid (rdec_is wr x hx256)
      generalize hD : decS (x : Int) = dx at *
      clear hD
      generalize ft l k = cur at *
      by_cases hk0 : 0 < k
      · have hkz : (k : Int) > 0 := by omega
        rw [if_pos hk0] at HS
        have z1 : ¬ 9223372036854775807 < cur.size + 1 := by omega
        have z2 : ¬ 9223372036854775807 < cur.size + 1 + dx.size := by omega
        go_wp2_with fail
        refine HDec.out.mono ?_
        rintro e w1 ⟨rfl, hB1⟩
        have HL1 := Lib.hid (HL.out.trans (hB1.mono HL.out.size))
        clear hB1 HDec hcm
        go_wp2
        exact ⟨⟨k + 1, by omega, by go_num, by rw [HS.out], HL1.out⟩, by simp [intOf]; omega⟩
      · have hkz : ¬ (k : Int) > 0 := by omega
        rw [if_neg hk0] at HS
        have z2 : ¬ 9223372036854775807 < cur.size + dx.size := by omega
        go_wp2_with fail
        refine HDec.out.mono ?_
        rintro e w1 ⟨rfl, hB1⟩
        have HL1 := Lib.hid (HL.out.trans (hB1.mono HL.out.size))
        clear hB1 HDec hcm
        go_wp2
        exact ⟨⟨k + 1, by omega, by go_num, by rw [HS.out], HL1.out⟩, by simp [intOf]; omega⟩
    · obtain rfl : k = 4 := by omega
      go_wp2
      go_ret
      exact ⟨by rw [← HF.out]; rfl, HL.out⟩
end Go.Proofs.YtfapmedlnaikiaaDoor
