/-
  Layer 1 (octet): contract of Put.
-/
import Derived.Test.YtgfjjkckamppoaaDoorOctD
namespace Go.Proofs.YtgfjjkckamppoaaDoor
open Go.RowKit
set_option maxRecDepth 100000

/-- The lowest k bytes of n, the highest of them first. -/
def be : Nat → Int → List Int
  | 0, _ => []
  | k + 1, n => (n / 256 ^ k % 256) :: be k n
theorem be_len : ∀ k n, (be k n).length = k
  | 0, _ => rfl
  | k + 1, n => by simp [be, be_len k n]
theorem be_oct : ∀ k n, Oct (be k n)
  | 0, _ => by intro x h; cases h
  | k + 1, n => by
    intro x h
    rcases List.mem_cons.1 h with rfl | h
    · omega
    · exact be_oct k n x h

theorem set_mid (l r : List Int) (j : Nat) (x : Int) : (l ++ (List.replicate (j + 1) 0 ++ r)).set (l.length + j) x = l ++ (List.replicate j 0 ++ x :: r) := by
  rw [List.set_append_right _ _ (by omega), Nat.add_sub_cancel_left, List.replicate_succ', List.append_assoc, List.set_append_right _ _ (by simp)]
  simp

theorem wrap_u8_mod (n : Int) : IntKind.u8.wrap n = n % 256 := by simp [IntKind.wrap, IntKind.bits, IntKind.signed]

def PutNo (w : World) (e : Ending) (w' : World) : Prop := e = .returned (.tuple #[.slice none 0 0, .int .i64 2]) ∧ w = w'

set_option maxHeartbeats 400000 in
theorem put_no (w : World) (A : Option Addr) (m c : Nat) (n size : Int) (hn : 0 ≤ n) (hm : n < 18446744073709551616) (h : ¬ (1 ≤ size ∧ size ≤ 8 ∧ n < 256 ^ size.toNat)) :
    Calls Tryd.prog 63 #[.slice A m c, .int .u64 n, .int .i64 size] w (PutNo w) := by
  by_cases hs : 1 ≤ size ∧ size ≤ 8
  · obtain ⟨h1, h8⟩ := hs
    have hf : decide (n < 256 ^ size.toNat) = false := by simp; omega
    have H := Lib.hid hf
    clear hf h
    go_enter Tryd.func63, Tryd.ntmps63
    go_wp2_with fail
    refine (isSize_yes size w h1 h8).mono ?_
    rintro e w' ⟨rfl, rfl⟩
    go_wp2_with fail
    refine (fits_is n size w h1 h8 hn hm false H.out).mono ?_
    rintro e w' ⟨rfl, rfl⟩
    go_wp2
    go_ret2
    exact ⟨rfl, rfl⟩
  · have hs' : size < 1 ∨ 8 < size := by omega
    have H := Lib.hid hs'
    clear hs hs' h
    go_enter Tryd.func63, Tryd.ntmps63
    go_wp2_with fail
    refine (isSize_no size w H.out).mono ?_
    rintro e w' ⟨rfl, rfl⟩
    go_wp2
    go_ret2
    exact ⟨rfl, rfl⟩

def PutYes (w : World) (l : List Int) (n : Int) (s : Nat) (e : Ending) (w' : World) : Prop :=
  e = .returned (.tuple #[.slice (some ⟨w.heap.size, 0, none⟩) (l.length + s) (l.length + s), .int .i64 0]) ∧ Byt w' w.heap.size 5 (l ++ be s n) ∧ Below w.heap.size w w'

set_option maxHeartbeats 1000000 in
theorem put_yes (w : World) (A : Option Addr) (c : Nat) (l : List Int) (n : Int) (s : Nat) (hr : Rd w w.heap.size A l.length l) (hm : l.length ≤ 140737488355328) (hn : 0 ≤ n) (hn2 : n < 18446744073709551616)
    (h1 : 1 ≤ s) (h8 : s ≤ 8) (hf : n < 256 ^ s) :
    Calls Tryd.prog 63 #[.slice A l.length c, .int .u64 n, .int .i64 s] w (PutYes w l n s) := by
  have hf' : decide (n < 256 ^ (s : Int).toNat) = true := by simpa using hf
  have H := Lib.hid hf'
  have hmk := run_make_row' (P := Tryd.prog) 25 5 (.int .u8 0) 1 Tryd.underlying25 info_byte rfl .i64 .i64 (l.length + s) (by omega) (by omega) w
  rw [show ((l.length + s : Nat) : Int) = (l.length : Int) + (s : Int) from by omega] at hmk
  obtain ⟨w', hcp, hby, hbl, hsz⟩ := copy_into w l.length (l.length + s) A c l hr (by omega) 3
  rw [Nat.add_sub_cancel_left] at hby
  have H1 := Lib.hid hby
  have H2 := Lib.hid hbl
  have H3 := Lib.hid hsz
  clear hr hby hbl hsz hf hf'
  go_enter Tryd.func63, Tryd.ntmps63
  go_wp2_with fail
  refine (isSize_yes s w (by omega) (by omega)).mono ?_
  rintro e w2 ⟨rfl, rfl⟩
  go_wp2_with fail
  refine (fits_is n s w (by omega) (by omega) hn hn2 true H.out).mono ?_
  rintro e w2 ⟨rfl, rfl⟩
  go_wp2
  go_loopw [1, 9] (fun n' i wr => ∃ j : Nat, j ≤ s ∧ n' = .int .u64 (n / 256 ^ (s - j)) ∧ i = .int .i64 ((l.length : Int) + j - 1) ∧ Byt wr w.heap.size 5 (l ++ (List.replicate j 0 ++ be (s - j) n)) ∧ Below w.heap.size w wr)
    (fun _ i _ => (intOf i + 1).toNat)
  case atStart => exact ⟨s, Nat.le_refl _, by simp, by go_num, by simpa [be] using H1.out, H2.out⟩
  case round =>
    obtain ⟨j, hj, rfl, rfl, hb, hB⟩ := hrel
    by_cases h0 : j = 0
    · subst h0
      have HB := Lib.hid hb
      have HB2 := Lib.hid hB
      clear hb hB
      go_wp2
      go_ret2
      exact ⟨rfl, by simpa using HB.out, HB2.out⟩
    · obtain ⟨j, rfl⟩ : ∃ i, j = i + 1 := ⟨j - 1, by omega⟩
      have hcell := hb.cell (i := l.length + j) (by simp [be_len]; omega)
      have hfz := hb.frozen (l.length + j)
      have hset := hb.set_ (l.length + j) (n / 256 ^ (s - (j + 1)) % 256)
      have HB := Lib.hid hset
      have HB2 := Lib.hid hB
      clear hb hB hset
      have ei : (l.length : Int) + ((j + 1 : Nat) : Int) - 1 = ((l.length + j : Nat) : Int) := by omega
      rw [ei]
      go_wp2
      have es : s - j = s - (j + 1) + 1 := by omega
      refine ⟨⟨j, by omega, ?_, rfl, ?_, HB2.out.setCell (Nat.le_refl _) _⟩, by simp [intOf]; omega⟩
      · rw [es, Int.pow_succ, Int.ediv_ediv_of_nonneg (Int.le_of_lt (Int.pow_pos (by decide)))]
      · have hb := HB.out
        rw [set_mid] at hb
        rw [es]
        exact hb

/-- Put, at whatever fits. -/
theorem put_fits (w : World) (A : Option Addr) (m c : Nat) (l : List Int) (n size : Int) (hr : Rd w w.heap.size A m l) (hm : m ≤ 140737488355328) (hn : 0 ≤ n) (hn2 : n < 18446744073709551616)
    (h1 : 1 ≤ size) (h8 : size ≤ 8) (hf : n < 256 ^ size.toNat) :
    Calls Tryd.prog 63 #[.slice A m c, .int .u64 n, .int .i64 size] w (PutYes w l n size.toNat) := by
  obtain ⟨s, rfl⟩ := Int.eq_ofNat_of_zero_le (show 0 ≤ size by omega)
  obtain rfl := hr.len
  exact put_yes w A c l n s hr hm hn hn2 (by omega) (by omega) hf
end Go.Proofs.YtgfjjkckamppoaaDoor
