/-
  Layer 1: contracts of the document's side: Kept, Put.
-/
import Derived.Test.YtplnlhbbleppmaaOctG
namespace Go.Proofs.Ytplnlhbbleppmaa
open Go.RowKit

set_option maxHeartbeats 400000 in
theorem kept_is (w : World) (g B : Nat) (A : Option Addr) (n c : Nat) (l : List Int) (hb : Byt w g 5 (l ++ [165, 90])) (hr : Rd w B A n l) (hm : n ≤ 140737488355328) :
    Calls Try.prog 13 #[.slice (some ⟨g, 0, none⟩) n (n + 2), .slice A n c] w fun e w' => e = .returned (.bool true) ∧ w = w' := by
  have hl := hr.len
  have c1 : w.cell? ⟨g, n, none⟩ = some (.int .u8 165) := by
    rw [hb.cell (i := n) (by simp; omega), ← hl]; simp [List.getD]
  have c2 : w.cell? ⟨g, n + 1, none⟩ = some (.int .u8 90) := by
    rw [hb.cell (i := n + 1) (by simp; omega), ← hl]; simp [List.getD]
  have hro : Rd w (max B (g + 1)) (some ⟨g, 0, none⟩) n l := by
    refine ⟨hl, hr.oct, fun hn => ⟨g, 0, rfl, by omega, fun i hi => ?_⟩⟩
    rw [Nat.zero_add, hb.cell (i := i) (by simp; omega)]
    simp [List.getD, List.getElem?_append_left (show i < l.length by omega)]
  have H := Lib.hid (same_is w (max B (g + 1)) (some ⟨g, 0, none⟩) A n n (n + 2) c l l hro (hr.more (by omega)) true (by simp))
  have e1 : ((n : Int) != (n : Int)) = false := by simp
  clear hb hr hl hro
  go_enter Try.func13, Try.ntmps13
  go_wp2_with fail
  refine H.out.mono ?_
  rintro e w' ⟨rfl, rfl⟩
  go_wp2
  go_ret
  exact ⟨rfl, rfl⟩

def RPut (w : World) (l : List Int) (n size : Int) (e : Ending) (w' : World) : Prop :=
  Below w.heap.size w w' ∧ if 1 ≤ size ∧ size ≤ 8 ∧ n < 256 ^ size.toNat then
    e = .returned (.tuple #[.slice (some ⟨w.heap.size, 0, none⟩) (l.length + size.toNat) (l.length + size.toNat), .int .i64 0]) ∧ Byt w' w.heap.size 5 (l ++ be size.toNat n)
  else e = .returned (.tuple #[.slice none 0 0, .int .i64 2])

set_option maxHeartbeats 400000 in
theorem rput_bad (w : World) (A : Option Addr) (m c : Nat) (l : List Int) (n size : Int) (h : size < 1 ∨ 8 < size) :
    Calls Try.prog 10 #[.slice A m c, .int .u64 n, .int .i64 size] w (RPut w l n size) := by
  have H := Lib.hid (show ¬ (1 ≤ size ∧ size ≤ 8 ∧ n < 256 ^ size.toNat) by omega)
  rcases h with h | h
  · go_enter Try.func10, Try.ntmps10
    go_wp2
    go_ret2
    exact ⟨Below.refl _ _, by rw [if_neg H.out]; rfl⟩
  · have h1 : ¬ size < 1 := by omega
    go_enter Try.func10, Try.ntmps10
    go_wp2
    go_ret2
    exact ⟨Below.refl _ _, by rw [if_neg H.out]; rfl⟩

theorem div_zero_iff (n : Int) (s : Nat) (hn : 0 ≤ n) : (n / 256 ^ s != 0) = !decide (n < 256 ^ s) := by
  have hp : (0 : Int) < 256 ^ s := Int.pow_pos (by decide)
  have h := shr_zero n s hn
  have h2 : (2 : Int) ^ (8 * s) = 256 ^ s := by rw [Int.pow_mul]; rfl
  rw [h2] at h
  rw [← h]
  rfl

theorem quo_step (n : Int) (k : Nat) (hn : 0 ≤ n) (hn2 : n < 18446744073709551616) : IntKind.u64.wrap ((n / 256 ^ k).tdiv 256) = n / 256 ^ (k + 1) := by
  have hp : (0 : Int) < 256 ^ k := Int.pow_pos (by decide)
  have hq : 0 ≤ n / 256 ^ k := Int.ediv_nonneg hn (Int.le_of_lt hp)
  have hle : n / 256 ^ k ≤ n := Int.ediv_le_self _ hn
  rw [Int.tdiv_eq_ediv_of_nonneg hq, IntKind.wrap_u64, Int.emod_eq_of_lt (by omega) (by omega), Int.pow_succ, Int.ediv_ediv_of_nonneg (Int.le_of_lt hp)]

set_option maxHeartbeats 2000000 in
theorem rput_ok (w : World) (A : Option Addr) (c : Nat) (l : List Int) (n : Int) (s : Nat) (hr : Rd w w.heap.size A l.length l) (hm : l.length ≤ 140737488355328) (hn : 0 ≤ n) (hn2 : n < 18446744073709551616)
    (h1 : 1 ≤ s) (h8 : s ≤ 8) :
    Calls Try.prog 10 #[.slice A l.length c, .int .u64 n, .int .i64 s] w (RPut w l n s) := by
  have hmk := run_make_row' (P := Try.prog) 22 5 (.int .u8 0) 1 Try.underlying22 info_byte rfl .i64 .i64 (l.length + s) (by omega) (by omega) w
  rw [show ((l.length + s : Nat) : Int) = (l.length : Int) + (s : Int) from by omega] at hmk
  have H := Lib.hid hr
  have H0 := Lib.hid (byt_made w (l.length + s) 5)
  have HZ := Lib.hid (div_zero_iff n s hn)
  clear hr
  go_enter Try.func10, Try.ntmps10
  go_wp2
  go_loopw [9, 24] (fun _ i wr => ∃ k : Nat, k ≤ l.length ∧ i = .int .i64 k ∧ Byt wr w.heap.size 5 (l.take k ++ List.replicate (l.length + s - k) 0) ∧ Below w.heap.size w wr) (fun _ i _ => l.length - (intOf i).toNat)
  case atStart => exact ⟨0, Nat.zero_le _, rfl, by simpa using H0.out, (Below.refl _ _).alloc (Nat.le_refl _) _⟩
  case round =>
    obtain ⟨k, hk, rfl, hb, hB⟩ := hrel
    by_cases hlt : k < l.length
    · obtain ⟨b, off, rfl, hbb, hcell⟩ := H.out.at_ (by omega)
      have hc : wr.cell? ⟨b, off + k, none⟩ = some (.int .u8 l[k]) := by
        rw [hB.cell (p := ⟨b, off + k, none⟩) hbb, hcell k hlt]
        simp [List.getD, List.getElem?_eq_getElem hlt]
      have hco := hb.cell (i := k) (by simp; omega)
      have hfo := hb.frozen k
      have hs := hb.set_ k l[k]
      rw [show l.length + s - k = l.length + s - (k + 1) + 1 from by omega, set_next l k _ hlt] at hs
      have H1 := Lib.hid hs
      have H2 := Lib.hid hB
      clear hs hb hB hcell
      generalize l[k] = x at *
      go_wp2
      exact ⟨⟨k + 1, by omega, by go_num, H1.out, H2.out.setCell (Nat.le_refl _) _⟩, by simp [intOf]; omega⟩
    · obtain rfl : k = l.length := by omega
      rw [List.take_length, Nat.add_sub_cancel_left] at hb
      have H1 := Lib.hid hb
      have H2 := Lib.hid hB
      clear hb hB
      go_wp2
      go_loopw [1, 10] (fun n' i wr => ∃ j : Nat, j ≤ s ∧ n' = .int .u64 (n / 256 ^ (s - j)) ∧ i = .int .i64 ((j : Int) - 1) ∧ Byt wr w.heap.size 5 (l ++ (List.replicate j 0 ++ be (s - j) n)) ∧ Below w.heap.size w wr)
        (fun _ i _ => (intOf i + 1).toNat)
      case atStart => exact ⟨s, Nat.le_refl _, by simp, rfl, by simpa [be] using H1.out, H2.out⟩
      case round =>
        obtain ⟨j, hj, rfl, rfl, hb, hB⟩ := hrel
        have hq : 0 ≤ n / 256 ^ (s - j) := Int.ediv_nonneg hn (Int.le_of_lt (Int.pow_pos (by decide)))
        by_cases h0 : j = 0
        · subst h0
          have HB := Lib.hid hb
          have HB2 := Lib.hid hB
          clear hb hB
          rw [Nat.sub_zero] at *
          cases hd : decide (n < 256 ^ s)
          · have hd' : ¬ n < 256 ^ s := of_decide_eq_false hd
            have hz : (n / 256 ^ s != 0) = true := by rw [HZ.out, hd]; rfl
            have HD := Lib.hid hd'
            clear hd hd'
            go_wp2
            go_ret2
            exact ⟨HB2.out, by rw [if_neg (fun h => Int.not_le.2 h.2.2 HD.out)]; rfl⟩
          · have hd' : n < 256 ^ s := of_decide_eq_true hd
            have hz : (n / 256 ^ s != 0) = false := by rw [HZ.out, hd]; rfl
            have HD := Lib.hid hd'
            clear hd hd'
            go_wp2
            go_ret2
            exact ⟨HB2.out, by rw [if_pos ⟨by omega, by omega, HD.out⟩]; exact ⟨rfl, by simpa using HB.out⟩⟩
        · obtain ⟨j, rfl⟩ : ∃ i, j = i + 1 := ⟨j - 1, by omega⟩
          have hcell := hb.cell (i := l.length + j) (by simp [be_len]; omega)
          have hfz := hb.frozen (l.length + j)
          have hset := hb.set_ (l.length + j) (n / 256 ^ (s - (j + 1)) % 256)
          rw [set_mid] at hset
          have HB := Lib.hid hset
          have HB2 := Lib.hid hB
          clear hb hB hset
          rw [show ((j + 1 : Nat) : Int) - 1 = (j : Int) from by omega]
          go_wp2
          have es : s - j = s - (j + 1) + 1 := by omega
          refine ⟨⟨j, by omega, ?_, rfl, ?_, HB2.out.setCell (Nat.le_refl _) _⟩, by simp [intOf] <;> omega⟩
          · rw [es, quo_step n _ hn hn2]
          · rw [es]
            exact HB.out

theorem rput_is (w : World) (A : Option Addr) (m c : Nat) (l : List Int) (n size : Int) (hr : Rd w w.heap.size A m l) (hm : m ≤ 140737488355328) (hn : 0 ≤ n) (hn2 : n < 18446744073709551616) :
    Calls Try.prog 10 #[.slice A m c, .int .u64 n, .int .i64 size] w (RPut w l n size) := by
  by_cases h : size < 1 ∨ 8 < size
  · exact rput_bad w A m c l n size h
  · obtain ⟨s, rfl⟩ := Int.eq_ofNat_of_zero_le (show 0 ≤ size by omega)
    obtain rfl := hr.len
    exact rput_ok w A c l n s hr hm hn hn2 (by omega) (by omega)

/-- Put, in one word. -/
def Put (w : World) (l : List Int) (n size : Int) (e : Ending) (w' : World) : Prop :=
  Below w.heap.size w w' ∧ if 1 ≤ size ∧ size ≤ 8 ∧ n < 256 ^ size.toNat then
    e = .returned (.tuple #[.slice (some ⟨w.heap.size, 0, none⟩) (l.length + size.toNat) (l.length + size.toNat), .int .i64 0]) ∧ Byt w' w.heap.size 5 (l ++ be size.toNat n)
  else e = .returned (.tuple #[.slice none 0 0, .int .i64 2])

theorem put_is (w : World) (A : Option Addr) (m c : Nat) (l : List Int) (n size : Int) (hr : Rd w w.heap.size A m l) (hm : m ≤ 140737488355328) (hn : 0 ≤ n) (hn2 : n < 18446744073709551616) :
    Calls Try.prog 9 #[.slice A m c, .int .u64 n, .int .i64 size] w (Put w l n size) := by
  by_cases h : 1 ≤ size ∧ size ≤ 8 ∧ n < 256 ^ size.toNat
  · refine (put_fits w A m c l n size hr hm hn hn2 h.1 h.2.1 h.2.2).mono ?_
    rintro e w' ⟨he, hb, hB⟩
    exact ⟨hB, by rw [if_pos h]; exact ⟨he, hb⟩⟩
  · refine (put_no w A m c n size hn hn2 h).mono ?_
    rintro e w' ⟨he, rfl⟩
    exact ⟨Below.refl _ _, by rw [if_neg h]; exact he⟩
end Go.Proofs.Ytplnlhbbleppmaa
