/-
  Layer 2 (addr): decimal and hexadecimal numerals.
-/
import Derived.Test.YtkaimdcepnhkdaaDoorAdF
namespace Go.Proofs.YtkaimdcepnhkdaaDoor
open Go.RowKit Go.Sort
set_option linter.unusedSimpArgs false
set_option linter.unusedVariables false

def decS (n : Int) : ByteArray := ⟨(Lib.decDigits n.toNat).toArray⟩
set_option maxHeartbeats 400000 in
theorem dec_is (w : World) (E : Env w) (n : Int) (h0 : 0 ≤ n) (h1 : n < 18446744073709551616) :
    Calls Tryd.prog 80 #[.int .u64 n] w fun e w' => e = .returned (.string (decS n)) ∧ Below w.heap.size w w' := by
  obtain ⟨u, rfl⟩ := Int.eq_ofNat_of_zero_le h0
  have hu : u < 18446744073709551616 := by omega
  clear h0 h1
  have h2 : Calls Tryd.prog 122 #[.int .u64 u, .int .i64 10] w fun e w' => e = .returned (.string ⟨(Lib.decDigits u).toArray⟩) ∧ Below w.heap.size w w' := by
    go_enter Tryd.func122, Tryd.ntmps122
    go_wp2_with fail
    refine (fmt_is w E u hu).mono ?_
    rintro e w' ⟨rfl, hB⟩
    have HB := Lib.hid hB
    clear hB
    go_wp2
    go_ret
    exact ⟨rfl, HB.out⟩
  have H := Lib.hid h2
  clear h2
  go_enter Tryd.func80, Tryd.ntmps80
  go_wp2_with fail
  refine H.out.mono ?_
  rintro e w' ⟨rfl, hB⟩
  have HB := Lib.hid hB
  clear hB
  go_wp2
  go_ret
  exact ⟨rfl, HB.out⟩

theorem tz16 (w : World) (E : Env w) : Calls Tryd.prog 178 #[.int .u64 16] w fun e w' => e = .returned (.int .i64 4) ∧ w = w' :=
  (Any7.bits_TrailingZeros Tryd.lays27 16 (by omega) w (fun _ => E.db64)).mono fun e w' h => ⟨h.1.trans (by congr 1), h.2.symm⟩

/-- A hexadecimal digit's letter. -/
def hexI (d : Int) : Int := if d < 10 then 48 + d else 87 + d
/-- The lowest k hexadecimal digits of u, as letters. -/
def lowHex : Nat → Int → List Int
  | 0, _ => []
  | k + 1, u => hexI (u / 16 ^ k % 16) :: lowHex k u
def hexN (u : Int) : Nat := if u < 16 then 1 else if u < 256 then 2 else if u < 4096 then 3 else 4
def hexS (u : Int) : ByteArray := strOfNums (lowHex (hexN u) u)

theorem hexI_bd (d : Int) (h0 : 0 ≤ d) (h1 : d < 16) : 0 ≤ hexI d ∧ hexI d < 256 := by unfold hexI; split <;> omega
theorem lowHex_len : ∀ k u, (lowHex k u).length = k
  | 0, _ => rfl
  | k + 1, u => by simp [lowHex, lowHex_len k u]
theorem lowHex_oct : ∀ k u, Oct (lowHex k u)
  | 0, _ => by intro x h; cases h
  | k + 1, u => by
    intro x h
    rcases List.mem_cons.1 h with rfl | h
    · exact hexI_bd _ (by omega) (by omega)
    · exact lowHex_oct k u x h
def digs36 : ByteArray := ⟨#[48, 49, 50, 51, 52, 53, 54, 55, 56, 57, 97, 98, 99, 100, 101, 102, 103, 104, 105, 106, 107, 108, 109, 110, 111, 112, 113, 114, 115, 116, 117, 118, 119, 120, 121, 122]⟩
theorem hex_at : ∀ d : Fin 16, ((digs36[d.val]'(by have := d.2; show d.val < 36; omega)).toNat : Int) = hexI d.val := by decide +kernel
theorem zeros65 : Tryd.zeroCells200 = ((List.replicate 65 (0 : Int)).map (Value.int .u8)).toArray := by kernel_rfl
theorem set_zeros (j : Nat) (r : List Int) (x : Int) : (List.replicate (j + 1) 0 ++ r).set j x = List.replicate j 0 ++ x :: r := by
  rw [List.replicate_succ', List.append_assoc, List.set_append_right _ _ (by simp)]
  simp
theorem and15 (n : Int) (h0 : 0 ≤ n) (h1 : n < 65536) : bits .and .u64 n 15 = n % 16 := by
  obtain ⟨m, rfl⟩ := Int.eq_ofNat_of_zero_le h0
  rw [u64_and _ _ (by omega) (by omega) (by omega) (by omega)]
  have : (m : Int).toNat &&& (15 : Int).toNat = m % 16 := by
    rw [Int.toNat_natCast]
    exact Nat.and_two_pow_sub_one_eq_mod m 4
  rw [this]
  omega

set_option maxHeartbeats 1000000 in
set_option maxRecDepth 100000 in
theorem bits16_is (w : World) (E : Env w) (u : Int) (h0 : 0 ≤ u) (h1 : u < 65536) :
    Calls Tryd.prog 159 #[.slice none 0 0, .int .u64 u, .int .i64 16, .bool false, .bool false] w fun e w' => e = .returned (.tuple #[.slice none 0 0, .string (hexS u)]) ∧ Below w.heap.size w w' := by
  have HE := Lib.hid (E.alloc (.cells Tryd.zeroCells200 200))
  have hb0 : Byt (w.alloc (.cells Tryd.zeroCells200 200)) w.heap.size 200 (List.replicate 65 0) := by
    rw [zeros65]; exact Blk.new w 200 _
  have H0 := Lib.hid hb0
  have hp : (bits BinOp.and IntKind.i64 16 15 == 0) = true := by decide +kernel
  clear hb0
  go_enter Tryd.func159, Tryd.ntmps159
  go_wp2_with (first | (go_at_call 177; go_in) | fail)
  refine (tz16 _ HE.out).mono ?_
  rintro e w' ⟨rfl, rfl⟩
  go_wp2
  go_loopw [1, 13] (fun n i wr => ∃ k j : Nat, j + k = 64 ∧ k ≤ 3 ∧ n = .int .u64 (u / 16 ^ k) ∧ i = .int .i64 ((j : Int) + 1) ∧ (k = 0 ∨ 16 ^ k ≤ u) ∧ Byt wr w.heap.size 200 (List.replicate (j + 1) 0 ++ lowHex k u) ∧ Below w.heap.size w wr) (fun n _ _ => (RowKit.intOf n).toNat)
  case atStart => exact ⟨0, 64, rfl, by omega, by simp, by simp, .inl rfl, by simpa [lowHex] using H0.out, (Below.refl _ _).alloc (Nat.le_refl _) _⟩
  case round =>
    obtain ⟨k, j, hjk, hk, rfl, rfl, hge, hb, hB⟩ := hrel
    have hq0 : 0 ≤ u / 16 ^ k := Int.ediv_nonneg h0 (Int.le_of_lt (Int.pow_pos (by decide)))
    have hq1 : u / 16 ^ k ≤ u := Int.ediv_le_self _ h0
    have hcell := hb.cell (i := j) (by simp; omega)
    have hfz := hb.frozen j
    have hset := hb.set_ j (hexI (u / 16 ^ k % 16))
    rw [set_zeros] at hset
    have hand := and15 (u / 16 ^ k) hq0 (by omega)
    have HL : Hid (hexI (u / 16 ^ k % 16) :: lowHex k u = lowHex (k + 1) u) := Lib.hid rfl
    have HP : Hid (u / 16 ^ k / 16 = u / 16 ^ (k + 1)) := Lib.hid (by rw [Int.pow_succ, Int.ediv_ediv_of_nonneg (Int.le_of_lt (Int.pow_pos (by decide)))])
    generalize hQ : u / 16 ^ k = q at *
    have HQ := Lib.hid hQ
    have HB2 := Lib.hid hB
    have HG := Lib.hid hge
    have HJ := Lib.hid hjk
    have hj64 : j ≤ 64 := by omega
    clear hb hB hQ hge hjk
    obtain ⟨d, hd⟩ := Int.eq_ofNat_of_zero_le (show 0 ≤ q % 16 by omega)
    have hd16 : d < 16 := by omega
    rw [hd] at hand hset HL
    have HD := Lib.hid hd
    have hh := hex_at ⟨d, hd16⟩
    have hset2 : Byt (wr.setCell ⟨w.heap.size, j, none⟩ (.int .u8 ((digs36[d]'(by show d < 36; omega)).toNat : Int))) w.heap.size 200 (List.replicate j 0 ++ lowHex (k + 1) u) := by
      rw [hh, ← HL.out]; exact hset
    have HB := Lib.hid hset2
    clear hd hset hset2 hh
    by_cases hlt : 16 ≤ q
    · have hk2 : k ≤ 2 := by
        have hq := HQ.out
        rcases Nat.lt_or_ge k 3 with h | h
        · omega
        · obtain rfl : k = 3 := by omega
          omega
      have HG2 : Hid (16 ^ (k + 1) ≤ u) := Lib.hid (by
        have := (Int.le_ediv_iff_mul_le (a := 16) (b := u) (c := 16 ^ k) (Int.pow_pos (by decide))).1 (by rw [HQ.out]; exact hlt)
        rw [Int.pow_succ, Int.mul_comm]; exact this)
      go_wp2
      have hjk := HJ.out
      exact ⟨⟨k + 1, j - 1, by omega, by omega, by rw [HP.out], by rw [show ((j - 1 : Nat) : Int) + 1 = j by omega], .inr HG2.out, by rw [show j - 1 + 1 = j by omega]; exact HB.out, HB2.out.setCell (Nat.le_refl _) _⟩, by simp [RowKit.intOf]; omega⟩
    · have hqd : q = d := by have := HD.out; omega
      subst hqd
      have hn : hexN u = k + 1 := by
        have hq := HQ.out
        have hg := HG.out
        unfold hexN
        match k, hk with
        | 0, _ => rw [Int.pow_zero, Int.ediv_one] at hq; rw [if_pos (by omega)]
        | 1, _ => rw [if_neg (by omega), if_pos (by omega)]
        | 2, _ => rw [if_neg (by omega), if_neg (by omega), if_pos (by omega)]
        | 3, _ => rw [if_neg (by omega), if_neg (by omega), if_neg (by omega)]
      have HS : Hid (strOfNums (lowHex (k + 1) u) = hexS u) := Lib.hid (by unfold hexS; rw [hn])
      have hcv : (convert 79 9 (.slice (some ⟨w.heap.size, j, none⟩) (65 - j) (65 - j))).run Tryd.prog (wr.setCell ⟨w.heap.size, j, none⟩ (.int .u8 ((digs36[d]'(by show d < 36; omega)).toNat : Int))) = .ok (.string (hexS u)) (wr.setCell ⟨w.heap.size, j, none⟩ (.int .u8 ((digs36[d]'(by show d < 36; omega)).toNat : Int))) := by
        rw [← HS.out]
        refine run_conv_rd (B := w.heap.size + 1) _ 79 9 5 Tryd.underlying79 Tryd.underlying5 Tryd.underlying9 (65 - j) ?_
        refine ⟨by rw [lowHex_len]; have := HJ.out; omega, lowHex_oct _ _, fun _ => ⟨_, _, rfl, by omega, fun i hi => ?_⟩⟩
        rw [HB.out.cell (i := j + i) (by simp [lowHex_len]; have := HJ.out; omega)]
        congr 2
        simp [List.getD, List.getElem?_append_right]
      have hsl : ∀ W, (Instr.sliceAt 200 (.pointer (some ⟨w.heap.size, 0, none⟩)) (some (.int .i64 (j : Int))) none none).run Tryd.prog W = .ok (.slice (some ⟨w.heap.size, j, none⟩) (65 - j) (65 - j)) W := fun W => by
        have hal : Tryd.prog.arrayLen 200 = 65 := by kernel_rfl
        rw [run_sliceAt_array_l W 200 ⟨w.heap.size, 0, none⟩ (by kernel_rfl) .i64 (j : Int) (by omega) (by rw [hal]; omega), hal]
        go_simp
        omega
      unfold digs36 at hcv HB
      clear hn HS
      go_wp2
      go_ret2
      exact ⟨rfl, HB2.out.setCell (Nat.le_refl _) _⟩

set_option maxHeartbeats 400000 in
theorem fmt16_is (w : World) (E : Env w) (u : Int) (h0 : 0 ≤ u) (h1 : u < 65536) :
    Calls Tryd.prog 122 #[.int .u64 u, .int .i64 16] w fun e w' => e = .returned (.string (hexS u)) ∧ Below w.heap.size w w' := by
  have h2 : Calls Tryd.prog 139 #[.int .u64 u, .int .i64 16] w fun e w' => e = .returned (.string (hexS u)) ∧ Below w.heap.size w w' := by
    go_enter Tryd.func139, Tryd.ntmps139
    go_wp2_with fail
    refine (bits16_is w E u h0 h1).mono ?_
    rintro e w' ⟨rfl, hB⟩
    have HB := Lib.hid hB
    clear hB
    go_wp2
    go_ret
    exact ⟨rfl, HB.out⟩
  have H := Lib.hid h2
  clear h2
  go_enter Tryd.func122, Tryd.ntmps122
  go_wp2_with fail
  refine H.out.mono ?_
  rintro e w' ⟨rfl, hB⟩
  have HB := Lib.hid hB
  clear hB
  go_wp2
  go_ret
  exact ⟨rfl, HB.out⟩
end Go.Proofs.YtkaimdcepnhkdaaDoor
