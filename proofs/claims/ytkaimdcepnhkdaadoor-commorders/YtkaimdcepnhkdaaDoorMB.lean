/-
  Put together: AdF AdG AdH AdI AdJ AdK.
-/
import Derived.Test.YtkaimdcepnhkdaaDoorShelf
import Derived.Test.YtkaimdcepnhkdaaDoorMA
import Derived.Lib.ItoaMem
import Derived.Shelf.Spec.TrailingZeros
import Derived.Outline
import Derived.BigQuiet
import Derived.WalkLawsBesides
import Derived.IntWalk
namespace Go.Proofs.YtkaimdcepnhkdaaDoor
open Go.RowKit Go.Sort Go.Lib
set_option linter.unusedSimpArgs false
set_option linter.unusedVariables false

/-- The library's variables: MaxLen holds some number, the tables are as they were laid. -/
structure Env (w : World) : Prop where
  mx : ∃ m, w.cell? ⟨0, 0, none⟩ = some (.int .i64 m)
  p10 : ∃ t z, w.heap[1]? = some (.cells (Lib.pow10Tab.map fun z => Value.int .u64 z).toArray t z)
  db64 : ∀ j, j < Lib.deBruijn64tab.length → w.cell? ⟨3, j, none⟩ = some (.int .u8 (Lib.deBruijn64tab.getD j 0))
  sz : 6 ≤ w.heap.size
theorem Env.below {w w' : World} (h : Env w) (hb : Below w.heap.size w w') : Env w' := by
  have hs := h.sz
  refine ⟨?_, ?_, ?_, Nat.le_trans hs hb.size⟩
  · obtain ⟨m, hm⟩ := h.mx
    exact ⟨m, (hb.cell (p := ⟨0, 0, none⟩) (show 0 < w.heap.size by omega)).trans hm⟩
  · obtain ⟨t, z, ht⟩ := h.p10
    exact ⟨t, z, (hb.block 1 (by omega)).trans ht⟩
  · intro j hj
    exact (hb.cell (p := ⟨3, j, none⟩) (show 3 < w.heap.size by omega)).trans (h.db64 j hj)
theorem Env.drewN {w : World} (h : Env w) (n : Nat) : Env (w.drewN n) := h.below (below_drewN (Below.refl _ _) n)
theorem Env.alloc {w : World} (h : Env w) (o : Obj) : Env (w.alloc o) := h.below ((Below.refl _ _).alloc (Nat.le_refl _) o)

theorem tab_of {P : Program} {w : World} {name : String} {k : IntKind} {zs : List Int} {t : TypeId} {fz : Nat × Nat} (g : Nat) (hg : P.globalNamed name = some g) (h : w.heap[g]? = some (.cells (zs.map fun z => Value.int k z).toArray t fz)) : Lib.TabIs P w name k zs := by
  unfold Lib.TabIs World.var?
  rw [hg]
  simp [h]
theorem nd_is (w : World) (E : Env w) (u : Nat) (h1 : 1 ≤ u) (h2 : u < 18446744073709551616) :
    Calls Tryd.prog 157 #[.int .u64 u] w fun e w' => e = .returned (.int .i64 (Lib.nDigits u)) ∧ w = w' := by
  obtain ⟨t, fz, ht⟩ := E.p10
  exact (Any.internal_strconv_numDigits Tryd.laysM284 u h1 h2 w (tab_of 1 (by kernel_rfl) ht)).mono fun e w' h => ⟨h.1, h.2.symm⟩

theorem holds_zero0 (w : World) (T : TypeId) (nd : Nat) (hs : nd ≤ 24) : Holds (fun (b : UInt8) => Value.int .u8 (b.toNat : Int)) (w.alloc (.cells zeros24 T)) w.heap.size 0 (Array.replicate nd (0 : UInt8)) := fun j hj => by
  have hj' : j < nd := by simpa using hj
  refine ⟨?_, World.frozen?_alloc_new _ _ _ _⟩
  rw [World.cell?_alloc_new, zeros24_at _ (by omega), getElem!_pos _ j hj]
  simp

theorem below_putRow (w : World) (o : Obj) (dk : Array UInt8) (k : Nat) : Below w.heap.size w ((putRow (fun (b : UInt8) => Value.int .u8 (b.toNat : Int)) (w.alloc o) w.heap.size 0 dk).drewN k) := by
  refine below_drewN ?_ k
  refine ((Below.refl w.heap.size w).alloc (Nat.le_refl _) o).trans ⟨rfl, rfl, rfl, by simp [putRow, mapBlock], fun i hi => ?_⟩
  simp [putRow, mapBlock, Array.getElem?_modify, show w.heap.size ≠ i by omega]

set_option maxHeartbeats 6400000 in
set_option maxRecDepth 100000 in
theorem fmt_is (w : World) (E : Env w) (u : Nat) (hu : u < 18446744073709551616) :
    Calls Tryd.prog 139 #[.int .u64 u, .int .i64 10] w fun e w' => e = .returned (.string ⟨(Lib.decDigits u).toArray⟩) ∧ Below w.heap.size w w' := by
  by_cases hs : u < 100
  · go_enter Tryd.func139, Tryd.ntmps139
    go_wp2_with (go_at_call 156; refine (Tryd.internal_strconv_small u hs _).mono ?_; rintro e w' ⟨rfl, rfl⟩)
    go_ret
    exact ⟨rfl, Below.refl _ _⟩
  · have hu1 : 1 ≤ u := by omega
    have hn100 : ¬ ((u : Int) < 100) := by omega
    have hnd20 : Lib.nDigits u ≤ 20 := by have := Lib.numDigits_eq u hu1 hu; split at this <;> omega
    have hal : Tryd.prog.arrayLen 181 = 24 := by kernel_rfl
    have hsl1 : ∀ W, (Instr.sliceAt 181 (.pointer (some ⟨w.heap.size, 0, none⟩)) none (some (.int .i64 (Lib.nDigits u : Int))) none).run Tryd.prog W = .ok (.slice (some ⟨w.heap.size, 0, none⟩) (Lib.nDigits u) 24) W := fun W => by
      rw [run_sliceAt_array_h W 181 ⟨w.heap.size, 0, none⟩ (by kernel_rfl) .i64 (Lib.nDigits u : Int) (by omega) (by rw [hal]; omega)]
      go_simp
    have hH0 := holds_zero0 w 181 (Lib.nDigits u) (by omega)
    have hfmt := Tryd.internal_strconv_formatBase10 w.heap.size 0 24 u (Array.replicate (Lib.nDigits u) 0) (w.alloc (.cells Lib.zeros24 181)) hH0 (by rw [Array.size_replicate]; exact Lib.lt_pow_nDigits u) hu (by rw [Array.size_replicate]; omega)
    rw [Array.size_replicate] at hfmt
    have HH0 := Lib.hid hH0
    have HF0 := Lib.hid hfmt
    have HE := Lib.hid (E.alloc (.cells Lib.zeros24 181))
    clear hH0 hal hfmt hs
    go_enter Tryd.func139, Tryd.ntmps139
    go_wp2_with fail
    refine (nd_is _ HE.out u hu1 hu).mono ?_
    rintro e w' ⟨rfl, rfl⟩
    go_wp2_with fail
    refine HF0.out.mono ?_
    rintro e w' ⟨rfl, k, v', dk, rfl, hF⟩
    have hcv : (convert 79 9 (.slice (some ⟨w.heap.size, 0, none⟩) (Lib.nDigits u) 24)).run Tryd.prog ((putRow (fun (b : UInt8) => Value.int .u8 (b.toNat : Int)) (w.alloc (.cells Lib.zeros24 181)) w.heap.size 0 dk).drewN k) = .ok (.string ⟨(Lib.decDigits u).toArray⟩) ((putRow (fun (b : UInt8) => Value.int .u8 (b.toNat : Int)) (w.alloc (.cells Lib.zeros24 181)) w.heap.size 0 dk).drewN k) := by
      have h := run_convert_bytes_back (P := Tryd.prog) ((putRow (fun (b : UInt8) => Value.int .u8 (b.toNat : Int)) (w.alloc (.cells Lib.zeros24 181)) w.heap.size 0 dk).drewN k) 79 9 5 ⟨w.heap.size, 0, none⟩ 24 (Lib.decDigits u) Tryd.underlying79 Tryd.underlying5 Tryd.underlying9 (fun j hj => by
        rw [Lib.row_is_numeral hF j hj, Lib.add_plain, World.cell?_drewN]
        exact cell?_putRow (fun (b : UInt8) => Value.int .u8 (b.toNat : Int)) _ w.heap.size 0 _ dk HH0.out (by rw [hF.size, Array.size_replicate]) j (by rw [hF.size]; rw [Lib.decDigits_length] at hj; exact hj))
      rw [Lib.decDigits_length] at h
      exact h
    go_wp2
    go_ret
    exact ⟨rfl, below_putRow w _ dk k⟩
end Go.Proofs.YtkaimdcepnhkdaaDoor
namespace Go.Proofs.YtkaimdcepnhkdaaDoor
open Go.RowKit Go.Sort
set_option linter.unusedSimpArgs false
set_option linter.unusedVariables false

def decS (n : Int) : ByteArray := ⟨(Lib.decDigits n.toNat).toArray⟩
set_option maxHeartbeats 400000 in
theorem dec_is (w : World) (E : Env w) (n : Int) (h0 : 0 ≤ n) (h1 : n < 18446744073709551616) :
    Calls Tryd.prog 80 #[.int .u64 n] w fun e w' => e = .returned (.string (decS n)) ∧ Below w.heap.size w w' := by
  obtain ⟨u, rfl⟩ := Int.eq_ofNat_of_zero_le h0
  have hu : u < 18446744073709551616 := by omega
  clear h0 h1
  have h2 : Calls Tryd.prog 122 #[.int .u64 u, .int .i64 10] w fun e w' => e = .returned (.string ⟨(Lib.decDigits u).toArray⟩) ∧ Below w.heap.size w w' := by
    go_enter Tryd.func122, Tryd.ntmps122
    go_wp2_with fail
    refine (fmt_is w E u hu).mono ?_
    rintro e w' ⟨rfl, hB⟩
    have HB := Lib.hid hB
    clear hB
    go_wp2
    go_ret
    exact ⟨rfl, HB.out⟩
  have H := Lib.hid h2
  clear h2
  go_enter Tryd.func80, Tryd.ntmps80
  go_wp2_with fail
  refine H.out.mono ?_
  rintro e w' ⟨rfl, hB⟩
  have HB := Lib.hid hB
  clear hB
  go_wp2
  go_ret
  exact ⟨rfl, HB.out⟩

theorem tz16 (w : World) (E : Env w) : Calls Tryd.prog 178 #[.int .u64 16] w fun e w' => e = .returned (.int .i64 4) ∧ w = w' :=
  (Any7.bits_TrailingZeros Tryd.lays27 16 (by omega) w (fun _ => E.db64)).mono fun e w' h => ⟨h.1.trans (by congr 1), h.2.symm⟩

/-- A hexadecimal digit's letter. -/
def hexI (d : Int) : Int := if d < 10 then 48 + d else 87 + d
/-- The lowest k hexadecimal digits of u, as letters. -/
def lowHex : Nat → Int → List Int
  | 0, _ => []
  | k + 1, u => hexI (u / 16 ^ k % 16) :: lowHex k u
def hexN (u : Int) : Nat := if u < 16 then 1 else if u < 256 then 2 else if u < 4096 then 3 else 4
def hexS (u : Int) : ByteArray := strOfNums (lowHex (hexN u) u)

theorem hexI_bd (d : Int) (h0 : 0 ≤ d) (h1 : d < 16) : 0 ≤ hexI d ∧ hexI d < 256 := by unfold hexI; split <;> omega
theorem lowHex_len : ∀ k u, (lowHex k u).length = k
  | 0, _ => rfl
  | k + 1, u => by simp [lowHex, lowHex_len k u]
theorem lowHex_oct : ∀ k u, Oct (lowHex k u)
  | 0, _ => by intro x h; cases h
  | k + 1, u => by
    intro x h
    rcases List.mem_cons.1 h with rfl | h
    · exact hexI_bd _ (by omega) (by omega)
    · exact lowHex_oct k u x h
def digs36 : ByteArray := ⟨#[48, 49, 50, 51, 52, 53, 54, 55, 56, 57, 97, 98, 99, 100, 101, 102, 103, 104, 105, 106, 107, 108, 109, 110, 111, 112, 113, 114, 115, 116, 117, 118, 119, 120, 121, 122]⟩
theorem hex_at : ∀ d : Fin 16, ((digs36[d.val]'(by have := d.2; show d.val < 36; omega)).toNat : Int) = hexI d.val := by decide +kernel
theorem zeros65 : Tryd.zeroCells200 = ((List.replicate 65 (0 : Int)).map (Value.int .u8)).toArray := by kernel_rfl
theorem set_zeros (j : Nat) (r : List Int) (x : Int) : (List.replicate (j + 1) 0 ++ r).set j x = List.replicate j 0 ++ x :: r := by
  rw [List.replicate_succ', List.append_assoc, List.set_append_right _ _ (by simp)]
  simp
theorem and15 (n : Int) (h0 : 0 ≤ n) (h1 : n < 65536) : bits .and .u64 n 15 = n % 16 := by
  obtain ⟨m, rfl⟩ := Int.eq_ofNat_of_zero_le h0
  rw [u64_and _ _ (by omega) (by omega) (by omega) (by omega)]
  have : (m : Int).toNat &&& (15 : Int).toNat = m % 16 := by
    rw [Int.toNat_natCast]
    exact Nat.and_two_pow_sub_one_eq_mod m 4
  rw [this]
  omega

set_option maxHeartbeats 1000000 in
set_option maxRecDepth 100000 in
theorem bits16_is (w : World) (E : Env w) (u : Int) (h0 : 0 ≤ u) (h1 : u < 65536) :
    Calls Tryd.prog 159 #[.slice none 0 0, .int .u64 u, .int .i64 16, .bool false, .bool false] w fun e w' => e = .returned (.tuple #[.slice none 0 0, .string (hexS u)]) ∧ Below w.heap.size w w' := by
  have HE := Lib.hid (E.alloc (.cells Tryd.zeroCells200 200))
  have hb0 : Byt (w.alloc (.cells Tryd.zeroCells200 200)) w.heap.size 200 (List.replicate 65 0) := by
    rw [zeros65]; exact Blk.new w 200 _
  have H0 := Lib.hid hb0
  have hp : (bits BinOp.and IntKind.i64 16 15 == 0) = true := by decide +kernel
  clear hb0
  go_enter Tryd.func159, Tryd.ntmps159
  go_wp2_with (first | (go_at_call 177; go_in) | fail)
  refine (tz16 _ HE.out).mono ?_
  rintro e w' ⟨rfl, rfl⟩
  go_wp2
  go_loopw [1, 13] (fun n i wr => ∃ k j : Nat, j + k = 64 ∧ k ≤ 3 ∧ n = .int .u64 (u / 16 ^ k) ∧ i = .int .i64 ((j : Int) + 1) ∧ (k = 0 ∨ 16 ^ k ≤ u) ∧ Byt wr w.heap.size 200 (List.replicate (j + 1) 0 ++ lowHex k u) ∧ Below w.heap.size w wr) (fun n _ _ => (RowKit.intOf n).toNat)
  case atStart => exact ⟨0, 64, rfl, by omega, by simp, by simp, .inl rfl, by simpa [lowHex] using H0.out, (Below.refl _ _).alloc (Nat.le_refl _) _⟩
  case round =>
    obtain ⟨k, j, hjk, hk, rfl, rfl, hge, hb, hB⟩ := hrel
    have hq0 : 0 ≤ u / 16 ^ k := Int.ediv_nonneg h0 (Int.le_of_lt (Int.pow_pos (by decide)))
    have hq1 : u / 16 ^ k ≤ u := Int.ediv_le_self _ h0
    have hcell := hb.cell (i := j) (by simp; omega)
    have hfz := hb.frozen j
    have hset := hb.set_ j (hexI (u / 16 ^ k % 16))
    rw [set_zeros] at hset
    have hand := and15 (u / 16 ^ k) hq0 (by omega)
    have HL : Hid (hexI (u / 16 ^ k % 16) :: lowHex k u = lowHex (k + 1) u) := Lib.hid rfl
    have HP : Hid (u / 16 ^ k / 16 = u / 16 ^ (k + 1)) := Lib.hid (by rw [Int.pow_succ, Int.ediv_ediv_of_nonneg (Int.le_of_lt (Int.pow_pos (by decide)))])
    generalize hQ : u / 16 ^ k = q at *
    have HQ := Lib.hid hQ
    have HB2 := Lib.hid hB
    have HG := Lib.hid hge
    have HJ := Lib.hid hjk
    have hj64 : j ≤ 64 := by omega
    clear hb hB hQ hge hjk
    obtain ⟨d, hd⟩ := Int.eq_ofNat_of_zero_le (show 0 ≤ q % 16 by omega)
    have hd16 : d < 16 := by omega
    rw [hd] at hand hset HL
    have HD := Lib.hid hd
    have hh := hex_at ⟨d, hd16⟩
    have hset2 : Byt (wr.setCell ⟨w.heap.size, j, none⟩ (.int .u8 ((digs36[d]'(by show d < 36; omega)).toNat : Int))) w.heap.size 200 (List.replicate j 0 ++ lowHex (k + 1) u) := by
      rw [hh, ← HL.out]; exact hset
    have HB := Lib.hid hset2
    clear hd hset hset2 hh
    by_cases hlt : 16 ≤ q
    · have hk2 : k ≤ 2 := by
        have hq := HQ.out
        rcases Nat.lt_or_ge k 3 with h | h
        · omega
        · obtain rfl : k = 3 := by omega
          omega
      have HG2 : Hid (16 ^ (k + 1) ≤ u) := Lib.hid (by
        have := (Int.le_ediv_iff_mul_le (a := 16) (b := u) (c := 16 ^ k) (Int.pow_pos (by decide))).1 (by rw [HQ.out]; exact hlt)
        rw [Int.pow_succ, Int.mul_comm]; exact this)
      go_wp2
      have hjk := HJ.out
      exact ⟨⟨k + 1, j - 1, by omega, by omega, by rw [HP.out], by rw [show ((j - 1 : Nat) : Int) + 1 = j by omega], .inr HG2.out, by rw [show j - 1 + 1 = j by omega]; exact HB.out, HB2.out.setCell (Nat.le_refl _) _⟩, by simp [RowKit.intOf]; omega⟩
    · have hqd : q = d := by have := HD.out; omega
      subst hqd
      have hn : hexN u = k + 1 := by
        have hq := HQ.out
        have hg := HG.out
        unfold hexN
        match k, hk with
        | 0, _ => rw [Int.pow_zero, Int.ediv_one] at hq; rw [if_pos (by omega)]
        | 1, _ => rw [if_neg (by omega), if_pos (by omega)]
        | 2, _ => rw [if_neg (by omega), if_neg (by omega), if_pos (by omega)]
        | 3, _ => rw [if_neg (by omega), if_neg (by omega), if_neg (by omega)]
      have HS : Hid (strOfNums (lowHex (k + 1) u) = hexS u) := Lib.hid (by unfold hexS; rw [hn])
      have hcv : (convert 79 9 (.slice (some ⟨w.heap.size, j, none⟩) (65 - j) (65 - j))).run Tryd.prog (wr.setCell ⟨w.heap.size, j, none⟩ (.int .u8 ((digs36[d]'(by show d < 36; omega)).toNat : Int))) = .ok (.string (hexS u)) (wr.setCell ⟨w.heap.size, j, none⟩ (.int .u8 ((digs36[d]'(by show d < 36; omega)).toNat : Int))) := by
        rw [← HS.out]
        refine run_conv_rd (B := w.heap.size + 1) _ 79 9 5 Tryd.underlying79 Tryd.underlying5 Tryd.underlying9 (65 - j) ?_
        refine ⟨by rw [lowHex_len]; have := HJ.out; omega, lowHex_oct _ _, fun _ => ⟨_, _, rfl, by omega, fun i hi => ?_⟩⟩
        rw [HB.out.cell (i := j + i) (by simp [lowHex_len]; have := HJ.out; omega)]
        congr 2
        simp [List.getD, List.getElem?_append_right]
      have hsl : ∀ W, (Instr.sliceAt 200 (.pointer (some ⟨w.heap.size, 0, none⟩)) (some (.int .i64 (j : Int))) none none).run Tryd.prog W = .ok (.slice (some ⟨w.heap.size, j, none⟩) (65 - j) (65 - j)) W := fun W => by
        have hal : Tryd.prog.arrayLen 200 = 65 := by kernel_rfl
        rw [run_sliceAt_array_l W 200 ⟨w.heap.size, 0, none⟩ (by kernel_rfl) .i64 (j : Int) (by omega) (by rw [hal]; omega), hal]
        go_simp
        omega
      unfold digs36 at hcv HB
      clear hn HS
      go_wp2
      go_ret2
      exact ⟨rfl, HB2.out.setCell (Nat.le_refl _) _⟩

set_option maxHeartbeats 400000 in
theorem fmt16_is (w : World) (E : Env w) (u : Int) (h0 : 0 ≤ u) (h1 : u < 65536) :
    Calls Tryd.prog 122 #[.int .u64 u, .int .i64 16] w fun e w' => e = .returned (.string (hexS u)) ∧ Below w.heap.size w w' := by
  have h2 : Calls Tryd.prog 139 #[.int .u64 u, .int .i64 16] w fun e w' => e = .returned (.string (hexS u)) ∧ Below w.heap.size w w' := by
    go_enter Tryd.func139, Tryd.ntmps139
    go_wp2_with fail
    refine (bits16_is w E u h0 h1).mono ?_
    rintro e w' ⟨rfl, hB⟩
    have HB := Lib.hid hB
    clear hB
    go_wp2
    go_ret
    exact ⟨rfl, HB.out⟩
  have H := Lib.hid h2
  clear h2
  go_enter Tryd.func122, Tryd.ntmps122
  go_wp2_with fail
  refine H.out.mono ?_
  rintro e w' ⟨rfl, hB⟩
  have HB := Lib.hid hB
  clear hB
  go_wp2
  go_ret
  exact ⟨rfl, HB.out⟩
end Go.Proofs.YtkaimdcepnhkdaaDoor
namespace Go.Proofs.YtkaimdcepnhkdaaDoor
open Go.RowKit
set_option linter.unusedSimpArgs false
set_option linter.unusedVariables false

abbrev strV (xs : List ByteArray) : Array Value := (xs.map Value.string).toArray
def joinS (xs : List ByteArray) (sep : List UInt8) : ByteArray := ⟨(Lib.join (xs.map (·.data.toList)) sep).toArray⟩
theorem info_str : (Tryd.prog.info? 9).map (fun i => (i.zero, i.size, i.bytes)) = some (some (.string ByteArray.empty), 1, 16) := by kernel_rfl
theorem str_made (w : World) (n : Nat) (t : TypeId) : Blk (w.alloc (.cells (madeCells #[.string ByteArray.empty] n) t)) w.heap.size t (strV (List.replicate n ByteArray.empty)) := by
  unfold Blk
  show (w.heap.push _)[w.heap.size]? = _
  rw [Array.getElem?_push, if_pos rfl]
  congr 2
  apply Array.ext_getElem?
  intro i
  by_cases hi : i < n <;> simp [madeCells, hi, Nat.mod_one]
theorem strV_get (xs ys : List ByteArray) (y : ByteArray) (k : Nat) (hk : xs.length = k) : (strV (xs ++ y :: ys))[k]? = some (.string y) := by
  subst hk; simp
theorem strV_set (xs ys : List ByteArray) (y z : ByteArray) (k : Nat) (hk : xs.length = k) : (strV (xs ++ y :: ys)).setIfInBounds k (.string z) = strV (xs ++ z :: ys) := by
  subst hk; simp [List.set_append]
theorem map_fill {α β : Type} (f : α → β) (l : List α) (e : β) (k : Nat) (hk : k < l.length) : (l.take k).map f ++ List.replicate (l.length - k) e = (l.take k).map f ++ e :: List.replicate (l.length - (k + 1)) e := by
  rw [show l.length - k = l.length - (k + 1) + 1 by omega, List.replicate_succ]
theorem map_fill2 {α β : Type} (f : α → β) (l : List α) (e : β) (k : Nat) (hk : k < l.length) : (l.take (k + 1)).map f ++ List.replicate (l.length - (k + 1)) e = (l.take k).map f ++ f l[k] :: List.replicate (l.length - (k + 1)) e := by
  rw [List.take_succ_eq_append_getElem hk, List.map_append, List.append_assoc]; rfl
theorem joinTail_le (sep : List UInt8) (m : Nat) : ∀ r : List (List UInt8), (∀ x ∈ r, x.length ≤ m) → (Lib.joinTail sep r).length ≤ r.length * (m + sep.length)
  | [], _ => by simp [Lib.joinTail]
  | x :: r, h => by
    have ih := joinTail_le sep m r (fun y hy => h y (by simp [hy]))
    have hx := h x (by simp)
    have : (Lib.joinTail sep (x :: r)).length = sep.length + x.length + (Lib.joinTail sep r).length := by simp [Lib.joinTail, Nat.add_assoc]
    rw [this, List.length_cons, Nat.succ_mul]
    omega
theorem join_le (sep : List UInt8) (m : Nat) (xs : List (List UInt8)) (h : ∀ x ∈ xs, x.length ≤ m) : (Lib.join xs sep).length ≤ xs.length * (m + sep.length) := by
  cases xs with
  | nil => simp [Lib.join, List.intercalate]
  | cons x r =>
    rw [Lib.join_cons, List.length_append, List.length_cons, Nat.succ_mul]
    have := joinTail_le sep m r (fun y hy => h y (by simp [hy]))
    have hx := h x (by simp)
    omega
theorem join_blk (w : World) (g : Nat) (xs : List ByteArray) (c : Nat) (sep : ByteArray) (m : Nat) (hb : Blk w g 9 (strV xs)) (hn : xs.length ≤ 100) (hc : xs.length ≤ c) (hm : ∀ x ∈ xs, x.size ≤ m) (hm2 : m ≤ 1000) (hs : sep.size ≤ 10) :
    Calls Tryd.prog 111 #[.slice (some ⟨g, 0, none⟩) xs.length c, .string sep] w fun e w' => e = .returned (.string (joinS xs sep.data.toList)) ∧ Below w.heap.size w w' := by
  refine Tryd.strings_Join g 0 c xs sep w (fun j x hx => ?_) hb.lt (by omega) hc ?_
  · rw [Nat.zero_add, hb.cell]
    simpa using hx
  · have h1 := join_le sep.data.toList m (xs.map (·.data.toList)) (by
      intro x hx
      obtain ⟨y, hy, rfl⟩ := List.mem_map.1 hx
      have := hm y hy
      rw [Array.length_toList]; exact this)
    have h2 : sep.data.toList.length ≤ 10 := by rw [Array.length_toList]; exact hs
    rw [List.length_map] at h1
    have h3 : xs.length * (m + sep.data.toList.length) ≤ 100 * 1010 := Nat.mul_le_mul hn (by omega)
    omega
theorem decS_size (n : Int) (h0 : 0 ≤ n) (h1 : n < 18446744073709551616) : (decS n).size ≤ 20 := by
  have h : (decS n).size = (Lib.decDigits n.toNat).length := by unfold decS; simp [ByteArray.size]
  rw [h, Lib.decDigits_length]
  rcases Nat.eq_zero_or_pos n.toNat with hz | hp
  · rw [hz, Lib.nDigits_small (by omega)]; omega
  · have := Lib.numDigits_eq n.toNat hp (by omega)
    split at this <;> omega
theorem hexS_size (u : Int) : (hexS u).size ≤ 4 := by
  have h : (hexS u).size = (lowHex (hexN u) u).length := by
    show (strOfNums (lowHex (hexN u) u)).data.size = _
    rw [← Array.length_toList, strOfNums_data]; simp
  rw [h, lowHex_len]
  unfold hexN
  split
  · omega
  · split
    · omega
    · split <;> omega

def fourS (l : List Int) : ByteArray := joinS (l.map decS) [46]
set_option maxHeartbeats 1000000 in
theorem four_text (w : World) (E : Env w) (B : Nat) (A : Option Addr) (n c : Nat) (l : List Int) (hr : Rd w B A n l) (hB : B ≤ w.heap.size) (hn : n ≤ 16) :
    Calls Tryd.prog 69 #[.slice A n c] w fun e w' => e = .returned (.string (fourS l)) ∧ Below w.heap.size w w' := by
  obtain rfl := hr.len
  have hmk := run_make_row' (P := Tryd.prog) 135 9 (.string ByteArray.empty) 16 Tryd.underlying135 info_str rfl .i64 .i64 l.length (by omega) (by omega) w
  have H := Lib.hid hr
  have H0 := Lib.hid (str_made w l.length 9)
  have HO := Lib.hid hr.oct
  clear hr
  go_enter Tryd.func69, Tryd.ntmps69
  go_wp2
  go_loopw [4, 5, 11] (fun _ _ i wr => ∃ k : Nat, k ≤ l.length ∧ i = .int .i64 k ∧ Blk wr w.heap.size 9 (strV ((l.take k).map decS ++ List.replicate (l.length - k) ByteArray.empty)) ∧ Below w.heap.size w wr) (fun _ _ i _ => l.length - (intOf i).toNat)
  case atStart => exact ⟨0, Nat.zero_le _, rfl, by simpa using H0.out, (Below.refl _ _).alloc (Nat.le_refl _) _⟩
  case round =>
    obtain ⟨k, hk, rfl, hb, hb2⟩ := hrel
    by_cases hlt : k < l.length
    · obtain ⟨b, off, rfl, hbb, hcell⟩ := H.out.at_ (by omega)
      have hc : wr.cell? ⟨b, off + k, none⟩ = some (.int .u8 (l.getD k 0)) := by
        rw [hb2.cell (p := ⟨b, off + k, none⟩) (show b < w.heap.size by omega)]; exact hcell k hlt
      have hx := HO.out.getD k
      have HX : Hid (l.getD k 0 = l[k]) := Lib.hid (by simp [List.getD, hlt])
      have hkl : ((l.take k).map decS).length = k := by simp; omega
      rw [map_fill decS l _ k hlt] at hb
      have HB := Lib.hid hb
      have HB2 := Lib.hid hb2
      have HF := Lib.hid (map_fill2 decS l ByteArray.empty k hlt)
      have HK := Lib.hid hkl
      have hgs := hb.lt
      clear hb hb2 hcell hkl
      generalize l.getD k 0 = x at *
      go_wp2_with fail
      refine (dec_is wr (E.below HB2.out) x hx.1 (by omega)).mono ?_
      rintro e w1 ⟨rfl, hB1⟩
      have hblk := HB.out.below hB1 hgs
      have hc1 := hblk.cell k
      rw [strV_get _ _ _ k HK.out] at hc1
      have hf1 := hblk.frozen k
      have hset := hblk.set_ k (.string (decS x))
      rw [strV_set _ _ _ _ k HK.out, HX.out, ← HF.out] at hset
      have HS := Lib.hid hset
      have HB3 := Lib.hid ((HB2.out.trans (hB1.mono HB2.out.size)).setCell (p := ⟨w.heap.size, k, none⟩) (Nat.le_refl _) (.string (decS x)))
      clear hblk hset hB1
      go_wp2
      refine ⟨⟨k + 1, by omega, by go_num, ?_, HB3.out⟩, by simp [intOf]; omega⟩
      rw [HX.out]
      exact HS.out
    · obtain rfl : k = l.length := by omega
      rw [List.take_length, Nat.sub_self, List.replicate_zero, List.append_nil] at hb
      have HB := Lib.hid hb
      have HB2 := Lib.hid hb2
      clear hb hb2
      go_wp2_with fail
      have hj := join_blk wr w.heap.size (l.map decS) l.length ⟨#[46]⟩ 20 HB.out (by simp; omega) (by simp) (by
        intro x hx
        obtain ⟨y, hy, rfl⟩ := List.mem_map.1 hx
        have := HO.out y hy
        exact decS_size y this.1 (by omega)) (by omega) (by decide)
      rw [List.length_map] at hj
      refine hj.mono ?_
      rintro e w1 ⟨rfl, hB1⟩
      have HB1 := Lib.hid hB1
      clear hB1 hj
      go_wp2
      go_ret
      exact ⟨rfl, HB2.out.trans (HB1.out.mono HB2.out.size)⟩
/-- A slice of numbers of 16 bits. -/
structure R16 (w : World) (B : Nat) (A : Option Addr) (n : Nat) (l : List Int) : Prop where
  len : l.length = n
  bd : ∀ x ∈ l, 0 ≤ x ∧ x < 65536
  at_ : 0 < n → ∃ b off, A = some ⟨b, off, none⟩ ∧ b < B ∧ ∀ i, i < n → w.cell? ⟨b, off + i, none⟩ = some (.int .u16 (l.getD i 0))
theorem bd_getD {l : List Int} (h : ∀ x ∈ l, 0 ≤ x ∧ x < 65536) (i : Nat) : 0 ≤ l.getD i 0 ∧ l.getD i 0 < 65536 := by
  rcases Nat.lt_or_ge i l.length with hi | hi
  · have := h l[i] (List.getElem_mem hi)
    simpa [List.getD, List.getElem?_eq_getElem hi] using this
  · simp [List.getD, List.getElem?_eq_none hi]
def groupsS (l : List Int) : ByteArray := joinS (l.map hexS) [58]
set_option maxHeartbeats 1000000 in
theorem groups_text (w : World) (E : Env w) (B : Nat) (A : Option Addr) (n c : Nat) (l : List Int) (hr : R16 w B A n l) (hB : B ≤ w.heap.size) (hn : n ≤ 16) :
    Calls Tryd.prog 110 #[.slice A n c] w fun e w' => e = .returned (.string (groupsS l)) ∧ Below w.heap.size w w' := by
  obtain rfl := hr.len
  have hmk := run_make_row' (P := Tryd.prog) 135 9 (.string ByteArray.empty) 16 Tryd.underlying135 info_str rfl .i64 .i64 l.length (by omega) (by omega) w
  have H := Lib.hid hr
  have H0 := Lib.hid (str_made w l.length 9)
  have HO := Lib.hid hr.bd
  clear hr
  go_enter Tryd.func110, Tryd.ntmps110
  go_wp2
  go_loopw [4, 5, 11] (fun _ _ i wr => ∃ k : Nat, k ≤ l.length ∧ i = .int .i64 k ∧ Blk wr w.heap.size 9 (strV ((l.take k).map hexS ++ List.replicate (l.length - k) ByteArray.empty)) ∧ Below w.heap.size w wr) (fun _ _ i _ => l.length - (intOf i).toNat)
  case atStart => exact ⟨0, Nat.zero_le _, rfl, by simpa using H0.out, (Below.refl _ _).alloc (Nat.le_refl _) _⟩
  case round =>
    obtain ⟨k, hk, rfl, hb, hb2⟩ := hrel
    by_cases hlt : k < l.length
    · obtain ⟨b, off, rfl, hbb, hcell⟩ := H.out.at_ (by omega)
      have hc : wr.cell? ⟨b, off + k, none⟩ = some (.int .u16 (l.getD k 0)) := by
        rw [hb2.cell (p := ⟨b, off + k, none⟩) (show b < w.heap.size by omega)]; exact hcell k hlt
      have hx := bd_getD HO.out k
      have HX : Hid (l.getD k 0 = l[k]) := Lib.hid (by simp [List.getD, hlt])
      have hkl : ((l.take k).map hexS).length = k := by simp; omega
      rw [map_fill hexS l _ k hlt] at hb
      have HB := Lib.hid hb
      have HB2 := Lib.hid hb2
      have HF := Lib.hid (map_fill2 hexS l ByteArray.empty k hlt)
      have HK := Lib.hid hkl
      have hgs := hb.lt
      clear hb hb2 hcell hkl
      generalize l.getD k 0 = x at *
      go_wp2_with fail
      refine (fmt16_is wr (E.below HB2.out) x hx.1 (by omega)).mono ?_
      rintro e w1 ⟨rfl, hB1⟩
      have hblk := HB.out.below hB1 hgs
      have hc1 := hblk.cell k
      rw [strV_get _ _ _ k HK.out] at hc1
      have hf1 := hblk.frozen k
      have hset := hblk.set_ k (.string (hexS x))
      rw [strV_set _ _ _ _ k HK.out, HX.out, ← HF.out] at hset
      have HS := Lib.hid hset
      have HB3 := Lib.hid ((HB2.out.trans (hB1.mono HB2.out.size)).setCell (p := ⟨w.heap.size, k, none⟩) (Nat.le_refl _) (.string (hexS x)))
      clear hblk hset hB1
      go_wp2
      refine ⟨⟨k + 1, by omega, by go_num, ?_, HB3.out⟩, by simp [intOf]; omega⟩
      rw [HX.out]
      exact HS.out
    · obtain rfl : k = l.length := by omega
      rw [List.take_length, Nat.sub_self, List.replicate_zero, List.append_nil] at hb
      have HB := Lib.hid hb
      have HB2 := Lib.hid hb2
      clear hb hb2
      go_wp2_with fail
      have hj := join_blk wr w.heap.size (l.map hexS) l.length ⟨#[58]⟩ 20 HB.out (by simp; omega) (by simp) (by
        intro x hx
        obtain ⟨y, hy, rfl⟩ := List.mem_map.1 hx
        exact Nat.le_trans (hexS_size y) (by omega)) (by omega) (by decide)
      rw [List.length_map] at hj
      refine hj.mono ?_
      rintro e w1 ⟨rfl, hB1⟩
      have HB1 := Lib.hid hB1
      clear hB1 hj
      go_wp2
      go_ret
      exact ⟨rfl, HB2.out.trans (HB1.out.mono HB2.out.size)⟩
end Go.Proofs.YtkaimdcepnhkdaaDoor
namespace Go.Proofs.YtkaimdcepnhkdaaDoor
open Go.RowKit
set_option linter.unusedSimpArgs false
set_option linter.unusedVariables false

abbrev u16s (l : List Int) : List Value := l.map (Value.int .u16)
/-- The groups of sixteen bytes. -/
def grp (l : List Int) : List Int := (List.range 8).map fun i => numOf ((l.drop (2 * i)).take 2)
theorem grp_len (l : List Int) : (grp l).length = 8 := by simp [grp]
theorem u16s_set (xs ys : List Int) (y z : Int) (k : Nat) (hk : xs.length = k) : (u16s (xs ++ y :: ys)).toArray.setIfInBounds k (.int .u16 z) = (u16s (xs ++ z :: ys)).toArray := by
  subst hk; simp [List.set_append]
theorem u16s_get (xs ys : List Int) (y : Int) (k : Nat) (hk : xs.length = k) : (u16s (xs ++ y :: ys)).toArray[k]? = some (.int .u16 y) := by
  subst hk; simp
theorem grp_bd (l : List Int) (ho : Oct l) : ∀ x ∈ grp l, 0 ≤ x ∧ x < 65536 := by
  intro x hx
  obtain ⟨i, _, rfl⟩ := List.mem_map.1 hx
  have h := numOf_bd ((l.drop (2 * i)).take 2) (fun x hx => ho x (List.mem_of_mem_drop (List.mem_of_mem_take hx)))
  have hl : ((l.drop (2 * i)).take 2).length ≤ 2 := by simp; omega
  refine ⟨h.1, Int.lt_of_lt_of_le h.2 ?_⟩
  have : ∀ m, m ≤ 2 → (256 : Int) ^ m ≤ 65536 := by decide
  exact this _ hl
theorem grp_fill (l : List Int) (k : Nat) (hk : k < 8) : (grp l).take k ++ List.replicate (8 - k) 0 = (grp l).take k ++ 0 :: List.replicate (8 - (k + 1)) 0 := by
  rw [show 8 - k = 8 - (k + 1) + 1 by omega, List.replicate_succ]
theorem grp_fill2 (l : List Int) (k : Nat) (hk : k < 8) : (grp l).take (k + 1) ++ List.replicate (8 - (k + 1)) 0 = (grp l).take k ++ numOf ((l.drop (2 * k)).take 2) :: List.replicate (8 - (k + 1)) 0 := by
  rw [List.take_succ_eq_append_getElem (by rw [grp_len]; exact hk), List.append_assoc]
  simp [grp]
theorem u16_one (l : List Int) : ∀ x ∈ u16s l, x.oneCell' = true := by
  intro x hx
  obtain ⟨y, _, rfl⟩ := List.mem_map.1 hx
  rfl
theorem grp_size (l : List Int) (hl : l.length = 8) : (Tryd.prog.info? 130).map (·.size) = some (u16s l).toArray.size := by
  have : (Tryd.prog.info? 130).map (·.size) = some 8 := by kernel_rfl
  rw [this]; simp [hl]
theorem grp_fetch {ops : Array Oper} {rest : List Oper} {op : Oper} {a : Act} {w : World} {Q : Exit → Act → World → Prop} (hw : Region.wanted op (yielded ops a.tmps) = true) (x : Operand) (ho : op.op = .load 130 x) (b : Nat) (l : List Int) (hl : l.length = 8)
    (hx : a.eval x = .pointer (some ⟨b, 0, none⟩)) (hc : w.rangeAt b 0 (u16s l)) (h : wpList Tryd.prog ops Q rest (a.put op.dst (.agg (u16s l).toArray)) w) : wpList Tryd.prog ops Q (op :: rest) a w :=
  BigFrame.wpList_want hw fun _ hK => wp_load_mid 130 x ho b 0 hx (u16s l) _ hc Tryd.underlying130 rfl (by simpa using grp_size l hl) (hK _ _ h)
theorem grp_store {ops : Array Oper} {rest : List Oper} {o : Oper} {a : Act} {w : World} {Q : Exit → Act → World → Prop} (hgd : o.guard = none) (x y : Operand) (ho : o.op = .store 130 x y) (g : Nat) (l : List Int) (hl : l.length = 8)
    (hx : a.eval x = .pointer (some ⟨g, 0, none⟩)) (hy : a.eval y = .agg (u16s l).toArray) (t : TypeId) (old : Array Value) (hg : Blk w g t old) (hold : old.size = 8)
    (h : wpList Tryd.prog ops Q rest (a.put o.dst undef) (w.setRow g (u16s l).toArray)) : wpList Tryd.prog ops Q (o :: rest) a w :=
  wpList_store_row hgd 130 x y ho g _ hx hy t old hg (grp_size l hl) (by rw [hold]; simp [hl]) (all_oneCell_toArray (u16_one l)) h

abbrev zg : Array Value := #[Value.int .u16 0, Value.int .u16 0, Value.int .u16 0, Value.int .u16 0, Value.int .u16 0, Value.int .u16 0, Value.int .u16 0, Value.int .u16 0]
set_option maxHeartbeats 1000000 in
set_option maxRecDepth 100000 in
theorem gof_is (w : World) (v : Bool) (l : List Int) (hl : l.length = 16) (ho : Oct l) :
    Calls Tryd.prog 108 #[.agg (ipc v l).toArray] w fun e w' => e = .returned (.agg (u16s (grp l)).toArray) ∧ Below w.heap.size w w' := by
  go_enter Tryd.func108, Tryd.ntmps108
  go_wp2
  go_loopw [4, 5] (fun _ i wr => ∃ k : Nat, k ≤ 8 ∧ i = .int .i64 k ∧ Blk wr (w.heap.size + 1 + 1) 130 (u16s ((grp l).take k ++ List.replicate (8 - k) 0)).toArray ∧ Blk wr (w.heap.size + 1) 130 zg ∧ wr.rangeAt w.heap.size 0 (ipc v l) ∧ Below w.heap.size w wr) (fun _ i _ => 8 - (intOf i).toNat)
  case atStart =>
    refine ⟨0, by omega, rfl, ?_, ?_, ?_, ?_⟩
    · have h := Blk.new ((w.alloc (.cells (ipc v l).toArray 24)).alloc (.cells zg 130)) 130 zg
      simpa using h
    · have h := (Blk.new (w.alloc (.cells (ipc v l).toArray 24)) 130 zg).alloc (.cells zg 130)
      simpa using h
    · exact range_alloc (range_alloc (range_new w 24 (ipc v l)) (.cells zg 130) (by simp)) (.cells zg 130) (by simp; omega)
    · exact (((Below.refl _ _).alloc (Nat.le_refl _) _).alloc (by simp) _).alloc (by simp; omega) _
  case round =>
    obtain ⟨k, hk, rfl, hb, hz, hr, hB⟩ := hrel
    by_cases hlt : k < 8
    · have hrd : Rd wr (w.heap.size + 1) (some ⟨w.heap.size, 1 + 2 * k, none⟩) 2 ((l.drop (2 * k)).take 2) := rd_range (pre := [.bool v]) (post := []) (by simpa using hr) ho (2 * k) 2 (by omega) (by omega)
      have HR := Lib.hid hrd
      have hbd := grp_bd l ho (numOf ((l.drop (2 * k)).take 2)) (List.mem_map.2 ⟨k, by simp; omega, rfl⟩)
      have hkl : ((grp l).take k).length = k := by simp [grp_len]; omega
      rw [grp_fill l k hlt] at hb
      have hc := hb.cell k
      rw [u16s_get _ _ _ k hkl] at hc
      have hf := hb.frozen k
      have hset := hb.set_ k (.int .u16 (numOf ((l.drop (2 * k)).take 2)))
      rw [u16s_set _ _ _ _ k hkl, ← grp_fill2 l k hlt] at hset
      have HS := Lib.hid hset
      have HZ := Lib.hid (show Blk (wr.setCell ⟨w.heap.size + 1 + 1, k, none⟩ (.int .u16 (numOf ((l.drop (2 * k)).take 2)))) (w.heap.size + 1) 130 zg from hz.far (by simp) _)
      have HRR := Lib.hid (range_far hr (p := ⟨w.heap.size + 1 + 1, k, none⟩) (show w.heap.size ≠ w.heap.size + 1 + 1 by omega) (.int .u16 (numOf ((l.drop (2 * k)).take 2))))
      have HB := Lib.hid (hB.setCell (p := ⟨w.heap.size + 1 + 1, k, none⟩) (show w.heap.size ≤ w.heap.size + 1 + 1 by omega) (.int .u16 (numOf ((l.drop (2 * k)).take 2))))
      have hm : IntKind.u16.wrap (numOf ((l.drop (2 * k)).take 2)) = numOf ((l.drop (2 * k)).take 2) := by rw [IntKind.wrap_u16]; exact Int.emod_eq_of_lt hbd.1 hbd.2
      have HM := Lib.hid hm
      have hsl := slice_arr_lh (P := Tryd.prog) (t := 22) (e := 5) (n := 16) Tryd.underlying22 (by kernel_rfl) w.heap.size 1 (2 * k) (2 * k + 2) (by omega) (by omega) (by omega) (2 * (k : Int)) (2 * (k : Int) + 2) (by omega) (by omega)
      rw [show 2 * k + 2 - 2 * k = 2 by omega] at hsl
      clear hset hb hz hr hB hrd hkl hm
      go_wp2_with fail
      refine (number_is _ (w.heap.size + 1) _ 2 (16 - 2 * k) ((l.drop (2 * k)).take 2) HR.out (by omega)).mono ?_
      rintro e w' ⟨rfl, rfl⟩
      have hm := HM.out
      generalize numOf ((l.drop (2 * k)).take 2) = x at *
      go_wp2
      exact ⟨⟨k + 1, by omega, by go_num, HS.out, HZ.out, HRR.out, HB.out⟩, by simp [intOf]; omega⟩
    · obtain rfl : k = 8 := by omega
      rw [show (grp l).take 8 ++ List.replicate (8 - 8) 0 = grp l by rw [List.take_of_length_le (by rw [grp_len]; omega)]; simp] at hb
      have HG := Lib.hid hb.range
      have HZ := Lib.hid hz
      have HB := Lib.hid hB
      clear hb hz hr hB
      go_wp2_with (first
        | (refine grp_fetch rfl _ rfl (w.heap.size + 1 + 1) (grp l) (grp_len l) rfl HG.out ?_)
        | (refine grp_store rfl _ _ rfl (w.heap.size + 1) (grp l) (grp_len l) rfl rfl 130 zg HZ.out rfl ?_))
      refine bodyPost_ret (v := .agg (u16s (grp l)).toArray) ?_ rfl ⟨rfl, HB.out.trans (below_setRow _ _ _ (by omega))⟩
      exact results_cell_row rfl _ _ (w.heap.size + 1) 130 _ (0, 0) _ rfl (Blk.setRow HZ.out _) Tryd.underlying130 rfl (grp_size _ (grp_len l))
end Go.Proofs.YtkaimdcepnhkdaaDoor
namespace Go.Proofs.YtkaimdcepnhkdaaDoor
open Go.RowKit
set_option linter.unusedSimpArgs false
set_option linter.unusedVariables false

/-- How many from place a on are 0. -/
def zerosFrom (l : List Int) (a : Nat) : Nat := ((l.drop a).takeWhile (· == 0)).length
theorem takeWhile_len (p : Int → Bool) : ∀ (l : List Int) (k : Nat), k ≤ l.length → (∀ i, i < k → p (l.getD i 0) = true) → (k = l.length ∨ p (l.getD k 0) = false) → (l.takeWhile p).length = k
  | [], 0, _, _, _ => rfl
  | x :: l, 0, _, _, h => by
    rcases h with h | h
    · cases h
    · simp at h; simp [List.takeWhile_cons, h]
  | x :: l, k + 1, hk, h, h2 => by
    have hx := h 0 (by omega)
    simp at hx
    have ih := takeWhile_len p l k (by simpa using hk) (fun i hi => by simpa using h (i + 1) (by omega)) (by
      rcases h2 with h2 | h2
      · left; simpa using h2
      · right; simpa using h2)
    simp [List.takeWhile_cons, hx, ih]
theorem zf_eq (l : List Int) (a k : Nat) (hk : a + k ≤ l.length) (h : ∀ i, i < k → l.getD (a + i) 0 = 0) (h2 : a + k = l.length ∨ l.getD (a + k) 0 ≠ 0) : zerosFrom l a = k := by
  unfold zerosFrom
  have e : ∀ i, (l.drop a).getD i 0 = l.getD (a + i) 0 := by intro i; simp [List.getD]
  refine takeWhile_len _ _ k (by simp; omega) (fun i hi => by rw [e]; simpa using h i hi) ?_
  rcases h2 with h2 | h2
  · left; simp; omega
  · right; rw [e]; simpa using h2
theorem zf_le (l : List Int) (a : Nat) : zerosFrom l a ≤ l.length - a := by
  unfold zerosFrom
  have := (List.takeWhile_prefix (· == 0) (l := l.drop a)).length_le
  simpa using this
/-- The first of the longest runs of those that begin below k. -/
def lzTo (l : List Int) : Nat → Nat × Nat
  | 0 => (0, 0)
  | k + 1 => if (lzTo l k).2 < zerosFrom l k then (k, zerosFrom l k) else lzTo l k
theorem lz_le (l : List Int) : ∀ k, k ≤ l.length → (lzTo l k).1 + (lzTo l k).2 ≤ l.length
  | 0, _ => by simp [lzTo]
  | k + 1, h => by
    unfold lzTo
    split
    · have := zf_le l k; simp; omega
    · exact lz_le l k (by omega)

set_option maxHeartbeats 1000000 in
theorem zf_is (w : World) (l : List Int) (a : Nat) (hl : l.length = 8) (ha : a < 8) :
    Calls Tryd.prog 128 #[.agg (u16s l).toArray, .int .i64 a] w fun e w' => e = .returned (.int .i64 (zerosFrom l a)) ∧ Below w.heap.size w w' := by
  have hr := range_new w 130 (u16s l)
  have HR := Lib.hid hr
  clear hr
  go_enter Tryd.func128, Tryd.ntmps128
  go_wp2
  go_loop [5] (fun n => ∃ k : Nat, a + k ≤ 8 ∧ n = .int .i64 k ∧ ∀ i, i < k → l.getD (a + i) 0 = 0) (fun n => 8 - (intOf n).toNat)
  case atStart => exact ⟨0, by omega, rfl, fun i hi => absurd hi (by omega)⟩
  case round =>
    obtain ⟨k, hk, rfl, hz⟩ := hrel
    have HZ := Lib.hid hz
    clear hz
    by_cases hlt : a + k < 8
    · have hc := HR.out (a + k) (.int .u16 (l.getD (a + k) 0)) (by simp [List.getD, show a + k < l.length by omega])
      rw [Nat.zero_add] at hc
      by_cases h0 : l.getD (a + k) 0 = 0
      · rw [h0] at hc
        have H0 := Lib.hid h0
        clear h0
        go_wp2
        exact ⟨⟨k + 1, by omega, by go_num, fun i hi => by
          rcases Nat.lt_or_ge i k with h | h
          · exact HZ.out i h
          · obtain rfl : i = k := by omega
            exact H0.out⟩, by simp [intOf]; omega⟩
      · have hb : (l.getD (a + k) 0 == 0) = false := by simpa using h0
        have HF := Lib.hid (zf_eq l a k (by omega) HZ.out (.inr h0))
        clear h0
        generalize l.getD (a + k) 0 = x at *
        go_wp2
        go_ret
        exact ⟨by rw [HF.out]; rfl, (Below.refl _ _).alloc (Nat.le_refl _) _⟩
    · have HF := Lib.hid (zf_eq l a k (by omega) HZ.out (.inl (by omega)))
      have hlt' : ¬ ((a : Int) + (k : Int) < 8) := by omega
      go_wp2
      go_ret
      exact ⟨by rw [HF.out]; rfl, (Below.refl _ _).alloc (Nat.le_refl _) _⟩

set_option maxHeartbeats 1000000 in
theorem lz_is (w : World) (l : List Int) (hl : l.length = 8) :
    Calls Tryd.prog 109 #[.agg (u16s l).toArray] w fun e w' => e = .returned (.tuple #[.int .i64 (lzTo l 8).1, .int .i64 (lzTo l 8).2]) ∧ Below w.heap.size w w' := by
  have HR := Lib.hid (range_new w 130 (u16s l))
  go_enter Tryd.func109, Tryd.ntmps109
  go_wp2
  go_loopw [2, 3, 4, 5, 6] (fun f c _ _ i wr => ∃ k : Nat, k ≤ 8 ∧ i = .int .i64 k ∧ f = .int .i64 (lzTo l k).1 ∧ c = .int .i64 (lzTo l k).2 ∧ wr.rangeAt w.heap.size 0 (u16s l) ∧ Below w.heap.size w wr ∧ w.heap.size < wr.heap.size) (fun _ _ _ _ i _ => 8 - (intOf i).toNat)
  case atStart => exact ⟨0, by omega, rfl, rfl, rfl, HR.out, (Below.refl _ _).alloc (Nat.le_refl _) _, by simp⟩
  case round =>
    obtain ⟨k, hk, rfl, rfl, rfl, hr, hB, hs⟩ := hrel
    have HR1 := Lib.hid hr
    have HB := Lib.hid hB
    clear hr hB
    by_cases hlt : k < 8
    · have HL : Hid (lzTo l (k + 1) = if (lzTo l k).2 < zerosFrom l k then (k, zerosFrom l k) else lzTo l k) := Lib.hid rfl
      go_wp2_with (refine grp_fetch rfl _ rfl w.heap.size l hl rfl HR1.out ?_)
      refine (zf_is wr l k hl hlt).mono ?_
      rintro e w1 ⟨rfl, hB1⟩
      have HR2 := Lib.hid (range_below HR1.out hB1 hs)
      have HB2 := Lib.hid (HB.out.trans (hB1.mono HB.out.size))
      have hs2 : w.heap.size < w1.heap.size := Nat.lt_of_lt_of_le hs hB1.size
      clear hB1
      by_cases hc : (lzTo l k).2 < zerosFrom l k
      · have HE : Hid (lzTo l (k + 1) = (k, zerosFrom l k)) := Lib.hid (by rw [HL.out, if_pos hc])
        clear HL
        generalize zerosFrom l k = z at *
        generalize lzTo l k = p at *
        go_wp2
        exact ⟨⟨k + 1, by omega, by go_num, by rw [HE.out], by rw [HE.out], HR2.out, HB2.out, hs2⟩, by simp [intOf]; omega⟩
      · have HE : Hid (lzTo l (k + 1) = lzTo l k) := Lib.hid (by rw [HL.out, if_neg hc])
        clear HL
        generalize zerosFrom l k = z at *
        generalize hp : lzTo l k = p at *
        have HP := Lib.hid hp
        clear hp
        go_wp2
        exact ⟨⟨k + 1, by omega, by go_num, by rw [HE.out], by rw [HE.out], HR2.out, HB2.out, hs2⟩, by simp [intOf]; omega⟩
    · obtain rfl : k = 8 := by omega
      go_wp2
      go_ret2
      exact ⟨rfl, HB.out⟩
end Go.Proofs.YtkaimdcepnhkdaaDoor
namespace Go.Proofs.YtkaimdcepnhkdaaDoor
open Go.RowKit
set_option linter.unusedSimpArgs false
set_option linter.unusedVariables false

theorem slice_arr_tail {P : Program} {t e : TypeId} {n : Nat} (hu : P.underlying t = some (.array n e)) (hi0 : (P.info? e).map (·.size) = some 1) (g o l : Nat) (h3 : l ≤ n) (a : Int) (ha : a = l) :
    ∃ A : Option Addr, (0 < n - l → A = some ⟨g, o + l, none⟩) ∧ ∀ W : World, (Instr.sliceAt t (.pointer (some ⟨g, o, none⟩)) (some (.int .i64 a)) none none).run P W = .ok (.slice A (n - l) (n - l)) W := by
  subst ha
  have hal : P.arrayLen t = n := by simp [Program.arrayLen, hu]
  have hel : P.elem t = e := by simp [Program.elem, hu]
  obtain ⟨i, hi, hs⟩ := Option.map_eq_some_iff.1 hi0
  refine ⟨some (if n = l then ⟨g, o, none⟩ else ⟨g, o + l, none⟩), fun h => by rw [if_neg (by omega)], fun W => ?_⟩
  rw [run_sliceAt_array_l W t ⟨g, o, none⟩ (by rw [hu, hal, hel]) .i64 (l : Int) (by omega) (by rw [hal]; omega), hal, hel]
  simp only [sizeOf, typeInfo, Sem.run_bind]
  simp [Result.andThen, slicedAt, hi, hs, Addr.add]
  by_cases h0 : l = 0
  · subst h0; simp
  · simp [h0]

theorem r16_of (w : World) (g B : Nat) (l : List Int) (hb : Blk w g 130 (u16s l).toArray) (hbd : ∀ x ∈ l, 0 ≤ x ∧ x < 65536) (o m : Nat) (hm : o + m ≤ l.length) (hB : g < B) (A : Option Addr) (hA : 0 < m → A = some ⟨g, o, none⟩) : R16 w B A m ((l.drop o).take m) := by
  refine ⟨by simp; omega, fun x hx => hbd x (List.mem_of_mem_drop (List.mem_of_mem_take hx)), fun hn => ⟨g, o, hA hn, hB, fun i hi => ?_⟩⟩
  rw [hb.cell]
  simp [List.getD, hi, show o + i < l.length by omega]

theorem joinS_size (xs : List ByteArray) (sep : List UInt8) (m : Nat) (h : ∀ x ∈ xs, x.size ≤ m) : (joinS xs sep).size ≤ xs.length * (m + sep.length) := by
  have h1 := join_le sep m (xs.map (·.data.toList)) (by
    intro x hx
    obtain ⟨y, hy, rfl⟩ := List.mem_map.1 hx
    rw [Array.length_toList]; exact h y hy)
  rw [List.length_map] at h1
  show (Lib.join (xs.map (·.data.toList)) sep).toArray.size ≤ _
  rwa [List.size_toArray]
theorem groupsS_size (l : List Int) : (groupsS l).size ≤ l.length * 5 := by
  have := joinS_size (l.map hexS) [58] 4 (by
    intro x hx
    obtain ⟨y, hy, rfl⟩ := List.mem_map.1 hx
    exact hexS_size y)
  simpa [groupsS] using this
def sixS (l : List Int) : ByteArray :=
  if (lzTo (grp l) 8).2 < 2 then groupsS (grp l)
  else groupsS ((grp l).take (lzTo (grp l) 8).1) ++ ⟨#[58, 58]⟩ ++ groupsS ((grp l).drop ((lzTo (grp l) 8).1 + (lzTo (grp l) 8).2))

set_option maxHeartbeats 1000000 in
set_option maxRecDepth 100000 in
theorem six_is (w : World) (E : Env w) (v : Bool) (l : List Int) (hl : l.length = 16) (ho : Oct l) :
    Calls Tryd.prog 68 #[.agg (ipc v l).toArray] w fun e w' => e = .returned (.string (sixS l)) ∧ Below w.heap.size w w' := by
  have HR := Lib.hid (range_new w 24 (ipc v l))
  have HG := Lib.hid (grp_bd l ho)
  have HL := Lib.hid (grp_len l)
  have HZ := Lib.hid (lz_le (grp l) 8 (by rw [grp_len]; omega))
  go_enter Tryd.func68, Tryd.ntmps68
  go_wp2_with (refine ip_fetch rfl _ rfl w.heap.size 0 v l hl rfl HR.out ?_)
  refine (gof_is _ v l hl ho).mono ?_
  rintro e w1 ⟨rfl, hB1⟩
  have HB1 : Hid (Below w.heap.size w w1) := Lib.hid (((Below.refl w.heap.size w).alloc (Nat.le_refl _) _).trans (hB1.mono (by simp)))
  have hs1 : w.heap.size < w1.heap.size := by have := hB1.size; simp at this; omega
  have HK := Lib.hid (Blk.setRow (Blk.new w1 130 zg) (u16s (grp l)).toArray)
  have HB2 : Hid (Below w.heap.size w ((w1.alloc (.cells zg 130)).setRow w1.heap.size (u16s (grp l)).toArray)) := Lib.hid ((HB1.out.alloc (Nat.le_of_lt hs1) _).trans (below_setRow _ _ _ (Nat.le_of_lt hs1)))
  clear hB1
  go_wp2_with (first
    | (refine grp_store rfl _ _ rfl w1.heap.size (grp l) (grp_len l) rfl rfl 130 zg (Blk.new w1 130 zg) rfl ?_)
    | (refine grp_fetch rfl _ rfl w1.heap.size (grp l) (grp_len l) rfl HK.out.range ?_))
  refine (lz_is _ (grp l) (grp_len l)).mono ?_
  rintro e w2 ⟨rfl, hB3⟩
  have hsz : ((w1.alloc (.cells zg 130)).setRow w1.heap.size (u16s (grp l)).toArray).heap.size = w1.heap.size + 1 := by simp [World.setRow]
  have HK2 := Lib.hid (HK.out.below hB3 (by rw [hsz]; omega))
  have HB3 := Lib.hid (HB2.out.trans (hB3.mono (by rw [hsz]; omega)))
  have hs2 : w1.heap.size < w2.heap.size := by have := hB3.size; rw [hsz] at this; omega
  have HE := Lib.hid (E.below HB3.out)
  have HS : Hid (sixS l = if (lzTo (grp l) 8).2 < 2 then groupsS (grp l) else groupsS ((grp l).take (lzTo (grp l) 8).1) ++ ⟨#[58, 58]⟩ ++ groupsS ((grp l).drop ((lzTo (grp l) 8).1 + (lzTo (grp l) 8).2))) := Lib.hid rfl
  clear hB3 hsz HK HB2 HB1 HR
  generalize hO : sixS l = out at *
  have HO := Lib.hid hO
  clear hO
  generalize grp l = gs at *
  generalize lzTo gs 8 = z at *
  obtain ⟨f, c⟩ := z
  simp only at HZ HS
  by_cases hc : c < 2
  · have HS1 : Hid (out = groupsS gs) := Lib.hid (by rw [HS.out, if_pos hc])
    have hcd : ((c : Int) < 2) := by omega
    go_wp2_with fail
    refine (groups_text w2 HE.out w2.heap.size (some ⟨w1.heap.size, 0, none⟩) 8 8 gs ?_ (Nat.le_refl _) (by omega)).mono ?_
    · have h := r16_of w2 w1.heap.size w2.heap.size gs HK2.out HG.out 0 8 (by rw [HL.out]; omega) hs2 (some ⟨w1.heap.size, 0, none⟩) (fun _ => rfl)
      rwa [List.drop_zero, List.take_of_length_le (by rw [HL.out]; omega)] at h
    rintro e w3 ⟨rfl, hB4⟩
    have HB4 := Lib.hid hB4
    clear hB4
    go_wp2
    go_ret
    exact ⟨by rw [HO.out, HS1.out]; rfl, HB3.out.trans (HB4.out.mono HB3.out.size)⟩
  · have HS1 : Hid (out = groupsS (gs.take f) ++ ⟨#[58, 58]⟩ ++ groupsS (gs.drop (f + c))) := Lib.hid (by rw [HS.out, if_neg hc])
    have hcd : ¬ ((c : Int) < 2) := by omega
    have hf8 : f + c ≤ 8 := by have := HZ.out; have := HL.out; omega
    have hsl1 := slice_arr_h (P := Tryd.prog) (t := 130) (e := 50) (n := 8) Tryd.underlying130 (by kernel_rfl) w1.heap.size 0 f (by omega) (by omega) (f : Int) rfl
    obtain ⟨A, hA, hsl2⟩ := slice_arr_tail (P := Tryd.prog) (t := 130) (e := 50) (n := 8) Tryd.underlying130 (by kernel_rfl) w1.heap.size 0 (f + c) (by omega) ((f : Int) + (c : Int)) (by omega)
    rw [Nat.zero_add] at hA
    have HA := Lib.hid hA
    have H1 : Hid (R16 w2 w2.heap.size (some ⟨w1.heap.size, 0, none⟩) f (gs.take f)) := Lib.hid (r16_of w2 w1.heap.size w2.heap.size gs HK2.out HG.out 0 f (by rw [HL.out]; omega) hs2 _ (fun _ => rfl))
    have hwr : IntKind.i64.wrap ((f : Int) + (c : Int)) = (f : Int) + (c : Int) := IntWalk.i64_in _ (by omega)
    have hz1 : ¬ 9223372036854775807 < (groupsS (gs.take f)).size + 2 := by
      have := groupsS_size (gs.take f)
      have : (gs.take f).length ≤ 8 := by simp; have := HL.out; omega
      omega
    have hz2 : ¬ 9223372036854775807 < (groupsS (gs.take f)).size + 2 + (groupsS (gs.drop (f + c))).size := by
      have := groupsS_size (gs.take f)
      have := groupsS_size (gs.drop (f + c))
      have : (gs.take f).length ≤ 8 := by simp; have := HL.out; omega
      have : (gs.drop (f + c)).length ≤ 8 := by simp; have := HL.out; omega
      omega
    clear hA HS hc
    go_wp2_with fail
    refine wp_region_held_drew (S := fun w' => w2.heap.size ≤ w'.heap.size) (by kernel_rfl) (Nat.le_refl _) (fun hS => ?_)
    refine wpAnyH_take (i := 0) (oi := ⟨some 17, _, _, _, _, _⟩) (v := ?_) rfl (by kernel_rfl) (by kernel_rfl) (by kernel_rfl) (fun _ _ _ h => h) (Or.inl ⟨by rfl, ?_⟩) hS ?_
    rotate_left
    · intro wq hq
      first | (go_simp; done) | (go_simp; rfl)
    try simp only [Act.put, List.setIfInBounds_toArray, List.set_cons_zero, List.set_cons_succ]
    refine wpAnyH_take (i := 1) (oi := ⟨some 18, _, _, _, _, _⟩) (v := ?_) rfl (by kernel_rfl) (by kernel_rfl) (by kernel_rfl) (fun _ _ _ h => h) (Or.inl ⟨by rfl, ?_⟩) hS ?_
    rotate_left
    · intro wq hq
      first | (go_simp; done) | (go_simp; rfl)
    try simp only [Act.put, List.setIfInBounds_toArray, List.set_cons_zero, List.set_cons_succ]
    refine wpAnyH_take (i := 4) (oi := ⟨some 21, _, _, _, _, _⟩) (v := ?_) rfl (by kernel_rfl) (by kernel_rfl) (by kernel_rfl) (fun _ _ _ h => h) (Or.inl ⟨by rfl, ?_⟩) hS ?_
    rotate_left
    · intro wq hq
      first | (go_simp; done) | (go_simp; rfl)
    try simp only [Act.put, List.setIfInBounds_toArray, List.set_cons_zero, List.set_cons_succ]
    refine wpAnyH_take (i := 5) (oi := ⟨some 22, _, _, _, _, _⟩) (v := ?_) rfl (by kernel_rfl) (by kernel_rfl) (by kernel_rfl) (fun _ _ _ h => h) (Or.inl ⟨by rfl, ?_⟩) hS ?_
    rotate_left
    · intro wq hq
      first | (go_simp; done) | (go_simp; rfl)
    try simp only [Act.put, List.setIfInBounds_toArray, List.set_cons_zero, List.set_cons_succ]
    refine wpAnyH_take (i := 6) (oi := ⟨some 23, _, _, _, _, _⟩) (v := ?_) rfl (by kernel_rfl) (by kernel_rfl) (by kernel_rfl) (fun _ _ _ h => h) (Or.inl ⟨by rfl, ?_⟩) hS ?_
    rotate_left
    · intro wq hq
      first | (go_simp; done) | (go_simp; rfl)
    try simp only [Act.put, List.setIfInBounds_toArray, List.set_cons_zero, List.set_cons_succ]
    refine wpAnyH_take (i := 7) (oi := ⟨some 24, _, _, _, _, _⟩) (v := ?_) rfl (by kernel_rfl) (by kernel_rfl) (by kernel_rfl) (fun _ _ _ h => h) (Or.inl ⟨by rfl, ?_⟩) hS ?_
    rotate_left
    · intro wq hq
      first | (go_simp; done) | (go_simp; rfl)
    try simp only [Act.put, List.setIfInBounds_toArray, List.set_cons_zero, List.set_cons_succ]
    refine wpAnyH_ready (rs := [2]) (by kernel_rfl) (by simp) ?_
    refine AllReadyH.cons (o := ⟨some 19, _, _, _, _, _⟩) rfl (fun K hK => ?_) AllReadyH.nil
    rw [if_pos (by rfl)]
    go_wp2_with fail
    refine (groups_text _ (Env.drewN HE.out 1) w2.heap.size (some ⟨w1.heap.size, 0, none⟩) f 8 (gs.take f) ⟨H1.out.len, H1.out.bd, H1.out.at_⟩ (Nat.le_refl _) (by omega)).mono ?_
    rintro e w3 ⟨rfl, hB4⟩
    have hs3 : w2.heap.size ≤ w3.heap.size := hB4.size
    have HK3 := Lib.hid ((Blk.below HK2.out (B := w2.heap.size) ⟨hB4.os, hB4.tape, hB4.output, hB4.size, hB4.block⟩ hs2))
    have HB4 : Hid (Below w2.heap.size w2 w3) := Lib.hid ((below_drewN (Below.refl _ _) 1).trans hB4)
    have HE3 := Lib.hid (HE.out.below HB4.out)
    clear hB4
    refine hK.out _ _ (hs3) (fun hS => ?_)
    clear hK K
    try simp only [Act.put, List.setIfInBounds_toArray, List.set_cons_zero, List.set_cons_succ]
    refine wpAnyH_take (i := 3) (oi := ⟨some 20, _, _, _, _, _⟩) (v := ?_) rfl (by kernel_rfl) (by kernel_rfl) (by kernel_rfl) (fun _ _ _ h => h) (Or.inl ⟨by rfl, ?_⟩) hS ?_
    rotate_left
    · intro wq hq
      first | (go_simp; done) | (go_simp; rfl)
    try simp only [Act.put, List.setIfInBounds_toArray, List.set_cons_zero, List.set_cons_succ]
    refine wpAnyH_ready (rs := [8]) (by kernel_rfl) (by simp) ?_
    refine AllReadyH.cons (o := ⟨some 25, _, _, _, _, _⟩) rfl (fun K hK => ?_) AllReadyH.nil
    rw [if_pos (by rfl)]
    go_wp2_with fail
    have H2 := Lib.hid (r16_of w3 w1.heap.size w3.heap.size gs HK3.out HG.out (f + c) (8 - (f + c)) (by rw [HL.out]; omega) (by omega) A HA.out)
    rw [List.take_of_length_le (by simp [HL.out])] at H2
    refine (groups_text w3 HE3.out w3.heap.size A (8 - (f + c)) (8 - (f + c)) (gs.drop (f + c)) H2.out (Nat.le_refl _) (by omega)).mono ?_
    rintro e w4 ⟨rfl, hB5⟩
    have hs4 : w2.heap.size ≤ w4.heap.size := Nat.le_trans hs3 hB5.size
    have HB5 := Lib.hid hB5
    clear hB5
    refine hK.out _ _ (hs4) (fun hS => ?_)
    clear hK K
    try simp only [Act.put, List.setIfInBounds_toArray, List.set_cons_zero, List.set_cons_succ]
    refine wpAnyH_take (i := 9) (oi := ⟨some 26, _, _, _, _, _⟩) (v := ?_) rfl (by kernel_rfl) (by kernel_rfl) (by kernel_rfl) (fun _ _ _ h => h) (Or.inl ⟨by rfl, ?_⟩) hS ?_
    rotate_left
    · intro wq hq
      first | (go_simp; done) | (go_simp; rfl)
    try simp only [Act.put, List.setIfInBounds_toArray, List.set_cons_zero, List.set_cons_succ]
    refine wpAnyH_take (i := 10) (oi := ⟨some 2, _, _, _, _, _⟩) (v := ?_) rfl (by kernel_rfl) (by kernel_rfl) (by kernel_rfl) (fun _ _ _ h => h) (Or.inl ⟨by rfl, ?_⟩) hS ?_
    rotate_left
    · intro wq hq
      first | (go_simp; done) | (go_simp; rfl)
    try simp only [Act.put, List.setIfInBounds_toArray, List.set_cons_zero, List.set_cons_succ]
    refine wpAnyH_done (by kernel_rfl) ?_ _
    go_wp2
    go_ret
    exact ⟨by rw [HO.out, HS1.out]; rfl, (HB3.out.trans (HB4.out.mono HB3.out.size)).trans (HB5.out.mono (Nat.le_trans HB3.out.size hs3))⟩

def ipS (v : Bool) (l : List Int) : ByteArray := if v then sixS l else fourS (l.take 4)
def IpT (w : World) (v : Bool) (l : List Int) (e : Ending) (w' : World) : Prop :=
  Below w.heap.size w w' ∧ e = .returned (if rightB v l then .tuple #[.string (ipS v l), .int .i64 0] else .tuple #[.string ⟨#[]⟩, .int .i64 2])
set_option maxHeartbeats 1000000 in
set_option maxRecDepth 100000 in
theorem iptext_is (w : World) (E : Env w) (v : Bool) (l : List Int) (hl : l.length = 16) (ho : Oct l) :
    Calls Tryd.prog 11 #[.agg (ipc v l).toArray] w (IpT w v l) := by
  have hr0 := range_new w 24 (ipc v l)
  have HR := Lib.hid hr0
  clear hr0
  go_enter Tryd.func11, Tryd.ntmps11
  go_wp2_with (refine ip_fetch rfl _ rfl w.heap.size 0 v l hl rfl HR.out ?_)
  refine (right_is _ v l hl ho).mono ?_
  rintro e w1 ⟨rfl, hB1⟩
  have HB1 : Hid (Below w.heap.size w w1) := Lib.hid (((Below.refl w.heap.size w).alloc (Nat.le_refl _) _).trans (hB1.mono (by simp)))
  have hs1 : w.heap.size < w1.heap.size := by have := hB1.size; simp at this; omega
  have HR1 := Lib.hid (range_below HR.out hB1 (by simp))
  have hv := HR1.out 0 _ rfl
  have HE := Lib.hid (E.below HB1.out)
  clear hB1 HR
  cases hrt : rightB v l
  · have HC := Lib.hid hrt
    clear hrt
    go_wp2
    go_ret2
    exact ⟨HB1.out, by rw [HC.out]; rfl⟩
  · have HC := Lib.hid hrt
    clear hrt
    cases v
    · have hsl := slice_arr_h (P := Tryd.prog) (t := 22) (e := 5) (n := 16) Tryd.underlying22 (by kernel_rfl) w.heap.size 1 4 (by omega) (by omega) 4 rfl
      have hrd : Rd w1 w1.heap.size (some ⟨w.heap.size, 1, none⟩) 4 ((l.drop 0).take 4) := rd_range (pre := [.bool false]) (post := []) (by simpa using HR1.out) ho 0 4 (by omega) hs1
      have HRd := Lib.hid hrd
      clear hrd
      go_wp2_with fail
      refine (four_text w1 HE.out w1.heap.size _ 4 16 (l.take 4) HRd.out (Nat.le_refl _) (by omega)).mono ?_
      rintro e w2 ⟨rfl, hB2⟩
      have HB2 := Lib.hid hB2
      clear hB2
      go_wp2
      go_ret2
      exact ⟨HB1.out.trans (HB2.out.mono HB1.out.size), by rw [HC.out]; rfl⟩
    · go_wp2_with (refine ip_fetch rfl _ rfl w.heap.size 0 true l hl rfl HR1.out ?_)
      refine (six_is w1 HE.out true l hl ho).mono ?_
      rintro e w2 ⟨rfl, hB2⟩
      have HB2 := Lib.hid hB2
      clear hB2
      go_wp2
      go_ret2
      exact ⟨HB1.out.trans (HB2.out.mono HB1.out.size), by rw [HC.out]; rfl⟩
end Go.Proofs.YtkaimdcepnhkdaaDoor
