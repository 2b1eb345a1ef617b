/-
  Layer 2 (addr): texts of several parts: fourText, groupsText.
-/
import Derived.Test.YtkaimdcepnhkdaaDoorAdG
namespace Go.Proofs.YtkaimdcepnhkdaaDoor
open Go.RowKit
set_option linter.unusedSimpArgs false
set_option linter.unusedVariables false

abbrev strV (xs : List ByteArray) : Array Value := (xs.map Value.string).toArray
def joinS (xs : List ByteArray) (sep : List UInt8) : ByteArray := ⟨(Lib.join (xs.map (·.data.toList)) sep).toArray⟩
theorem info_str : (Tryd.prog.info? 9).map (fun i => (i.zero, i.size, i.bytes)) = some (some (.string ByteArray.empty), 1, 16) := by kernel_rfl
theorem str_made (w : World) (n : Nat) (t : TypeId) : Blk (w.alloc (.cells (madeCells #[.string ByteArray.empty] n) t)) w.heap.size t (strV (List.replicate n ByteArray.empty)) := by
  unfold Blk
  show (w.heap.push _)[w.heap.size]? = _
  rw [Array.getElem?_push, if_pos rfl]
  congr 2
  apply Array.ext_getElem?
  intro i
  by_cases hi : i < n <;> simp [madeCells, hi, Nat.mod_one]
theorem strV_get (xs ys : List ByteArray) (y : ByteArray) (k : Nat) (hk : xs.length = k) : (strV (xs ++ y :: ys))[k]? = some (.string y) := by
  subst hk; simp
theorem strV_set (xs ys : List ByteArray) (y z : ByteArray) (k : Nat) (hk : xs.length = k) : (strV (xs ++ y :: ys)).setIfInBounds k (.string z) = strV (xs ++ z :: ys) := by
  subst hk; simp [List.set_append]
theorem map_fill {α β : Type} (f : α → β) (l : List α) (e : β) (k : Nat) (hk : k < l.length) : (l.take k).map f ++ List.replicate (l.length - k) e = (l.take k).map f ++ e :: List.replicate (l.length - (k + 1)) e := by
  rw [show l.length - k = l.length - (k + 1) + 1 by omega, List.replicate_succ]
theorem map_fill2 {α β : Type} (f : α → β) (l : List α) (e : β) (k : Nat) (hk : k < l.length) : (l.take (k + 1)).map f ++ List.replicate (l.length - (k + 1)) e = (l.take k).map f ++ f l[k] :: List.replicate (l.length - (k + 1)) e := by
  rw [List.take_succ_eq_append_getElem hk, List.map_append, List.append_assoc]; rfl
theorem joinTail_le (sep : List UInt8) (m : Nat) : ∀ r : List (List UInt8), (∀ x ∈ r, x.length ≤ m) → (Lib.joinTail sep r).length ≤ r.length * (m + sep.length)
  | [], _ => by simp [Lib.joinTail]
  | x :: r, h => by
    have ih := joinTail_le sep m r (fun y hy => h y (by simp [hy]))
    have hx := h x (by simp)
    have : (Lib.joinTail sep (x :: r)).length = sep.length + x.length + (Lib.joinTail sep r).length := by simp [Lib.joinTail, Nat.add_assoc]
    rw [this, List.length_cons, Nat.succ_mul]
    omega
theorem join_le (sep : List UInt8) (m : Nat) (xs : List (List UInt8)) (h : ∀ x ∈ xs, x.length ≤ m) : (Lib.join xs sep).length ≤ xs.length * (m + sep.length) := by
  cases xs with
  | nil => simp [Lib.join, List.intercalate]
  | cons x r =>
    rw [Lib.join_cons, List.length_append, List.length_cons, Nat.succ_mul]
    have := joinTail_le sep m r (fun y hy => h y (by simp [hy]))
    have hx := h x (by simp)
    omega
theorem join_blk (w : World) (g : Nat) (xs : List ByteArray) (c : Nat) (sep : ByteArray) (m : Nat) (hb : Blk w g 9 (strV xs)) (hn : xs.length ≤ 100) (hc : xs.length ≤ c) (hm : ∀ x ∈ xs, x.size ≤ m) (hm2 : m ≤ 1000) (hs : sep.size ≤ 10) :
    Calls Tryd.prog 111 #[.slice (some ⟨g, 0, none⟩) xs.length c, .string sep] w fun e w' => e = .returned (.string (joinS xs sep.data.toList)) ∧ Below w.heap.size w w' := by
  refine Tryd.strings_Join g 0 c xs sep w (fun j x hx => ?_) hb.lt (by omega) hc ?_
  · rw [Nat.zero_add, hb.cell]
    simpa using hx
  · have h1 := join_le sep.data.toList m (xs.map (·.data.toList)) (by
      intro x hx
      obtain ⟨y, hy, rfl⟩ := List.mem_map.1 hx
      have := hm y hy
      rw [Array.length_toList]; exact this)
    have h2 : sep.data.toList.length ≤ 10 := by rw [Array.length_toList]; exact hs
    rw [List.length_map] at h1
    have h3 : xs.length * (m + sep.data.toList.length) ≤ 100 * 1010 := Nat.mul_le_mul hn (by omega)
    omega
theorem decS_size (n : Int) (h0 : 0 ≤ n) (h1 : n < 18446744073709551616) : (decS n).size ≤ 20 := by
  have h : (decS n).size = (Lib.decDigits n.toNat).length := by unfold decS; simp [ByteArray.size]
  rw [h, Lib.decDigits_length]
  rcases Nat.eq_zero_or_pos n.toNat with hz | hp
  · rw [hz, Lib.nDigits_small (by omega)]; omega
  · have := Lib.numDigits_eq n.toNat hp (by omega)
    split at this <;> omega
theorem hexS_size (u : Int) : (hexS u).size ≤ 4 := by
  have h : (hexS u).size = (lowHex (hexN u) u).length := by
    show (strOfNums (lowHex (hexN u) u)).data.size = _
    rw [← Array.length_toList, strOfNums_data]; simp
  rw [h, lowHex_len]
  unfold hexN
  split
  · omega
  · split
    · omega
    · split <;> omega

def fourS (l : List Int) : ByteArray := joinS (l.map decS) [46]
set_option maxHeartbeats 1000000 in
theorem four_text (w : World) (E : Env w) (B : Nat) (A : Option Addr) (n c : Nat) (l : List Int) (hr : Rd w B A n l) (hB : B ≤ w.heap.size) (hn : n ≤ 16) :
    Calls Tryd.prog 69 #[.slice A n c] w fun e w' => e = .returned (.string (fourS l)) ∧ Below w.heap.size w w' := by
  obtain rfl := hr.len
  have hmk := run_make_row' (P := Tryd.prog) 135 9 (.string ByteArray.empty) 16 Tryd.underlying135 info_str rfl .i64 .i64 l.length (by omega) (by omega) w
  have H := Lib.hid hr
  have H0 := Lib.hid (str_made w l.length 9)
  have HO := Lib.hid hr.oct
  clear hr
  go_enter Tryd.func69, Tryd.ntmps69
  go_wp2
  go_loopw [4, 5, 11] (fun _ _ i wr => ∃ k : Nat, k ≤ l.length ∧ i = .int .i64 k ∧ Blk wr w.heap.size 9 (strV ((l.take k).map decS ++ List.replicate (l.length - k) ByteArray.empty)) ∧ Below w.heap.size w wr) (fun _ _ i _ => l.length - (intOf i).toNat)
  case atStart => exact ⟨0, Nat.zero_le _, rfl, by simpa using H0.out, (Below.refl _ _).alloc (Nat.le_refl _) _⟩
  case round =>
    obtain ⟨k, hk, rfl, hb, hb2⟩ := hrel
    by_cases hlt : k < l.length
    · obtain ⟨b, off, rfl, hbb, hcell⟩ := H.out.at_ (by omega)
      have hc : wr.cell? ⟨b, off + k, none⟩ = some (.int .u8 (l.getD k 0)) := by
        rw [hb2.cell (p := ⟨b, off + k, none⟩) (show b < w.heap.size by omega)]; exact hcell k hlt
      have hx := HO.out.getD k
      have HX : Hid (l.getD k 0 = l[k]) := Lib.hid (by simp [List.getD, hlt])
      have hkl : ((l.take k).map decS).length = k := by simp; omega
      rw [map_fill decS l _ k hlt] at hb
      have HB := Lib.hid hb
      have HB2 := Lib.hid hb2
      have HF := Lib.hid (map_fill2 decS l ByteArray.empty k hlt)
      have HK := Lib.hid hkl
      have hgs := hb.lt
      clear hb hb2 hcell hkl
      generalize l.getD k 0 = x at *
      go_wp2_with fail
      refine (dec_is wr (E.below HB2.out) x hx.1 (by omega)).mono ?_
      rintro e w1 ⟨rfl, hB1⟩
      have hblk := HB.out.below hB1 hgs
      have hc1 := hblk.cell k
      rw [strV_get _ _ _ k HK.out] at hc1
      have hf1 := hblk.frozen k
      have hset := hblk.set_ k (.string (decS x))
      rw [strV_set _ _ _ _ k HK.out, HX.out, ← HF.out] at hset
      have HS := Lib.hid hset
      have HB3 := Lib.hid ((HB2.out.trans (hB1.mono HB2.out.size)).setCell (p := ⟨w.heap.size, k, none⟩) (Nat.le_refl _) (.string (decS x)))
      clear hblk hset hB1
      go_wp2
      refine ⟨⟨k + 1, by omega, by go_num, ?_, HB3.out⟩, by simp [intOf]; omega⟩
      rw [HX.out]
      exact HS.out
    · obtain rfl : k = l.length := by omega
      rw [List.take_length, Nat.sub_self, List.replicate_zero, List.append_nil] at hb
      have HB := Lib.hid hb
      have HB2 := Lib.hid hb2
      clear hb hb2
      go_wp2_with fail
      have hj := join_blk wr w.heap.size (l.map decS) l.length ⟨#[46]⟩ 20 HB.out (by simp; omega) (by simp) (by
        intro x hx
        obtain ⟨y, hy, rfl⟩ := List.mem_map.1 hx
        have := HO.out y hy
        exact decS_size y this.1 (by omega)) (by omega) (by decide)
      rw [List.length_map] at hj
      refine hj.mono ?_
      rintro e w1 ⟨rfl, hB1⟩
      have HB1 := Lib.hid hB1
      clear hB1 hj
      go_wp2
      go_ret
      exact ⟨rfl, HB2.out.trans (HB1.out.mono HB2.out.size)⟩
/-- A slice of numbers of 16 bits. -/
structure R16 (w : World) (B : Nat) (A : Option Addr) (n : Nat) (l : List Int) : Prop where
  len : l.length = n
  bd : ∀ x ∈ l, 0 ≤ x ∧ x < 65536
  at_ : 0 < n → ∃ b off, A = some ⟨b, off, none⟩ ∧ b < B ∧ ∀ i, i < n → w.cell? ⟨b, off + i, none⟩ = some (.int .u16 (l.getD i 0))
theorem bd_getD {l : List Int} (h : ∀ x ∈ l, 0 ≤ x ∧ x < 65536) (i : Nat) : 0 ≤ l.getD i 0 ∧ l.getD i 0 < 65536 := by
  rcases Nat.lt_or_ge i l.length with hi | hi
  · have := h l[i] (List.getElem_mem hi)
    simpa [List.getD, List.getElem?_eq_getElem hi] using this
  · simp [List.getD, List.getElem?_eq_none hi]
def groupsS (l : List Int) : ByteArray := joinS (l.map hexS) [58]
set_option maxHeartbeats 1000000 in
theorem groups_text (w : World) (E : Env w) (B : Nat) (A : Option Addr) (n c : Nat) (l : List Int) (hr : R16 w B A n l) (hB : B ≤ w.heap.size) (hn : n ≤ 16) :
    Calls Tryd.prog 110 #[.slice A n c] w fun e w' => e = .returned (.string (groupsS l)) ∧ Below w.heap.size w w' := by
  obtain rfl := hr.len
  have hmk := run_make_row' (P := Tryd.prog) 135 9 (.string ByteArray.empty) 16 Tryd.underlying135 info_str rfl .i64 .i64 l.length (by omega) (by omega) w
  have H := Lib.hid hr
  have H0 := Lib.hid (str_made w l.length 9)
  have HO := Lib.hid hr.bd
  clear hr
  go_enter Tryd.func110, Tryd.ntmps110
  go_wp2
  go_loopw [4, 5, 11] (fun _ _ i wr => ∃ k : Nat, k ≤ l.length ∧ i = .int .i64 k ∧ Blk wr w.heap.size 9 (strV ((l.take k).map hexS ++ List.replicate (l.length - k) ByteArray.empty)) ∧ Below w.heap.size w wr) (fun _ _ i _ => l.length - (intOf i).toNat)
  case atStart => exact ⟨0, Nat.zero_le _, rfl, by simpa using H0.out, (Below.refl _ _).alloc (Nat.le_refl _) _⟩
  case round =>
    obtain ⟨k, hk, rfl, hb, hb2⟩ := hrel
    by_cases hlt : k < l.length
    · obtain ⟨b, off, rfl, hbb, hcell⟩ := H.out.at_ (by omega)
      have hc : wr.cell? ⟨b, off + k, none⟩ = some (.int .u16 (l.getD k 0)) := by
        rw [hb2.cell (p := ⟨b, off + k, none⟩) (show b < w.heap.size by omega)]; exact hcell k hlt
      have hx := bd_getD HO.out k
      have HX : Hid (l.getD k 0 = l[k]) := Lib.hid (by simp [List.getD, hlt])
      have hkl : ((l.take k).map hexS).length = k := by simp; omega
      rw [map_fill hexS l _ k hlt] at hb
      have HB := Lib.hid hb
      have HB2 := Lib.hid hb2
      have HF := Lib.hid (map_fill2 hexS l ByteArray.empty k hlt)
      have HK := Lib.hid hkl
      have hgs := hb.lt
      clear hb hb2 hcell hkl
      generalize l.getD k 0 = x at *
      go_wp2_with fail
      refine (fmt16_is wr (E.below HB2.out) x hx.1 (by omega)).mono ?_
      rintro e w1 ⟨rfl, hB1⟩
      have hblk := HB.out.below hB1 hgs
      have hc1 := hblk.cell k
      rw [strV_get _ _ _ k HK.out] at hc1
      have hf1 := hblk.frozen k
      have hset := hblk.set_ k (.string (hexS x))
      rw [strV_set _ _ _ _ k HK.out, HX.out, ← HF.out] at hset
      have HS := Lib.hid hset
      have HB3 := Lib.hid ((HB2.out.trans (hB1.mono HB2.out.size)).setCell (p := ⟨w.heap.size, k, none⟩) (Nat.le_refl _) (.string (hexS x)))
      clear hblk hset hB1
      go_wp2
      refine ⟨⟨k + 1, by omega, by go_num, ?_, HB3.out⟩, by simp [intOf]; omega⟩
      rw [HX.out]
      exact HS.out
    · obtain rfl : k = l.length := by omega
      rw [List.take_length, Nat.sub_self, List.replicate_zero, List.append_nil] at hb
      have HB := Lib.hid hb
      have HB2 := Lib.hid hb2
      clear hb hb2
      go_wp2_with fail
      have hj := join_blk wr w.heap.size (l.map hexS) l.length ⟨#[58]⟩ 20 HB.out (by simp; omega) (by simp) (by
        intro x hx
        obtain ⟨y, hy, rfl⟩ := List.mem_map.1 hx
        exact Nat.le_trans (hexS_size y) (by omega)) (by omega) (by decide)
      rw [List.length_map] at hj
      refine hj.mono ?_
      rintro e w1 ⟨rfl, hB1⟩
      have HB1 := Lib.hid hB1
      clear hB1 hj
      go_wp2
      go_ret
      exact ⟨rfl, HB2.out.trans (HB1.out.mono HB2.out.size)⟩
end Go.Proofs.YtkaimdcepnhkdaaDoor
