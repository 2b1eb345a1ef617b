/-
  Layer 2 (addr): contracts of Digits, hexValue.
-/
import Derived.Test.YtkaimdcepnhkdaaDoorAdM
import Derived.Test.YtkaimdcepnhkdaaDoorProg
import Derived.Test.YtkaimdcepnhkdaaDoorWords
import Derived.Outline
import Derived.BigQuiet
import Derived.WalkLawsBesides
namespace Go.Proofs.YtkaimdcepnhkdaaDoor
open Go.RowKit
set_option linter.unusedSimpArgs false
set_option linter.unusedVariables false

def digV (o : Option Int) : Value := .tuple #[.int .u64 (o.getD 0), .bool o.isSome]
def Digs (w : World) (o : Option Int) (e : Ending) (w' : World) : Prop := e = .returned (digV o) ∧ w = w'

theorem str_len (s : ByteArray) : s.data.toList.length = s.size := by rw [Array.length_toList]; rfl
theorem take_snoc (s : ByteArray) (k : Nat) (h : k < s.size) : s.data.toList.take (k + 1) = s.data.toList.take k ++ [s[k]] := by
  rw [List.take_succ_eq_append_getElem (by simpa using h)]; rfl
theorem str_get (s : ByteArray) (k : Nat) (h : k < s.size) : s.data.toList[k]'(by simpa using h) = s[k] := rfl
theorem bad0_empty (s : ByteArray) (h : s.size = 0) : bad0 s.data.toList = true := by
  have : s.data.toList = [] := List.eq_nil_of_length_eq_zero (by rw [str_len]; exact h)
  rw [this]; rfl
theorem bad0_eq (s : ByteArray) (h : 0 < s.size) : bad0 s.data.toList = ((s[0].toNat : Int) == 48 && decide (1 < (s.size : Int))) := by
  have hl := str_len s
  have h0 := str_get s 0 h
  unfold bad0
  cases hd : s.data.toList with
  | nil => rw [hd] at hl; simp at hl; omega
  | cons c r =>
    have hc : c = s[0] := by rw [← h0]; simp [hd]
    rw [hd] at hl
    simp only [List.isEmpty_cons, Bool.false_or, List.head?_cons, hl]
    congr 1
    · rw [← hc, Bool.eq_iff_iff]
      simp
      constructor
      · rintro rfl; rfl
      · intro e; exact UInt8.toNat_inj.1 (by show c.toNat = 48; omega)
    · rw [Bool.eq_iff_iff]; simp; omega
theorem toList_isEmpty (s : ByteArray) (h : 0 < s.size) : s.toList.isEmpty = false := by
  rw [ByteArray.toList_eq, List.isEmpty_eq_false_iff]
  intro e
  have := str_len s
  rw [e] at this
  simp at this
  omega
theorem toList_ne (s : ByteArray) (h : 0 < s.size) : ¬ s.toList = [] := by
  have := toList_isEmpty s h
  intro e
  rw [e] at this
  cases this

set_option maxHeartbeats 1000000 in
theorem digits_none (w : World) (s : ByteArray) (most : Int) (h : s.size = 0) :
    Calls Tryd.prog 83 #[.string s, .int .u64 most] w (Digs w (digits s.data.toList most)) := by
  have H := Lib.hid (digits_bad s.data.toList most (bad0_empty s h))
  have he : s.toList = [] := by rw [ByteArray.toList_eq]; exact List.eq_nil_of_length_eq_zero (by rw [str_len]; exact h)
  clear h
  go_enter Tryd.func83, Tryd.ntmps83
  go_wp2
  go_ret2
  exact ⟨by rw [H.out]; rfl, rfl⟩
set_option maxHeartbeats 1000000 in
theorem digits_zero (w : World) (s : ByteArray) (most : Int) (h : 0 < s.size) (h0 : ((s[0].toNat : Int) == 48) = true) (h1 : decide (1 < (s.size : Int)) = true) :
    Calls Tryd.prog 83 #[.string s, .int .u64 most] w (Digs w (digits s.data.toList most)) := by
  have H := Lib.hid (digits_bad s.data.toList most (by rw [bad0_eq s h, h0, h1]; rfl))
  have he := toList_isEmpty s h
  have hn := toList_ne s h
  go_enter Tryd.func83, Tryd.ntmps83
  go_wp2
  go_ret2
  exact ⟨by rw [H.out]; rfl, rfl⟩
set_option maxHeartbeats 1000000 in
theorem digits_go (w : World) (s : ByteArray) (most : Int) (hs : s.size ≤ 9223372036854775807) (h0 : 0 ≤ most) (h1 : most < 18446744073709551616) (h : 0 < s.size) (hb : bad0 s.data.toList = false) :
    Calls Tryd.prog 83 #[.string s, .int .u64 most] w (Digs w (digits s.data.toList most)) := by
  have HB := Lib.hid hb
  have hc : ((s[0].toNat : Int) == 48) = false ∨ (((s[0].toNat : Int) == 48) = true ∧ decide (1 < (s.size : Int)) = false) := by
    rw [bad0_eq s h] at hb
    cases e : ((s[0].toNat : Int) == 48)
    · exact .inl rfl
    · rw [e, Bool.true_and] at hb; exact .inr ⟨rfl, hb⟩
  have he := toList_isEmpty s h
  have hn := toList_ne s h
  have HL := Lib.hid (str_len s)
  clear hb
  rcases hc with hc | ⟨hc, hc2⟩
  all_goals
    go_enter Tryd.func83, Tryd.ntmps83
    go_wp2
    go_loop [6, 7, 8, 23] (fun n _ _ i => ∃ k : Nat, k ≤ s.size ∧ i = .int .i64 k ∧ n = .int .u64 (decN (s.data.toList.take k)) ∧ (s.data.toList.take k).all isDig = true ∧ decN (s.data.toList.take k) ≤ most) (fun _ _ _ i => s.size - (intOf i).toNat)
    case atStart => exact ⟨0, Nat.zero_le _, rfl, rfl, rfl, by simpa [decN] using h0⟩
    case round =>
      obtain ⟨k, hk, rfl, rfl, hall, hle⟩ := hrel
      try clear hc2
      clear hc he hn
      have hnn := decN_nn (s.data.toList.take k) k hall
      rw [List.take_take, Nat.min_self] at hnn
      have HA := Lib.hid hall
      clear hall
      by_cases hlt : k < s.size
      · have HS := Lib.hid (take_snoc s k hlt)
        have HG := Lib.hid (str_get s k hlt)
        by_cases hd : 48 ≤ (s[k].toNat : Int) ∧ (s[k].toNat : Int) ≤ 57
        · obtain ⟨hd1, hd2⟩ := hd
          have HD := Lib.hid (decN_snoc (s.data.toList.take k) s[k])
          have HI := Lib.hid ((isDig_iff s[k]).2 ⟨hd1, hd2⟩)
          have HN : Hid (10 * decN (s.data.toList.take k) + ((s[k].toNat : Int) - 48) = decN (s.data.toList.take (k + 1))) := Lib.hid (by rw [HS.out, HD.out])
          have HA2 : Hid ((s.data.toList.take (k + 1)).all isDig = true) := Lib.hid (by rw [HS.out, List.all_append, HA.out]; simp [HI.out])
          have HBig := Lib.hid (fun hx => digits_big s.data.toList most (k + 1) hx)
          generalize hN1 : decN (s.data.toList.take (k + 1)) = n1 at *
          have HN1 := Lib.hid hN1
          clear hN1
          generalize decN (s.data.toList.take k) = n at *
          clear HD HI HS HG HA
          by_cases hm : 10 * n + ((s[k].toNat : Int) - 48) ≤ most
          · have hq1 : (s[k].toNat : Int) - 48 ≤ most := by omega
            have hq2 : n ≤ (most - ((s[k].toNat : Int) - 48)) / 10 := by omega
            go_wp2
            exact ⟨⟨k + 1, by omega, by go_num, by rw [HN1.out, HN.out], HA2.out, by rw [HN1.out, ← HN.out]; exact hm⟩, by simp [intOf]; omega⟩
          · have hm' : most < 10 * n + ((s[k].toNat : Int) - 48) := by omega
            go_wp2
            all_goals
              go_ret2
              exact ⟨by rw [HBig.out (by rw [← HN.out]; exact hm')]; rfl, rfl⟩
        · have HI := Lib.hid (digits_nd s.data.toList most k (by rw [HL.out]; exact hlt) (by
            rw [HG.out]
            cases h : isDig s[k]
            · rfl
            · exact absurd ((isDig_iff s[k]).1 h) hd))
          clear HA HS HG
          have hd' : (s[k].toNat : Int) < 48 ∨ 57 < (s[k].toNat : Int) := by omega
          clear hd
          rcases hd' with hd | hd
          · go_wp2
            go_ret2
            exact ⟨by rw [HI.out]; rfl, rfl⟩
          · have hd2 : ¬ (s[k].toNat : Int) < 48 := by omega
            go_wp2
            go_ret2
            exact ⟨by rw [HI.out]; rfl, rfl⟩
      · obtain rfl : k = s.size := by omega
        have ht : s.data.toList.take s.size = s.data.toList := by rw [← HL.out, List.take_length]
        have ha2 := HA.out
        rw [ht] at ha2 hle ⊢
        have HF := Lib.hid (digits_ok s.data.toList most HB.out ha2 hle)
        clear HA ht ha2
        go_wp2
        go_ret2
        exact ⟨by rw [HF.out]; rfl, rfl⟩

theorem digits_is (w : World) (s : ByteArray) (most : Int) (hs : s.size ≤ 9223372036854775807) (h0 : 0 ≤ most) (h1 : most < 18446744073709551616) :
    Calls Tryd.prog 83 #[.string s, .int .u64 most] w (Digs w (digits s.data.toList most)) := by
  rcases Nat.eq_zero_or_pos s.size with h | h
  · exact digits_none w s most h
  · cases hb : bad0 s.data.toList
    · exact digits_go w s most hs h0 h1 h hb
    · rw [bad0_eq s h, Bool.and_eq_true] at hb
      exact digits_zero w s most h hb.1 hb.2

/-- A hexadecimal digit. -/
def hexD (c : Int) : Option Int := if 48 ≤ c ∧ c ≤ 57 then some (c - 48) else if 97 ≤ c ∧ c ≤ 102 then some (c - 87) else if 65 ≤ c ∧ c ≤ 70 then some (c - 55) else none
def hexV (o : Option Int) : Value := .tuple #[.int .u8 (o.getD 0), .bool o.isSome]
theorem hexD_bd {c x : Int} (h : hexD c = some x) : 0 ≤ x ∧ x < 16 := by
  unfold hexD at h
  split at h
  · cases h; omega
  · split at h
    · cases h; omega
    · split at h
      · cases h; omega
      · cases h
set_option maxHeartbeats 1000000 in
theorem hex_is (w : World) (c : Int) (h0 : 0 ≤ c) (h1 : c < 256) :
    Calls Tryd.prog 173 #[.int .u8 c] w fun e w' => e = .returned (hexV (hexD c)) ∧ w = w' := by
  have hcases : (48 ≤ c ∧ c ≤ 57 ∧ hexD c = some (c - 48)) ∨ (97 ≤ c ∧ c ≤ 102 ∧ hexD c = some (c - 87)) ∨ (65 ≤ c ∧ c ≤ 70 ∧ hexD c = some (c - 55)) ∨ (¬ (48 ≤ c ∧ c ≤ 57) ∧ ¬ (97 ≤ c ∧ c ≤ 102) ∧ ¬ (65 ≤ c ∧ c ≤ 70) ∧ hexD c = none) := by
    unfold hexD
    by_cases a : 48 ≤ c ∧ c ≤ 57
    · exact .inl ⟨a.1, a.2, if_pos a⟩
    · rw [if_neg a]
      by_cases b : 97 ≤ c ∧ c ≤ 102
      · exact .inr (.inl ⟨b.1, b.2, if_pos b⟩)
      · rw [if_neg b]
        by_cases d : 65 ≤ c ∧ c ≤ 70
        · exact .inr (.inr (.inl ⟨d.1, d.2, if_pos d⟩))
        · exact .inr (.inr (.inr ⟨a, b, d, if_neg d⟩))
  rcases hcases with ⟨a, b, h⟩ | ⟨a, b, h⟩ | ⟨a, b, h⟩ | ⟨a, b, d, h⟩
  · have H := Lib.hid h
    clear h
    go_enter Tryd.func173, Tryd.ntmps173
    go_wp2
    go_ret2
    exact ⟨by rw [H.out]; rfl, rfl⟩
  · have H := Lib.hid h
    have n1 : ¬ c ≤ 57 := by omega
    clear h
    go_enter Tryd.func173, Tryd.ntmps173
    go_wp2
    go_ret2
    exact ⟨by rw [H.out]; show _ = Ending.returned (.tuple #[.int .u8 (c - 87), .bool true]); rw [show c - 87 = c - 97 + 10 by omega]; rfl, rfl⟩
  · have H := Lib.hid h
    have n1 : ¬ c ≤ 57 := by omega
    have n2 : ¬ 97 ≤ c := by omega
    clear h
    go_enter Tryd.func173, Tryd.ntmps173
    go_wp2
    go_ret2
    exact ⟨by rw [H.out]; show _ = Ending.returned (.tuple #[.int .u8 (c - 55), .bool true]); rw [show c - 55 = c - 65 + 10 by omega]; rfl, rfl⟩
  · have H := Lib.hid h
    clear h
    go_enter Tryd.func173, Tryd.ntmps173
    go_wp2
    all_goals first | (exfalso; omega) | skip
    all_goals
      go_ret2
      exact ⟨by rw [H.out]; rfl, rfl⟩
end Go.Proofs.YtkaimdcepnhkdaaDoor
