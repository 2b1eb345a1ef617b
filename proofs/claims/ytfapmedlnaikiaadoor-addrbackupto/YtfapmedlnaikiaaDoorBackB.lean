/-
  AddrBack: mathematics: names, numbers and groups there and back.
-/
import Derived.Test.YtfapmedlnaikiaaDoorBackA
import Derived.Test.YtfapmedlnaikiaaDoorCarF
namespace Go.Proofs.YtfapmedlnaikiaaDoor
open Go.RowKit
set_option linter.unusedSimpArgs false
set_option linter.unusedVariables false

theorem hexD_hexI (d : Int) (h0 : 0 ≤ d) (h1 : d < 16) : hexD (hexI d) = some d := by
  unfold hexI
  split
  · unfold hexD
    rw [if_pos (by omega)]
    congr 1; omega
  · unfold hexD
    rw [if_neg (by omega), if_pos (by omega)]
    congr 1; omega
theorem hexI_in (d : Int) (h0 : 0 ≤ d) (h1 : d < 16) : 0 ≤ hexI d ∧ hexI d < 256 := by
  unfold hexI
  split <;> omega
theorem prK_len3 (l : List Int) : ∀ k, (prK l (k + 1)).length + 1 = 3 * (k + 1)
  | 0 => by simp [prK]
  | k + 1 => by
    have ih := prK_len3 l k
    conv => lhs; unfold prK
    rw [if_pos (by omega)]
    simp only [List.length_append, List.length_cons, List.length_nil]
    omega
theorem prK_at (l : List Int) : ∀ k i, i < k → (prK l k)[3 * i]? = some (hexI (l.getD i 0 / 16)) ∧ (prK l k)[3 * i + 1]? = some (hexI (l.getD i 0 % 16)) ∧ (0 < i → (prK l k)[3 * i - 1]? = some 58)
  | 0, i, h => by omega
  | 1, i, h => by
    obtain rfl : i = 0 := by omega
    simp [prK]
  | k + 2, i, h => by
    have hlen := prK_len3 l k
    have e : prK l (k + 2) = prK l (k + 1) ++ [58, hexI (l.getD (k + 1) 0 / 16), hexI (l.getD (k + 1) 0 % 16)] := by
      conv => lhs; unfold prK
      rw [if_pos (by omega)]
      simp
    rw [e]
    by_cases hi : i < k + 1
    · obtain ⟨h1, h2, h3⟩ := prK_at l (k + 1) i hi
      rw [List.getElem?_append_left (by omega), List.getElem?_append_left (by omega)]
      refine ⟨h1, h2, fun h0 => ?_⟩
      rw [List.getElem?_append_left (by omega)]
      exact h3 h0
    · obtain rfl : i = k + 1 := by omega
      rw [List.getElem?_append_right (by omega), List.getElem?_append_right (by omega)]
      refine ⟨?_, ?_, fun h0 => ?_⟩
      · rw [show 3 * (k + 1) - (prK l (k + 1)).length = 1 by omega]; rfl
      · rw [show 3 * (k + 1) + 1 - (prK l (k + 1)).length = 2 by omega]; rfl
      · rw [List.getElem?_append_right (by omega), show 3 * (k + 1) - 1 - (prK l (k + 1)).length = 0 by omega]; rfl
theorem at8_str (ks : List Int) (i : Nat) (x : Int) (h : ks[i]? = some x) (hx : 0 ≤ x ∧ x < 256) : at8 (strOfNums ks) i = x := by
  unfold at8
  rw [strOfNums_data, List.getD_eq_getElem?_getD, List.getElem?_map, h]
  simp
  omega
theorem pr_back (l : List Int) (n : Nat) (hn : 1 ≤ n) (hl : l.length = n) (ho : Oct l) : prs (strOfNums (prK l n)) n = some l := by
  have hsz : (strOfNums (prK l n)).size + 1 = 3 * n := by
    rw [strOfNums_size]
    have := prK_len3 l (n - 1)
    rwa [show n - 1 + 1 = n by omega] at this
  unfold prs
  rw [if_pos hsz]
  have hp : ∀ i, i < n → pairAt (strOfNums (prK l n)) i = some (l.getD i 0) := by
    intro i hi
    obtain ⟨h1, h2, h3⟩ := prK_at l n i hi
    have hb := ho.getD i
    have d1 := hexI_in (l.getD i 0 / 16) (by omega) (by omega)
    have d2 := hexI_in (l.getD i 0 % 16) (by omega) (by omega)
    unfold pairAt
    rw [if_neg ?_, at8_str _ _ _ h1 d1, at8_str _ _ _ h2 d2, hexD_hexI _ (by omega) (by omega), hexD_hexI _ (by omega) (by omega)]
    · show some (16 * (l.getD i 0 / 16) + l.getD i 0 % 16) = _
      congr 1; omega
    · rintro ⟨h0, hne⟩
      exact hne (at8_str _ _ _ (h3 h0) (by omega))
  have hk : ∀ k, k ≤ n → prTo (strOfNums (prK l n)) k = some (l.take k) := by
    intro k
    induction k with
    | zero => intro _; simp [prTo]
    | succ k ih =>
      intro hk
      unfold prTo
      rw [ih (by omega), hp k (by omega)]
      have hkl : k < l.length := by omega
      rw [List.take_succ_eq_append_getElem hkl]
      simp [List.getD, hkl]
  rw [hk n (Nat.le_refl _), ← hl, List.take_length]

theorem dec_facts : ∀ n : Nat, Lib.decDigits n ≠ [] ∧ (Lib.decDigits n).all isDig = true ∧ decN (Lib.decDigits n) = n ∧ (1 ≤ n → (Lib.decDigits n).head? ≠ some 48) ∧ (n < 10 → (Lib.decDigits n).length = 1) := by
  intro n
  induction n using Nat.strongRecOn with
  | ind n ih =>
    by_cases h : n < 10
    · have e := Lib.decDigits_one h
      have ht : (UInt8.ofNat (48 + n)).toNat = 48 + n := by simp; omega
      rw [e]
      refine ⟨by simp, ?_, ?_, ?_, fun _ => rfl⟩
      · simp only [List.all_cons, List.all_nil, Bool.and_true]
        exact (isDig_iff _).2 (by rw [ht]; omega)
      · unfold decN
        simp only [List.foldl_cons, List.foldl_nil]
        rw [ht]; omega
      · intro h1 h2
        have := Option.some.inj h2
        have h3 : (UInt8.ofNat (48 + n)).toNat = 48 := by rw [this]; rfl
        omega
    · have e : Lib.decDigits n = Lib.decDigits (n / 10) ++ [UInt8.ofNat (48 + n % 10)] := by
        rw [Lib.decDigits, dif_neg h]
      have ht : (UInt8.ofNat (48 + n % 10)).toNat = 48 + n % 10 := by simp; omega
      obtain ⟨i1, i2, i3, i4, _⟩ := ih (n / 10) (by omega)
      rw [e]
      refine ⟨by simp, ?_, ?_, ?_, fun hh => by omega⟩
      · rw [List.all_append, i2]
        simp only [List.all_cons, List.all_nil, Bool.and_true, Bool.true_and]
        exact (isDig_iff _).2 (by rw [ht]; omega)
      · rw [decN_snoc, i3, ht]
        omega
      · intro _
        have hh := i4 (by omega)
        cases hd : Lib.decDigits (n / 10) with
        | nil => exact absurd hd i1
        | cons x r => rw [hd] at hh; exact hh
theorem dec_digits (n m : Int) (h0 : 0 ≤ n) (h1 : n ≤ m) : digits (decS n).data.toList m = some n := by
  obtain ⟨f1, f2, f3, f4, f5⟩ := dec_facts n.toNat
  have e : (decS n).data.toList = Lib.decDigits n.toNat := rfl
  rw [e]
  have hN : decN (Lib.decDigits n.toNat) = n := by rw [f3]; omega
  have hb : bad0 (Lib.decDigits n.toNat) = false := by
    unfold bad0
    have h2 : (Lib.decDigits n.toNat).isEmpty = false := by simpa using f1
    rw [h2, Bool.false_or, Bool.and_eq_false_iff]
    by_cases h : n.toNat < 10
    · right; rw [f5 h]; rfl
    · left
      have := f4 (by omega)
      simpa using this
  have := digits_ok _ m hb f2 (by rw [hN]; exact h1)
  rw [this, hN]
theorem dec_nodot (n : Int) (c : UInt8) (hc : isDig c = false) : c ∉ (decS n).data.toList := by
  obtain ⟨f1, f2, _⟩ := dec_facts n.toNat
  intro h
  have := List.all_eq_true.1 f2 c h
  rw [hc] at this
  cases this
/-- Four numbers there and back. -/
theorem four_back (ds : List Int) (hl : ds.length = 4) (ho : Oct ds) : un (fourS ds).data.toList = some ds := by
  match ds, hl with
  | [d0, d1, d2, d3], _ =>
    have o0 := ho d0 (by simp)
    have o1 := ho d1 (by simp)
    have o2 := ho d2 (by simp)
    have o3 := ho d3 (by simp)
    have e : (fourS [d0, d1, d2, d3]).data.toList = (decS d0).data.toList ++ 46 :: ((decS d1).data.toList ++ 46 :: ((decS d2).data.toList ++ 46 :: (decS d3).data.toList)) := by
      unfold fourS joinS
      simp [Lib.join_cons, Lib.joinTail]
    rw [e]
    unfold un
    rw [fields_cut _ _ (dec_nodot d0 46 isDig_46), fields_cut _ _ (dec_nodot d1 46 isDig_46), fields_cut _ _ (dec_nodot d2 46 isDig_46), fields_end _ (dec_nodot d3 46 isDig_46)]
    rw [if_pos (by simp)]
    simp [List.mapM_cons, dec_digits d0 255 (by omega) (by omega), dec_digits d1 255 (by omega) (by omega), dec_digits d2 255 (by omega) (by omega), dec_digits d3 255 (by omega) (by omega)]
theorem four_dot (ds : List Int) (hl : ds.length = 4) : dotB (fourS ds) = true := by
  match ds, hl with
  | [d0, d1, d2, d3], _ =>
    rw [dotB_iff]
    unfold fourS joinS
    simp [Lib.join_cons, Lib.joinTail]
theorem four_rd (l : List Int) (hl : l.length = 16) (ho : Oct l) (h : l.drop 4 = List.replicate 12 0) : rdIp (fourS (l.take 4)) = some (false, l) := by
  unfold rdIp
  have hl4 : (l.take 4).length = 4 := by simp; omega
  rw [four_dot _ hl4, octs_un, four_back _ hl4 (fun x hx => ho x (List.mem_of_mem_take hx))]
  simp only [if_pos, Option.map_some]
  rw [← h, List.take_append_drop]
end Go.Proofs.YtfapmedlnaikiaaDoor
