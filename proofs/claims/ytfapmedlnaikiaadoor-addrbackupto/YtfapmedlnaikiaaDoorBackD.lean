/-
  AddrBack: mathematics: addresses and prefixes there and back; how long an address's text is.
-/
import Derived.Test.YtfapmedlnaikiaaDoorBackC
import Derived.Test.YtfapmedlnaikiaaDoorAdS
namespace Go.Proofs.YtfapmedlnaikiaaDoor
open Go.RowKit
set_option linter.unusedSimpArgs false
set_option linter.unusedVariables false

theorem six_no (l : List Int) (c : UInt8) (hc : c.toNat = 46 ∨ c.toNat = 47) : c ∉ (sixS l).data.toList := by
  have h58 : c ≠ 58 := by rintro rfl; rcases hc with h | h <;> exact absurd h (by decide)
  have hg : ∀ gs : List Int, c ∉ (groupsS gs).data.toList := by
    intro gs
    rw [groups_data]
    refine join_no c h58 _ ?_
    intro x hx'
    obtain ⟨y, _, rfl⟩ := List.mem_map.1 hx'
    exact hx_no y c (by omega)
  unfold sixS
  split
  · exact hg _
  · intro h
    simp only [ByteArray.data_append, Array.toList_append, List.mem_append] at h
    rcases h with (h | h) | h
    · exact hg _ h
    · simp at h; exact h58 h
    · exact hg _ h
theorem ip_back (v : Bool) (l : List Int) (hl : l.length = 16) (ho : Oct l) (h : rightB v l = true) : rdIp (ipS v l) = some (v, l) := by
  cases v with
  | false => exact four_rd l hl ho (by simpa [rightB] using h)
  | true =>
    show rdIp (sixS l) = _
    unfold rdIp
    have hd : dotB (sixS l) = false := by
      cases hq : dotB (sixS l)
      · rfl
      · exact absurd ((dotB_iff _).1 hq) (six_no l 46 (.inl rfl))
    rw [hd, six_back l hl ho]
    rfl
theorem isDig_47 : isDig 47 = false := by decide
theorem four_no (ds : List Int) (hl : ds.length = 4) : (47 : UInt8) ∉ (fourS ds).data.toList := by
  match ds, hl with
  | [d0, d1, d2, d3], _ =>
    have h0 := dec_nodot d0 47 isDig_47
    have h1 := dec_nodot d1 47 isDig_47
    have h2 := dec_nodot d2 47 isDig_47
    have h3 := dec_nodot d3 47 isDig_47
    have e : (fourS [d0, d1, d2, d3]).data.toList = (decS d0).data.toList ++ 46 :: ((decS d1).data.toList ++ 46 :: ((decS d2).data.toList ++ 46 :: (decS d3).data.toList)) := by
      unfold fourS joinS
      simp [Lib.join_cons, Lib.joinTail]
    rw [e]
    intro h
    simp only [List.mem_append, List.mem_cons] at h
    rcases h with h | h | h | h | h | h | h
    · exact h0 h
    · exact absurd h (by decide)
    · exact h1 h
    · exact absurd h (by decide)
    · exact h2 h
    · exact absurd h (by decide)
    · exact h3 h
theorem ip_no (v : Bool) (l : List Int) (hl : l.length = 16) : (47 : UInt8) ∉ (ipS v l).data.toList := by
  cases v with
  | false => exact four_no (l.take 4) (by simp; omega)
  | true => exact six_no l 47 (.inr rfl)
theorem rightPf_bits {v : Bool} {l : List Int} {n : Int} (h : rightPfB v l n = true) : rightB v l = true ∧ 0 ≤ n ∧ n ≤ bitsOf v := by
  unfold rightPfB hasB cutB at h
  simp only [Bool.and_eq_true, decide_eq_true_eq] at h
  exact ⟨h.1.1, h.1.2.1, h.1.2.2⟩
theorem pf_back (v : Bool) (l : List Int) (n : Int) (hl : l.length = 16) (ho : Oct l) (h : rightPfB v l n = true) : rdPf (pfS v l n) = some (v, l, n) := by
  obtain ⟨h1, h2, h3⟩ := rightPf_bits h
  have hd : (pfS v l n).data.toList = (ipS v l).data.toList ++ 47 :: (decS n).data.toList := by unfold pfS; simp
  have hi : Lib.index (pfS v l n).data.toList [47] = (ipS v l).data.toList.length := by rw [hd, index_at 47 _ _ (ip_no v l hl)]
  unfold rdPf
  have e1 : (cutS (pfS v l n) [47]).1 = ipS v l := by
    apply ext_list
    unfold cutS Lib.cut
    rw [hi, if_pos (by omega), hd]
    simp
  have e2 : (cutS (pfS v l n) [47]).2.1.data.toList = (decS n).data.toList := by
    unfold cutS Lib.cut
    rw [hi, if_pos (by omega), hd]
    simp [List.drop_append]
  rw [e1, e2, ip_back v l hl ho h1]
  unfold pf2
  simp only []
  rw [dec_digits n (bitsOf v) h2 h3]
  simp only []
  rw [if_pos h]
theorem dec_len (n : Int) (h0 : 0 ≤ n) (h1 : n < 1000) : (decS n).data.toList.length ≤ 3 := by
  show (Lib.decDigits n.toNat).length ≤ 3
  by_cases a : n.toNat < 10
  · rw [Lib.decDigits_one a]; simp
  · by_cases b : n.toNat < 100
    · rw [Lib.decDigits_two a b]; simp
    · rw [Lib.decDigits, dif_neg a, List.length_append]
      by_cases c : n.toNat / 10 < 10
      · rw [Lib.decDigits_one c]; simp
      · rw [Lib.decDigits_two c (by omega)]; simp
theorem join_len (m : Nat) : ∀ (xs : List (List UInt8)), (∀ x ∈ xs, x.length ≤ m) → (Lib.join xs [58]).length ≤ (m + 1) * xs.length ∧ (xs ≠ [] → (Lib.join xs [58]).length + 1 ≤ (m + 1) * xs.length)
  | [], _ => by rw [Lib.join_nil]; simp
  | [x], h => by
    have := h x (by simp)
    rw [join_one']
    simp
    omega
  | x :: y :: r, h => by
    have hx := h x (by simp)
    have ih := (join_len m (y :: r) (fun z hz => h z (List.mem_cons_of_mem _ hz))).2 (by simp)
    rw [join_two, List.length_append, List.length_cons, List.length_cons, Nat.mul_succ]
    refine ⟨by omega, fun _ => by omega⟩
theorem groups_len (gs : List Int) : (groupsS gs).size ≤ 5 * gs.length ∧ (gs ≠ [] → (groupsS gs).size + 1 ≤ 5 * gs.length) := by
  have h := join_len 4 (gs.map hx) (fun x hx' => by obtain ⟨y, _, rfl⟩ := List.mem_map.1 hx'; exact (hx_len y).2)
  rw [← groups_data, str_len, List.length_map] at h
  refine ⟨h.1, fun hne => h.2 (by simpa using hne)⟩
theorem ip_len (v : Bool) (l : List Int) (hl : l.length = 16) (ho : Oct l) : (ipS v l).size ≤ 39 := by
  cases v with
  | false =>
    show (fourS (l.take 4)).size ≤ 39
    have hl4 : (l.take 4).length = 4 := by simp; omega
    have ho4 : Oct (l.take 4) := fun x hx => ho x (List.mem_of_mem_take hx)
    generalize l.take 4 = ds at *
    match ds, hl4 with
    | [d0, d1, d2, d3], _ =>
      have o0 := ho4 d0 (by simp)
      have o1 := ho4 d1 (by simp)
      have o2 := ho4 d2 (by simp)
      have o3 := ho4 d3 (by simp)
      have e : (fourS [d0, d1, d2, d3]).data.toList = (decS d0).data.toList ++ 46 :: ((decS d1).data.toList ++ 46 :: ((decS d2).data.toList ++ 46 :: (decS d3).data.toList)) := by
        unfold fourS joinS
        simp [Lib.join_cons, Lib.joinTail]
      rw [← str_len, e]
      have a0 := dec_len d0 (by omega) (by omega)
      have a1 := dec_len d1 (by omega) (by omega)
      have a2 := dec_len d2 (by omega) (by omega)
      have a3 := dec_len d3 (by omega) (by omega)
      simp only [List.length_append, List.length_cons]
      omega
  | true =>
    show (sixS l).size ≤ 39
    have hg8 := grp_len l
    have hle := lz_le (grp l) 8 (by omega)
    unfold sixS
    generalize lzTo (grp l) 8 = p at *
    obtain ⟨at_, n⟩ := p
    generalize grp l = g at *
    simp only at hle ⊢
    split
    · have := (groups_len g).2 (by intro e; rw [e] at hg8; simp at hg8)
      omega
    · have h1 := (groups_len (g.take at_)).1
      have h2 := (groups_len (g.drop (at_ + n))).1
      have l1 : (g.take at_).length = at_ := by simp; omega
      have l2 : (g.drop (at_ + n)).length = 8 - (at_ + n) := by simp; omega
      rw [l1] at h1
      rw [l2] at h2
      rw [ByteArray.size_append, ByteArray.size_append]
      have h3 : (⟨#[58, 58]⟩ : ByteArray).size = 2 := rfl
      omega
end Go.Proofs.YtfapmedlnaikiaaDoor
