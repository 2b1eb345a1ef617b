/-
  AddrBack: mathematics: an address of sixteen bytes there and back.
-/
import Derived.Test.YtfapmedlnaikiaaDoorBackB
namespace Go.Proofs.YtfapmedlnaikiaaDoor
open Go.RowKit
set_option linter.unusedSimpArgs false
set_option linter.unusedVariables false

/-- What stands between the c's. -/
def fld (c : UInt8) : List UInt8 → List (List UInt8)
  | [] => [[]]
  | x :: l => if x = c then [] :: fld c l else match fld c l with
    | f :: fs => (x :: f) :: fs
    | [] => [[x]]
theorem fld_cut (c : UInt8) : ∀ (a b : List UInt8), c ∉ a → fld c (a ++ c :: b) = a :: fld c b
  | [], b, _ => by simp [fld]
  | x :: a, b, h => by
    have hx : ¬ x = c := fun e => h (by rw [e]; exact List.mem_cons_self)
    have ih := fld_cut c a b (fun hm => h (List.mem_cons_of_mem _ hm))
    show fld c (x :: (a ++ c :: b)) = _
    conv => lhs; unfold fld
    rw [if_neg hx, ih]
theorem fld_end (c : UInt8) : ∀ (a : List UInt8), c ∉ a → fld c a = [a]
  | [], _ => rfl
  | x :: a, h => by
    have hx : ¬ x = c := fun e => h (by rw [e]; exact List.mem_cons_self)
    have ih := fld_end c a (fun hm => h (List.mem_cons_of_mem _ hm))
    unfold fld
    rw [if_neg hx, ih]
theorem fld_pos (c : UInt8) (l : List UInt8) : 1 ≤ (fld c l).length := by
  rcases parts_or c l with h | ⟨a, b, rfl, h⟩
  · rw [fld_end c l h]; simp
  · rw [fld_cut c a b h]; simp
theorem fld_le (c : UInt8) : ∀ (l : List UInt8), (fld c l).length ≤ l.length + 1
  | [] => by simp [fld]
  | x :: l => by
    have ih := fld_le c l
    have hp := fld_pos c l
    unfold fld
    split
    · simp; omega
    · cases hf : fld c l with
      | nil => rw [hf] at hp; simp at hp
      | cons f fs => rw [hf] at ih; simp at ih ⊢; omega
theorem split_fld (c : UInt8) : ∀ (k : Nat) (l : List UInt8), (fld c l).length ≤ k + 1 → Lib.splitK [c] 0 k l = fld c l
  | 0, l, h => by
    rcases parts_or c l with hn | ⟨a, b, rfl, hn⟩
    · rw [fld_end c l hn]; rfl
    · rw [fld_cut c a b hn, List.length_cons] at h
      have := fld_pos c b
      omega
  | k + 1, l, h => by
    rcases parts_or c l with hn | ⟨a, b, rfl, hn⟩
    · rw [fld_end c l hn]
      unfold Lib.splitK
      rw [index_no c l hn]
      simp
    · rw [fld_cut c a b hn, List.length_cons] at h
      have ih := split_fld c k b (by omega)
      conv => lhs; unfold Lib.splitK
      rw [index_at c a b hn]
      have hne : ((a.length : Int) == -1) = false := by rw [beq_eq_false_iff_ne]; omega
      rw [hne]
      have h1 : (a ++ c :: b).take ((a.length : Int).toNat + 0) = a := by simp
      have h2 : (a ++ c :: b).drop ((a.length : Int).toNat + [c].length) = b := by
        rw [show (a.length : Int).toNat + [c].length = a.length + 1 by simp]
        simp [List.drop_append]
      rw [h1, h2, fld_cut c a b hn, ih]
      simp
theorem join_two (c : UInt8) (x y : List UInt8) (r : List (List UInt8)) : Lib.join (x :: y :: r) [c] = x ++ c :: Lib.join (y :: r) [c] := by
  simp [Lib.join_cons, Lib.joinTail]
theorem join_one' (c : UInt8) (x : List UInt8) : Lib.join [x] [c] = x := Lib.join_one x [c]
theorem fld_join (c : UInt8) : ∀ (xs : List (List UInt8)), xs ≠ [] → (∀ x ∈ xs, c ∉ x) → fld c (Lib.join xs [c]) = xs
  | [], h, _ => absurd rfl h
  | [x], _, h => by rw [join_one']; exact fld_end c x (h x (by simp))
  | x :: y :: r, _, h => by
    rw [join_two, fld_cut c _ _ (h x (by simp)), fld_join c (y :: r) (by simp) (fun z hz => h z (List.mem_cons_of_mem _ hz))]
/-- A group's text. -/
def hx (g : Int) : List UInt8 := (hexS g).data.toList
theorem hexb (d : Int) (h0 : 0 ≤ d) (h1 : d < 16) : hexD (((UInt8.ofNat (hexI d).toNat).toNat : Nat) : Int) = some d := by
  have hb := hexI_in d h0 h1
  have e : (((UInt8.ofNat (hexI d).toNat).toNat : Nat) : Int) = hexI d := by simp; omega
  rw [e, hexD_hexI d h0 h1]
theorem hx_eq (g : Int) : hx g = (lowHex (hexN g) g).map fun n => UInt8.ofNat n.toNat := rfl
theorem hx_len (g : Int) : 1 ≤ (hx g).length ∧ (hx g).length ≤ 4 := by
  rw [hx_eq, List.length_map, lowHex_len]
  unfold hexN
  split
  · omega
  · split
    · omega
    · split <;> omega
theorem hx_back (g : Int) (h0 : 0 ≤ g) (h1 : g < 65536) : rdGroup (hx g) = some g := by
  unfold rdGroup
  rw [if_pos (hx_len g), hx_eq]
  unfold hexN
  split
  · have a := hexb (g / 1 % 16) (by omega) (by omega)
    simp [lowHex, hexTo] at a ⊢
    simp [a]
    omega
  · split
    · have a := hexb (g / 16 % 16) (by omega) (by omega)
      have b := hexb (g % 16) (by omega) (by omega)
      simp [lowHex, hexTo] at a b ⊢
      simp [a, b]
      omega
    · split
      · have a := hexb (g / 256 % 16) (by omega) (by omega)
        have b := hexb (g / 16 % 16) (by omega) (by omega)
        have c := hexb (g % 16) (by omega) (by omega)
        simp [lowHex, hexTo] at a b c ⊢
        simp [a, b, c]
        omega
      · have a := hexb (g / 4096 % 16) (by omega) (by omega)
        have b := hexb (g / 256 % 16) (by omega) (by omega)
        have c := hexb (g / 16 % 16) (by omega) (by omega)
        have d := hexb (g % 16) (by omega) (by omega)
        simp [lowHex, hexTo] at a b c d ⊢
        simp [a, b, c, d]
        omega
theorem lowHex_in : ∀ (k : Nat) (u : Int), ∀ x ∈ lowHex k u, (48 ≤ x ∧ x ≤ 57) ∨ (97 ≤ x ∧ x ≤ 102)
  | 0, u, x, h => by cases h
  | k + 1, u, x, h => by
    unfold lowHex at h
    rcases List.mem_cons.1 h with rfl | h
    · have h0 : 0 ≤ u / 16 ^ k % 16 := by omega
      have h1 : u / 16 ^ k % 16 < 16 := by omega
      generalize u / 16 ^ k % 16 = d at *
      unfold hexI
      split <;> omega
    · exact lowHex_in k u x h
theorem hx_in (g : Int) : ∀ x ∈ hx g, (48 ≤ x.toNat ∧ x.toNat ≤ 57) ∨ (97 ≤ x.toNat ∧ x.toNat ≤ 102) := by
  intro x h
  rw [hx_eq] at h
  obtain ⟨n, hn, rfl⟩ := List.mem_map.1 h
  have := lowHex_in _ _ n hn
  have e : (UInt8.ofNat n.toNat).toNat = n.toNat := by simp; omega
  rw [e]
  omega
theorem hx_no (g : Int) (c : UInt8) (hc : c.toNat = 46 ∨ c.toNat = 47 ∨ c.toNat = 58) : c ∉ hx g := by
  intro h
  have := hx_in g c h
  omega
theorem groups_data (gs : List Int) : (groupsS gs).data.toList = Lib.join (gs.map hx) [58] := by
  unfold groupsS joinS
  simp only [List.map_map]
  rfl
theorem join_no (c : UInt8) (hc : c ≠ 58) : ∀ (xs : List (List UInt8)), (∀ x ∈ xs, c ∉ x) → c ∉ Lib.join xs [58]
  | [], _ => by simp [Lib.join_nil]
  | [x], h => by rw [join_one']; exact h x (by simp)
  | x :: y :: r, h => by
    rw [join_two]
    intro hm
    rcases List.mem_append.1 hm with hm | hm
    · exact h x (by simp) hm
    · rcases List.mem_cons.1 hm with hm | hm
      · exact hc hm
      · exact join_no c hc (y :: r) (fun z hz => h z (List.mem_cons_of_mem _ hz)) hm
theorem groups_back (gs : List Int) (hl : gs.length ≤ 8) (hb : ∀ x ∈ gs, 0 ≤ x ∧ x < 65536) : rdGroups (groupsS gs) = some gs := by
  unfold rdGroups
  cases gs with
  | nil => rw [if_pos (by rfl)]
  | cons g r =>
    have hj := fld_join 58 ((g :: r).map hx) (by simp) (by
      intro x hx'
      obtain ⟨y, _, rfl⟩ := List.mem_map.1 hx'
      exact hx_no y 58 (.inr (.inr rfl)))
    have hsz : (groupsS (g :: r)).size ≠ 0 := by
      have e := groups_data (g :: r)
      intro h0
      have hl0 := str_len (groupsS (g :: r))
      rw [h0, e] at hl0
      have := hx_len g
      rw [List.map_cons, Lib.join_cons, List.length_append] at hl0
      omega
    rw [if_neg hsz]
    have hm : (splitS (groupsS (g :: r)) 58 9).map (·.data.toList) = (g :: r).map hx := by
      unfold splitS
      rw [Lib.splitB_data, groups_data]
      show Lib.splitK [58] 0 _ _ = _
      rw [split_fld 58 _ _ ?_, hj]
      rw [hj, List.length_map]
      have h1 := fld_le 58 (Lib.join ((g :: r).map hx) [58])
      rw [hj, List.length_map, ← groups_data, str_len] at h1
      omega
    have hmm : (splitS (groupsS (g :: r)) 58 9).mapM (fun x => rdGroup x.data.toList) = ((splitS (groupsS (g :: r)) 58 9).map (·.data.toList)).mapM rdGroup := by
      rw [List.mapM_map]
      rfl
    rw [hmm, hm, List.mapM_map]
    have : ∀ ys : List Int, (∀ x ∈ ys, 0 ≤ x ∧ x < 65536) → ys.mapM (fun x => rdGroup (hx x)) = some ys := by
      intro ys
      induction ys with
      | nil => intro _; rfl
      | cons y ys ih =>
        intro hy
        rw [List.mapM_cons, hx_back y (hy y (by simp)).1 (hy y (by simp)).2, ih (fun z hz => hy z (List.mem_cons_of_mem _ hz))]
        rfl
    exact this (g :: r) hb
/-- Behind each ':' stands something else. -/
def GG (l : List UInt8) : Prop := ∀ j : Nat, l[j]? = some 58 → ∃ y, l[j + 1]? = some y ∧ y ≠ 58
theorem GG_no (l : List UInt8) (h : (58 : UInt8) ∉ l) : GG l := by
  intro j hj
  exact absurd (List.mem_of_getElem? hj) h
theorem GG_join : ∀ (xs : List (List UInt8)), (∀ x ∈ xs, (58 : UInt8) ∉ x ∧ x ≠ []) → GG (Lib.join xs [58]) ∧ (Lib.join xs [58]).head? ≠ some 58 ∧ (xs ≠ [] → Lib.join xs [58] ≠ [])
  | [], _ => by rw [Lib.join_nil]; exact ⟨GG_no _ (by simp), by simp, fun h => absurd rfl h⟩
  | [x], h => by
    rw [join_one']
    have hx := h x (by simp)
    refine ⟨GG_no _ hx.1, ?_, fun _ => hx.2⟩
    intro e
    exact hx.1 (List.mem_of_head? e)
  | x :: y :: r, h => by
    have hx := h x (by simp)
    obtain ⟨i1, i2, i3⟩ := GG_join (y :: r) (fun z hz => h z (List.mem_cons_of_mem _ hz))
    rw [join_two]
    have i4 := i3 (by simp)
    generalize Lib.join (y :: r) [58] = rest at *
    refine ⟨?_, ?_, by simp⟩
    · intro j hj
      by_cases h1 : j < x.length
      · rw [List.getElem?_append_left h1] at hj
        exact absurd (List.mem_of_getElem? hj) hx.1
      · rw [List.getElem?_append_right (by omega)] at hj
        rw [List.getElem?_append_right (by omega)]
        rcases Nat.eq_zero_or_pos (j - x.length) with h0 | h0
        · rw [show j + 1 - x.length = 0 + 1 by omega, List.getElem?_cons_succ]
          cases rest with
          | nil => exact absurd rfl i4
          | cons z t =>
            refine ⟨z, rfl, ?_⟩
            intro e
            exact i2 (by rw [e]; rfl)
        · rw [show j - x.length = (j - x.length - 1) + 1 by omega, List.getElem?_cons_succ] at hj
          rw [show j + 1 - x.length = (j - x.length - 1 + 1) + 1 by omega, List.getElem?_cons_succ]
          exact i1 _ hj
    · intro e
      cases x with
      | nil => exact hx.2 rfl
      | cons z t => exact hx.1 (by simp at e; rw [e]; simp)
theorem occ_two (l : List UInt8) (j : Nat) (h : Lib.occAt l [58, 58] j = true) : l[j]? = some 58 ∧ l[j + 1]? = some 58 := by
  unfold Lib.occAt at h
  rw [List.isPrefixOf_iff_prefix] at h
  obtain ⟨t, ht⟩ := h
  have h0 : (l.drop j)[0]? = some 58 := by rw [← ht]; rfl
  have h1 : (l.drop j)[1]? = some 58 := by rw [← ht]; rfl
  rw [List.getElem?_drop] at h0 h1
  exact ⟨h0, h1⟩
theorem GG_none (l : List UInt8) (h : GG l) : Lib.index l [58, 58] = -1 := by
  refine Lib.index_none fun j _ => ?_
  cases ho : Lib.occAt l [58, 58] j
  · rfl
  · obtain ⟨h1, h2⟩ := occ_two l j ho
    obtain ⟨y, hy, hne⟩ := h j h1
    rw [h2] at hy
    exact absurd (Option.some.inj hy).symm hne
theorem GG_first (a b : List UInt8) (h : GG a) : Lib.index (a ++ 58 :: 58 :: b) [58, 58] = a.length := by
  refine Lib.index_first (by simp) ?_ fun j hj => ?_
  · unfold Lib.occAt
    rw [List.drop_left, List.isPrefixOf_iff_prefix]
    exact ⟨b, rfl⟩
  · cases ho : Lib.occAt (a ++ 58 :: 58 :: b) [58, 58] j
    · rfl
    · obtain ⟨h1, h2⟩ := occ_two _ j ho
      rw [List.getElem?_append_left hj] at h1
      obtain ⟨y, hy, hne⟩ := h j h1
      have hj2 : j + 1 < a.length := by
        rcases Nat.lt_or_ge (j + 1) a.length with h | h
        · exact h
        · rw [List.getElem?_eq_none h] at hy; cases hy
      rw [List.getElem?_append_left hj2, hy] at h2
      exact absurd (Option.some.inj h2) hne
theorem hx_GG (gs : List Int) : GG (groupsS gs).data.toList := by
  rw [groups_data]
  refine (GG_join _ ?_).1
  intro x hx'
  obtain ⟨y, _, rfl⟩ := List.mem_map.1 hx'
  refine ⟨hx_no y 58 (.inr (.inr rfl)), ?_⟩
  intro e
  have := hx_len y
  rw [e] at this
  simp at this
theorem zeros_take (l : List Int) (k : Nat) : (l.drop k).take (zerosFrom l k) = List.replicate (zerosFrom l k) 0 := by
  unfold zerosFrom
  generalize l.drop k = m
  induction m with
  | nil => rfl
  | cons x m ih =>
    rw [List.takeWhile_cons]
    split
    · next h =>
      have : x = 0 := by simpa using h
      rw [List.length_cons, List.take_succ_cons, ih, List.replicate_succ, this]
    · rfl
theorem lz_zero (l : List Int) : ∀ k, (l.drop (lzTo l k).1).take (lzTo l k).2 = List.replicate (lzTo l k).2 0
  | 0 => by simp [lzTo]
  | k + 1 => by
    unfold lzTo
    split
    · exact zeros_take l k
    · exact lz_zero l k
theorem ungrp_grp (l : List Int) (hl : l.length = 16) (ho : Oct l) : ungrp (grp l) = l := by
  match l, hl with
  | [a0, a1, a2, a3, a4, a5, a6, a7, a8, a9, a10, a11, a12, a13, a14, a15], _ =>
    have h : ∀ x y : Int, (0 ≤ x ∧ x < 256) → (0 ≤ y ∧ y < 256) → (x * 256 + y) / 256 = x ∧ (x * 256 + y) % 256 = y := fun x y hx hy => by omega
    have o0 := h a0 a1 (ho _ (by simp)) (ho _ (by simp))
    have o1 := h a2 a3 (ho _ (by simp)) (ho _ (by simp))
    have o2 := h a4 a5 (ho _ (by simp)) (ho _ (by simp))
    have o3 := h a6 a7 (ho _ (by simp)) (ho _ (by simp))
    have o4 := h a8 a9 (ho _ (by simp)) (ho _ (by simp))
    have o5 := h a10 a11 (ho _ (by simp)) (ho _ (by simp))
    have o6 := h a12 a13 (ho _ (by simp)) (ho _ (by simp))
    have o7 := h a14 a15 (ho _ (by simp)) (ho _ (by simp))
    simp [grp, List.range, List.range.loop, ungrp, numOf, o0, o1, o2, o3, o4, o5, o6, o7]
theorem six_back (l : List Int) (hl : l.length = 16) (ho : Oct l) : rdSix (sixS l) = some l := by
  have hg8 := grp_len l
  have hgb := grp_bd l ho
  have hu := ungrp_grp l hl ho
  have hle := lz_le (grp l) 8 (by omega)
  have hz := lz_zero (grp l) 8
  unfold sixS rdSix
  generalize lzTo (grp l) 8 = p at *
  obtain ⟨at_, n⟩ := p
  generalize grp l = g at *
  simp only at hle hz ⊢
  split
  · have hi := GG_none _ (hx_GG g)
    have e1 : (cutS (groupsS g) [58, 58]).1 = groupsS g := by
      apply ext_list
      unfold cutS Lib.cut
      rw [hi]
      simp
    have e2 : (cutS (groupsS g) [58, 58]).2.1 = ⟨#[]⟩ := by
      apply ext_list
      unfold cutS Lib.cut
      rw [hi]
      simp
    have e3 : (cutS (groupsS g) [58, 58]).2.2 = false := by
      unfold cutS Lib.cut
      rw [hi]
      simp
    rw [e1, e2, e3, groups_back g (by omega) hgb]
    have e4 : rdGroups ⟨#[]⟩ = some [] := by unfold rdGroups; rw [if_pos (by rfl)]
    rw [e4]
    unfold six2
    simp [hg8, hu]
  · next hn =>
    have hd : (groupsS (g.take at_) ++ ⟨#[58, 58]⟩ ++ groupsS (g.drop (at_ + n))).data.toList = (groupsS (g.take at_)).data.toList ++ 58 :: 58 :: (groupsS (g.drop (at_ + n))).data.toList := by simp
    have hi := GG_first (groupsS (g.take at_)).data.toList (groupsS (g.drop (at_ + n))).data.toList (hx_GG _)
    generalize hS : groupsS (g.take at_) ++ ⟨#[58, 58]⟩ ++ groupsS (g.drop (at_ + n)) = S at *
    rw [← hd] at hi
    have e1 : (cutS S [58, 58]).1 = groupsS (g.take at_) := by
      apply ext_list
      unfold cutS Lib.cut
      rw [hi, if_pos (by omega), hd]
      simp
    have e2 : (cutS S [58, 58]).2.1 = groupsS (g.drop (at_ + n)) := by
      apply ext_list
      unfold cutS Lib.cut
      rw [hi, if_pos (by omega), hd]
      simp [List.drop_append]
    have e3 : (cutS S [58, 58]).2.2 = true := by
      unfold cutS Lib.cut
      rw [hi, if_pos (by omega)]
    rw [e1, e2, e3, groups_back _ (by simp; omega) (fun x hx => hgb x (List.mem_of_mem_take hx)), groups_back _ (by simp; omega) (fun x hx => hgb x (List.mem_of_mem_drop hx))]
    unfold six2
    have l1 : (g.take at_).length = at_ := by simp; omega
    have l2 : (g.drop (at_ + n)).length = 8 - (at_ + n) := by simp; omega
    simp only [l1, l2]
    rw [if_pos (by simp; omega)]
    have hrep : 8 - (at_ + (8 - (at_ + n))) = n := by omega
    rw [hrep, ← hz]
    have : g.take at_ ++ (g.drop at_).take n ++ g.drop (at_ + n) = g := by
      rw [← List.drop_drop, List.append_assoc, List.take_append_drop, List.take_append_drop]
    rw [this, hu]
end Go.Proofs.YtfapmedlnaikiaaDoor
