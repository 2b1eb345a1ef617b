/-
  AddrHas: bits and first bits.
-/
import Derived.Test.YtoacmeijfipniaaDoorAdD
namespace Go.Proofs.YtoacmeijfipniaaDoor
set_option linter.unusedVariables false
open Go.RowKit

def bitOf (x : Int) (r : Nat) : Int := x / 2 ^ (7 - r) % 2
def bitAt (l : List Int) (j : Nat) : Int := bitOf (l.getD (j / 8) 0) (j % 8)
def sameTo (va : Bool) (la : List Int) (vb : Bool) (lb : List Int) (i : Nat) : Bool := (rightB vb lb && va == vb) && (List.range i).all fun j => bitAt la j == bitAt lb j

theorem top_eq (x y : Int) (hx : 0 ≤ x ∧ x < 256) (hy : 0 ≤ y ∧ y < 256) : ∀ s, s ≤ 8 → (x / 2 ^ (8 - s) = y / 2 ^ (8 - s) ↔ ∀ r, r < s → bitOf x r = bitOf y r)
  | 0, _ => by
    constructor
    · intro _ r hr; omega
    · intro _
      rw [show (2 : Int) ^ (8 - 0) = 256 by decide]
      omega
  | s + 1, hs => by
    have ih := top_eq x y hx hy s (by omega)
    have e : (2 : Int) ^ (8 - s) = 2 ^ (8 - (s + 1)) * 2 := by rw [show 8 - s = (8 - (s + 1)) + 1 by omega, Int.pow_succ]
    have hp : (0 : Int) < 2 ^ (8 - (s + 1)) := Int.pow_pos (by decide)
    have dx : x / 2 ^ (8 - s) = x / 2 ^ (8 - (s + 1)) / 2 := by rw [e, Int.ediv_ediv_of_nonneg (Int.le_of_lt hp)]
    have dy : y / 2 ^ (8 - s) = y / 2 ^ (8 - (s + 1)) / 2 := by rw [e, Int.ediv_ediv_of_nonneg (Int.le_of_lt hp)]
    rw [dx, dy] at ih
    have bx : bitOf x s = x / 2 ^ (8 - (s + 1)) % 2 := by unfold bitOf; rw [show 7 - s = 8 - (s + 1) by omega]
    have by_ : bitOf y s = y / 2 ^ (8 - (s + 1)) % 2 := by unfold bitOf; rw [show 7 - s = 8 - (s + 1) by omega]
    generalize x / 2 ^ (8 - (s + 1)) = X at *
    generalize y / 2 ^ (8 - (s + 1)) = Y at *
    constructor
    · intro h r hr
      rcases Nat.lt_or_ge r s with h1 | h1
      · exact ih.1 (by rw [h]) r h1
      · obtain rfl : r = s := by omega
        rw [bx, by_, h]
    · intro h
      have h1 := ih.2 (fun r hr => h r (by omega))
      have h2 := h s (by omega)
      rw [bx, by_] at h2
      omega
theorem keepB_eq (x y : Int) (s : Nat) : keepB x s = keepB y s ↔ x / 2 ^ (8 - s) = y / 2 ^ (8 - s) := by
  unfold keepB
  have hp : (0 : Int) < 2 ^ (8 - s) := Int.pow_pos (by decide)
  exact ⟨fun h => Int.eq_of_mul_eq_mul_right (Int.ne_of_gt hp) h, fun h => by rw [h]⟩
theorem fb_eq (la lb : List Int) (n : Int) (ha : la.length = 16) (hb : lb.length = 16) (oa : Oct la) (ob : Oct lb) (h0 : 0 ≤ n) (h1 : n ≤ 128) :
    firstBits la n = firstBits lb n ↔ ∀ j, j < n.toNat → bitAt la j = bitAt lb j := by
  constructor
  · intro h j hj
    have hi : j / 8 < 16 := by omega
    have h2 : (firstBits la n)[j / 8]'(by rw [fb_len]; omega) = (firstBits lb n)[j / 8]'(by rw [fb_len]; omega) := by simp only [h]
    rw [fb_get la n (j / 8) (by omega), fb_get lb n (j / 8) (by omega), keepB_eq] at h2
    have h3 := (top_eq _ _ (oa.getD (j / 8)) (ob.getD (j / 8)) (stay n (j / 8)) (by unfold stay; omega)).1 h2 (j % 8) (by unfold stay; omega)
    exact h3
  · intro h
    apply List.ext_getElem (by rw [fb_len, fb_len, ha, hb])
    intro i hi hi2
    rw [fb_len] at hi hi2
    rw [fb_get la n i hi, fb_get lb n i hi2, keepB_eq]
    refine (top_eq _ _ (oa.getD i) (ob.getD i) (stay n i) (by unfold stay; omega)).2 (fun r hr => ?_)
    have hr2 : r < 8 ∧ 8 * i + r < n.toNat := by unfold stay at hr; omega
    have := h (8 * i + r) hr2.2
    unfold bitAt at this
    rwa [show (8 * i + r) / 8 = i by omega, show (8 * i + r) % 8 = r by omega] at this
theorem keepB_keepB (b : Int) (s t : Nat) (hst : s ≤ t) (ht : t ≤ 8) : keepB (keepB b t) s = keepB b s := by
  unfold keepB
  have hp : (0 : Int) < 2 ^ (8 - t) := Int.pow_pos (by decide)
  have e : (2 : Int) ^ (8 - s) = 2 ^ (8 - t) * 2 ^ (t - s) := by rw [← Int.pow_add, show 8 - t + (t - s) = 8 - s by omega]
  have : b / 2 ^ (8 - t) * 2 ^ (8 - t) / 2 ^ (8 - s) = b / 2 ^ (8 - s) := by
    rw [e, Int.mul_comm (b / 2 ^ (8 - t)), Int.mul_ediv_mul_of_pos _ _ hp, Int.ediv_ediv_of_nonneg (Int.le_of_lt hp)]
  rw [this]
theorem fb_fb (l : List Int) (n k : Int) (h : n ≤ k) : firstBits (firstBits l k) n = firstBits l n := by
  apply List.ext_getElem (by simp [fb_len])
  intro i hi hi2
  rw [fb_len] at hi2
  rw [fb_get _ n i (by rw [fb_len]; exact hi2), fb_get l n i hi2]
  have : (firstBits l k).getD i 0 = keepB (l.getD i 0) (stay k i) := by
    rw [← fb_get l k i hi2, List.getD_eq_getElem?_getD, List.getElem?_eq_getElem (by rw [fb_len]; exact hi2)]; rfl
  rw [this]
  exact keepB_keepB _ _ _ (by unfold stay; omega) (by unfold stay; omega)
theorem right_fb (v : Bool) (l : List Int) (k : Int) (hl : l.length = 16) (h : rightB v l = true) : rightB v (firstBits l k) = true := by
  unfold rightB at *
  cases v
  · simp only [Bool.false_or, decide_eq_true_eq] at *
    apply List.ext_getElem (by simp [fb_len, hl])
    intro i hi hi2
    have hi3 : i < 12 := by simpa using hi2
    rw [List.getElem_drop, fb_get l k (4 + i) (by omega)]
    have : l.getD (4 + i) 0 = 0 := by
      have h2 : (l.drop 4)[i]? = (List.replicate 12 (0 : Int))[i]? := by rw [h]
      rw [List.getElem?_drop, List.getElem?_replicate, if_pos hi3] at h2
      rw [List.getD_eq_getElem?_getD, h2]; rfl
    rw [this, List.getElem_replicate]
    unfold keepB
    simp
  · rfl
theorem has_own (v : Bool) (l : List Int) (n : Int) (h : cutB v l n = true) : hasB v (firstBits l n) n v l = true := by
  unfold hasB; rw [h]; simp
theorem has_cut (v : Bool) (l : List Int) (n k : Int) (hl : l.length = 16) (hn : cutB v l n = true) (hk : cutB v l k = true) (hnk : n ≤ k) : hasB v (firstBits l n) n v (firstBits l k) = true := by
  unfold hasB
  rw [fb_fb l n k hnk]
  unfold cutB at hn ⊢
  simp only [Bool.and_eq_true] at hn
  rw [right_fb v l k hl hn.1, hn.2.1, hn.2.2]
  simp
theorem cut_bd {v : Bool} {l : List Int} {n : Int} (h : cutB v l n = true) : 0 ≤ n ∧ n ≤ 128 := by
  unfold cutB at h
  simp only [Bool.and_eq_true, decide_eq_true_eq] at h
  have : bitsOf v ≤ 128 := by unfold bitsOf; split <;> omega
  omega
theorem same_has (va : Bool) (la : List Int) (n : Int) (vb : Bool) (lb : List Int) (ha : la.length = 16) (hb : lb.length = 16) (oa : Oct la) (ob : Oct lb) (hn : cutB va la n = true) :
    hasB va (firstBits la n) n vb lb = sameTo va la vb lb n.toNat := by
  have hbd := cut_bd hn
  have hf := fb_eq la lb n ha hb oa ob hbd.1 hbd.2
  unfold hasB sameTo
  rw [Bool.eq_iff_iff]
  simp only [Bool.and_eq_true, decide_eq_true_eq, List.all_eq_true, List.mem_range, beq_iff_eq]
  unfold cutB at hn ⊢
  simp only [Bool.and_eq_true, decide_eq_true_eq] at hn ⊢
  constructor
  · rintro ⟨⟨h1, _⟩, rfl, h2⟩
    exact ⟨⟨h1, rfl⟩, hf.1 h2.symm⟩
  · rintro ⟨⟨h1, rfl⟩, h2⟩
    exact ⟨⟨h1, hn.2⟩, rfl, (hf.2 h2).symm⟩
theorem same_step (va : Bool) (la : List Int) (vb : Bool) (lb : List Int) (i : Nat) : sameTo va la vb lb (i + 1) = (sameTo va la vb lb i && (bitAt la i == bitAt lb i)) := by
  unfold sameTo
  rw [List.range_succ, List.all_append, ← Bool.and_assoc]
  simp
theorem same_false (va : Bool) (la : List Int) (vb : Bool) (lb : List Int) (i m : Nat) (h : sameTo va la vb lb i = false) (him : i ≤ m) : sameTo va la vb lb m = false := by
  induction m with
  | zero => obtain rfl : i = 0 := by omega
            exact h
  | succ m ih =>
    rcases Nat.lt_or_ge i (m + 1) with h1 | h1
    · rw [same_step, ih (by omega)]; rfl
    · obtain rfl : i = m + 1 := by omega
      exact h
end Go.Proofs.YtoacmeijfipniaaDoor
