/-
  Layer 8: what is put is read; cut short it is none.
-/
import Derived.Test.YtgfjjkckamppoaaDoorHeM
namespace Go.Proofs.YtgfjjkckamppoaaDoor
open Go.RowKit
set_option maxRecDepth 100000
set_option linter.unusedSimpArgs false
set_option linter.unusedVariables false

theorem tmod_bd8 (n m : Int) (hm : 0 < m) : -m < n.tmod m ∧ n.tmod m < m := by
  rcases Int.lt_or_le n 0 with h | h
  · obtain ⟨k, rfl⟩ : ∃ k : Int, n = -k := ⟨-n, by omega⟩
    have h1 := Int.emod_nonneg k (show m ≠ 0 by omega)
    have h2 := Int.emod_lt_of_pos k hm
    rw [Int.neg_tmod, Int.tmod_eq_emod_of_nonneg (by omega)]
    omega
  · have h1 := Int.emod_nonneg n (show m ≠ 0 by omega)
    have h2 := Int.emod_lt_of_pos n hm
    rw [Int.tmod_eq_emod_of_nonneg h]
    omega
set_option maxHeartbeats 400000 in
theorem count_is (w : World) (n m : Int) (hm : 1 ≤ m) (hm2 : m < 4611686018427387904) (hn : -9223372036854775808 ≤ n ∧ n < 9223372036854775808) : Calls Tryd.prog 32 #[.int .i64 n, .int .i64 m] w fun e w' => ∃ c : Nat, (c : Int) < m ∧ e = .returned (.int .i64 c) ∧ w' = w := by
  obtain ⟨h1, h2⟩ := tmod_bd8 n m (by omega)
  by_cases hx0 : n.tmod m < 0
  · have hs : ∃ c : Nat, n.tmod m + m = c := ⟨(n.tmod m + m).toNat, by omega⟩
    obtain ⟨c, hc⟩ := hs
    have HC := Lib.hid hc
    have hc2 : (c : Int) < m := by omega
    clear hc
    go_enter Tryd.func32, Tryd.ntmps32
    go_wp2
    go_ret
    exact ⟨c, hc2, by rw [← HC.out]; go_num, rfl⟩
  · have hs : ∃ c : Nat, n.tmod m = c := ⟨(n.tmod m).toNat, by omega⟩
    obtain ⟨c, hc⟩ := hs
    have HC := Lib.hid hc
    have hc2 : (c : Int) < m := by omega
    clear hc
    go_enter Tryd.func32, Tryd.ntmps32
    go_wp2
    go_ret
    exact ⟨c, hc2, by rw [← HC.out]; rfl, rfl⟩

theorem part1_put (k : Int) (v r : List Int) (n : Int) (hn : n = v.length) : part1 (k :: n :: (v ++ r)) = some (k, v, r) := by
  subst hn
  simp [part1]
theorem caps_put (h : Hl) (g : Hl) : capsR g (capsB h) = some ⟨if h.wd then numOf (be 4 h.as_) else g.as_, g.hold, g.id_, g.ev || h.ev, g.wd || h.wd, g.rf || h.rf⟩ := by
  have s1 : ∀ (g : Hl) (r : List Int), capsR g (1 :: 4 :: (fam ++ r)) = capsR ⟨g.as_, g.hold, g.id_, true, g.wd, g.rf⟩ r := fun g r => by
    rw [capsR_some (by simp) (part1_put 1 fam r 4 rfl)]
    simp [capStep]
  have s2 : ∀ (g : Hl) (r : List Int), capsR g (2 :: 0 :: ([] ++ r)) = capsR ⟨g.as_, g.hold, g.id_, g.ev, g.wd, true⟩ r := fun g r => by
    rw [capsR_some (by simp) (part1_put 2 [] r 0 rfl)]
    simp [capStep]
  have s3 : ∀ (g : Hl) (r : List Int), capsR g (65 :: 4 :: (be 4 h.as_ ++ r)) = capsR ⟨numOf (be 4 h.as_), g.hold, g.id_, g.ev, true, g.rf⟩ r := fun g r => by
    rw [capsR_some (by simp) (part1_put 65 (be 4 h.as_) r 4 (by rw [be_len]; rfl))]
    simp [capStep, be_len]
  obtain ⟨a, o, i, ev, wd, rf⟩ := h
  have t1 := fun g => s1 g []
  have t3 := fun g => s3 g []
  simp only [List.append_nil] at t1 t3
  cases ev <;> cases rf <;> cases wd <;> simp only [capsB, if_true, if_false, Bool.false_eq_true, List.nil_append, List.append_nil, List.cons_append]
  all_goals first
    | (simp [capsR_nil]; done)
    | (rw [t3]; simp [capsR_nil])
    | (rw [show ([2, 0] : List Int) = 2 :: 0 :: ([] ++ []) from rfl, s2]; simp [capsR_nil])
    | (rw [show ∀ l : List Int, 2 :: 0 :: 65 :: 4 :: l = 2 :: 0 :: ([] ++ 65 :: 4 :: l) from fun _ => rfl, s2, t3]; simp [capsR_nil])
    | (rw [t1]; simp [capsR_nil])
    | (rw [show ∀ l : List Int, 1 :: 4 :: 0 :: 25 :: 0 :: 70 :: l = 1 :: 4 :: (fam ++ l) from fun _ => rfl, s1, t3]; simp [capsR_nil])
    | (rw [show ([1, 4, 0, 25, 0, 70, 2, 0] : List Int) = 1 :: 4 :: (fam ++ (2 :: 0 :: ([] ++ []))) from rfl, s1, s2]; simp [capsR_nil])
    | (rw [show ∀ l : List Int, 1 :: 4 :: 0 :: 25 :: 0 :: 70 :: 2 :: 0 :: 65 :: 4 :: l = 1 :: 4 :: (fam ++ (2 :: 0 :: ([] ++ 65 :: 4 :: l))) from fun _ => rfl, s1, s2, t3]; simp [capsR_nil])
theorem pars_put (h : Hl) (g : Hl) : parsR g (parB h) = .ok ⟨if h.wd then numOf (be 4 h.as_) else g.as_, g.hold, g.id_, g.ev || h.ev, g.wd || h.wd, g.rf || h.rf⟩ := by
  unfold parB
  split
  · rename_i h0
    have := caps_put h g
    rw [h0, capsR_nil] at this
    injection this with this
    rw [← this]
    exact parsR_nil g
  · have hp := part1_put 2 (capsB h) [] ((capsB h).length : Int) rfl
    rw [List.append_nil] at hp
    rw [parsR_some (by simp) hp, if_pos rfl, caps_put]
    exact parsR_nil _
theorem putB_cons (h : Hl) : putB h = 4 :: (shA h.as_ / 256 % 256) :: (shA h.as_ % 256) :: (h.hold / 256 % 256) :: (h.hold % 256) :: (h.id_ / 16777216 % 256) :: (h.id_ / 65536 % 256) :: (h.id_ / 256 % 256) :: (h.id_ % 256) :: ((parB h).length : Int) % 256 :: parB h := by
  have h2 : ∀ n : Int, be 2 n = [n / 256 % 256, n % 256] := fun n => by simp [be]
  unfold putB
  rw [be1, be4, h2, h2]
  rfl
theorem putB_9 (h : Hl) : (putB h).getD 9 0 = ((parB h).length : Int) := by
  have := parB_le h
  rw [putB_cons]
  show ((parB h).length : Int) % 256 = _
  omega
theorem read_put {h : Hl} (hk : HlOk h) (hr : rightH h = true) : readR (putB h) = .ok h := by
  have hp := right_parts hr
  have hw : h.wd = true ∨ h.as_ ≤ 65535 := by
    unfold rightH at hr
    have := of_decide_eq_true hr
    exact this.2.1
  have ha := hk.as_
  have hi := hk.id_
  have hl := putB_len h
  unfold readR
  rw [if_neg (by omega), if_neg (by rw [putB_cons]; simp), if_neg (by rw [putB_9, hl]; omega)]
  have hd : (putB h).drop 10 = parB h := by rw [putB_cons]; rfl
  rw [hd, pars_put]
  have e1 : (headR (putB h)).hold = h.hold := by
    rw [putB_cons]
    show numOf [h.hold / 256 % 256, h.hold % 256] = _
    simp [numOf]
    omega
  have e2 : (headR (putB h)).id_ = h.id_ := by
    rw [putB_cons]
    show numOf [h.id_ / 16777216 % 256, h.id_ / 65536 % 256, h.id_ / 256 % 256, h.id_ % 256] = _
    simp [numOf]
    omega
  have e3 : (if h.wd then numOf (be 4 h.as_) else (headR (putB h)).as_) = h.as_ := by
    split
    · exact numOf_be4 ha.1 ha.2
    · rename_i hwd
      have h6 : h.as_ ≤ 65535 := by
        rcases hw with h | h
        · exact absurd h hwd
        · exact h
      rw [putB_cons]
      show numOf [shA h.as_ / 256 % 256, shA h.as_ % 256] = _
      unfold shA
      rw [if_neg (by omega)]
      simp [numOf]
      omega
  have e4 : (headR (putB h)).ev = false ∧ (headR (putB h)).wd = false ∧ (headR (putB h)).rf = false := ⟨rfl, rfl, rfl⟩
  rw [e1, e2, e3, e4.1, e4.2.1, e4.2.2]
  simp only [Bool.false_or]
  unfold judgeR
  have hh : h.hold = 0 ∨ 3 ≤ h.hold := by
    unfold rightH at hr
    have := of_decide_eq_true hr
    omega
  rw [if_neg (by simp only; omega), if_neg (by simp only; omega), if_neg (by simp only; omega)]
theorem read_cut {h : Hl} {k : Nat} (hk : k < (putB h).length) : readR ((putB h).take k) = .error (0, []) := by
  have hl := putB_len h
  have hlt : ((putB h).take k).length = k := by simp; omega
  unfold readR
  rw [hlt]
  by_cases h10 : k < 10
  · rw [if_pos h10]
  · have e0 : ((putB h).take k).getD 0 0 = 4 := by
      rw [putB_cons]
      obtain ⟨m, rfl⟩ : ∃ m, k = m + 1 := ⟨k - 1, by omega⟩
      rfl
    have e9 : ((putB h).take k).getD 9 0 = ((parB h).length : Int) := by
      rw [← putB_9]
      simp [List.getD, List.getElem?_take, show 9 < k by omega]
    rw [if_neg h10, if_neg (by rw [e0]; simp), if_pos (by rw [e9]; omega)]
end Go.Proofs.YtgfjjkckamppoaaDoor
