/-
  Layer 8: mathematics of an open's body.
-/
import Derived.Test.YtgfjjkckamppoaaDoorHeD
namespace Go.Proofs.YtgfjjkckamppoaaDoor
open Go.RowKit
set_option maxRecDepth 100000
set_option linter.unusedSimpArgs false
set_option linter.unusedVariables false

/-- What bytes begin with: a kind, a value, the rest. -/
def part1 : List Int → Option (Int × List Int × List Int)
  | k :: n :: r => if n.toNat ≤ r.length then some (k, r.take n.toNat, r.drop n.toNat) else none
  | _ => none
theorem part1_lt {l : List Int} {k : Int} {v r : List Int} (h : part1 l = some (k, v, r)) : r.length + 2 ≤ l.length := by
  match l, h with
  | k :: n :: q, h =>
    simp only [part1] at h
    split at h
    · simp only [Option.some.injEq, Prod.mk.injEq] at h
      obtain ⟨_, _, rfl⟩ := h
      simp
    · cases h
theorem part1_oct {l : List Int} (ho : Oct l) {k : Int} {v r : List Int} (h : part1 l = some (k, v, r)) : (0 ≤ k ∧ k < 256) ∧ Oct v ∧ Oct r ∧ v.length ≤ 255 := by
  match l, h with
  | k :: n :: q, h =>
    have hk := ho k (by simp)
    have hn := ho n (by simp)
    simp only [part1] at h
    split at h
    · simp only [Option.some.injEq, Prod.mk.injEq] at h
      obtain ⟨rfl, rfl, rfl⟩ := h
      exact ⟨hk, fun x hx => ho x (by simp [List.mem_of_mem_take hx]), fun x hx => ho x (by simp [List.mem_of_mem_drop hx]), by simp; omega⟩
    · cases h
/-- A hello with what one capability says. -/
def capStep (h : Hl) (k : Int) (v : List Int) : Option Hl :=
  if k = 1 then some { h with ev := h.ev || decide (v = fam) }
  else if k = 2 then some { h with rf := h.rf || decide (v = []) }
  else if k = 65 then (if v.length = 4 then some { h with wd := true, as_ := numOf v } else none)
  else some h
def capsF : Nat → Hl → List Int → Option Hl
  | 0, h, r => some h
  | m + 1, h, r => if r = [] then some h else match part1 r with
    | none => none
    | some (k, v, r') => match capStep h k v with
      | none => none
      | some h' => capsF m h' r'
/-- A hello with what capabilities say. -/
def capsR (h : Hl) (l : List Int) : Option Hl := capsF l.length h l
theorem capsF_more : ∀ (m n : Nat) (h : Hl) (r : List Int), r.length ≤ m → r.length ≤ n → capsF m h r = capsF n h r
  | 0, n, h, r, hm, hn => by
    obtain rfl : r = [] := List.eq_nil_of_length_eq_zero (by omega)
    cases n <;> simp [capsF]
  | m + 1, 0, h, r, hm, hn => by
    obtain rfl : r = [] := List.eq_nil_of_length_eq_zero (by omega)
    simp [capsF]
  | m + 1, n + 1, h, r, hm, hn => by
    unfold capsF
    by_cases h0 : r = []
    · rw [if_pos h0, if_pos h0]
    · rw [if_neg h0, if_neg h0]
      split
      · rfl
      · rename_i k v r' hp
        have := part1_lt hp
        split
        · rfl
        · exact capsF_more m n _ _ (by omega) (by omega)
theorem capsR_nil (h : Hl) : capsR h [] = some h := rfl
theorem capsR_none {h : Hl} {r : List Int} (h0 : r ≠ []) (hp : part1 r = none) : capsR h r = none := by
  unfold capsR
  obtain ⟨m, hm⟩ : ∃ m, r.length = m + 1 := ⟨r.length - 1, by have := List.length_pos_iff.2 h0; omega⟩
  rw [hm]
  simp only [capsF, if_neg h0, hp]
theorem capsR_some {h : Hl} {r : List Int} {k : Int} {v r' : List Int} (h0 : r ≠ []) (hp : part1 r = some (k, v, r')) : capsR h r = match capStep h k v with
    | none => none
    | some h' => capsR h' r' := by
  unfold capsR
  obtain ⟨m, hm⟩ : ∃ m, r.length = m + 1 := ⟨r.length - 1, by have := List.length_pos_iff.2 h0; omega⟩
  have hl := part1_lt hp
  rw [hm]
  simp only [capsF, if_neg h0, hp]
  cases capStep h k v with
  | none => rfl
  | some h' => exact capsF_more _ _ _ _ (by omega) (Nat.le_refl _)
def parsF : Nat → Hl → List Int → Except Int Hl
  | 0, h, r => .ok h
  | m + 1, h, r => if r = [] then .ok h else match part1 r with
    | none => .error 0
    | some (k, v, r') => if k = 2 then (match capsR h v with
      | none => .error 0
      | some h' => parsF m h' r') else .error 4
/-- A hello with what parameters say, or the fault's kind. -/
def parsR (h : Hl) (l : List Int) : Except Int Hl := parsF l.length h l
theorem parsF_more : ∀ (m n : Nat) (h : Hl) (r : List Int), r.length ≤ m → r.length ≤ n → parsF m h r = parsF n h r
  | 0, n, h, r, hm, hn => by
    obtain rfl : r = [] := List.eq_nil_of_length_eq_zero (by omega)
    cases n <;> simp [parsF]
  | m + 1, 0, h, r, hm, hn => by
    obtain rfl : r = [] := List.eq_nil_of_length_eq_zero (by omega)
    simp [parsF]
  | m + 1, n + 1, h, r, hm, hn => by
    unfold parsF
    by_cases h0 : r = []
    · rw [if_pos h0, if_pos h0]
    · rw [if_neg h0, if_neg h0]
      split
      · rfl
      · rename_i k v r' hp
        have := part1_lt hp
        split
        · split
          · rfl
          · exact parsF_more m n _ _ (by omega) (by omega)
        · rfl
theorem parsR_nil (h : Hl) : parsR h [] = .ok h := rfl
theorem parsR_none {h : Hl} {r : List Int} (h0 : r ≠ []) (hp : part1 r = none) : parsR h r = .error 0 := by
  unfold parsR
  obtain ⟨m, hm⟩ : ∃ m, r.length = m + 1 := ⟨r.length - 1, by have := List.length_pos_iff.2 h0; omega⟩
  rw [hm]
  simp only [parsF, if_neg h0, hp]
theorem parsR_some {h : Hl} {r : List Int} {k : Int} {v r' : List Int} (h0 : r ≠ []) (hp : part1 r = some (k, v, r')) : parsR h r = if k = 2 then (match capsR h v with
    | none => .error 0
    | some h' => parsR h' r') else .error 4 := by
  unfold parsR
  obtain ⟨m, hm⟩ : ∃ m, r.length = m + 1 := ⟨r.length - 1, by have := List.length_pos_iff.2 h0; omega⟩
  have hl := part1_lt hp
  rw [hm]
  simp only [parsF, if_neg h0, hp]
  split
  · cases capsR h v with
    | none => rfl
    | some h' => exact parsF_more _ _ _ _ (by omega) (Nat.le_refl _)
  · rfl
/-- A hello that is read, unless it can't be. -/
def judgeR (h : Hl) : Except (Int × List Int) Hl := if h.as_ = 0 then .error (2, []) else if h.id_ = 0 then .error (3, []) else if 0 < h.hold ∧ h.hold < 3 then .error (6, []) else .ok h
/-- The numbers ahead of the parameters. -/
def headR (l : List Int) : Hl := ⟨numOf ((l.drop 1).take 2), numOf ((l.drop 3).take 2), numOf ((l.drop 5).take 4), false, false, false⟩
/-- An open's body, read. -/
def readR (l : List Int) : Except (Int × List Int) Hl :=
  if l.length < 10 then .error (0, []) else if l.getD 0 0 ≠ 4 then .error (1, [0, 4]) else if (l.length : Int) - 10 ≠ l.getD 9 0 then .error (0, []) else
    match parsR (headR l) (l.drop 10) with
    | .error s => .error (s, [])
    | .ok h => judgeR h
theorem numOf_bd4 {l : List Int} (ho : Oct l) (hl : l.length ≤ 4) : 0 ≤ numOf l ∧ numOf l < 4294967296 := by
  have hb := numOf_bd l ho
  have : (256 : Int) ^ l.length ≤ 4294967296 := by
    match h : l.length, hl with
    | 0, _ => decide
    | 1, _ => decide
    | 2, _ => decide
    | 3, _ => decide
    | 4, _ => decide
  omega
theorem oct_dt {l : List Int} (ho : Oct l) (a b : Nat) : Oct ((l.drop a).take b) := fun y hy => ho y (List.mem_of_mem_drop (List.mem_of_mem_take hy))
theorem capStep_ok {h h' : Hl} (hk : HlOk h) {k : Int} {v : List Int} (hv : Oct v) (hs : capStep h k v = some h') : HlOk h' := by
  unfold capStep at hs
  split at hs
  · injection hs with hs; subst hs; exact ⟨hk.as_, hk.hold, hk.id_⟩
  · split at hs
    · injection hs with hs; subst hs; exact ⟨hk.as_, hk.hold, hk.id_⟩
    · split at hs
      · split at hs
        · injection hs with hs; subst hs; rename_i h4; exact ⟨numOf_bd4 hv (by omega), hk.hold, hk.id_⟩
        · cases hs
      · injection hs with hs; subst hs; exact hk
theorem numOf_bd2 {l : List Int} (ho : Oct l) (hl : l.length ≤ 2) : 0 ≤ numOf l ∧ numOf l < 65536 := by
  have hb := numOf_bd l ho
  have : (256 : Int) ^ l.length ≤ 65536 := by
    match h : l.length, hl with
    | 0, _ => decide
    | 1, _ => decide
    | 2, _ => decide
  omega
theorem headR_ok {l : List Int} (ho : Oct l) : HlOk (headR l) :=
  ⟨numOf_bd4 (oct_dt ho _ _) (by simp; omega), ⟨by have := (numOf_bd2 (oct_dt ho 3 2) (by simp; omega)).1; show _ ≤ numOf ((l.drop 3).take 2); omega, by have := (numOf_bd2 (oct_dt ho 3 2) (by simp; omega)).2; show numOf ((l.drop 3).take 2) < _; omega⟩, numOf_bd4 (oct_dt ho _ _) (by simp; omega)⟩
theorem capsF_ok : ∀ (m : Nat) {h h' : Hl} {r : List Int}, HlOk h → Oct r → capsF m h r = some h' → HlOk h'
  | 0, h, h', r, hk, _, hs => by simp only [capsF, Option.some.injEq] at hs; subst hs; exact hk
  | m + 1, h, h', r, hk, ho, hs => by
    unfold capsF at hs
    split at hs
    · injection hs with hs; subst hs; exact hk
    · split at hs
      · cases hs
      · rename_i k v r' hp
        have := part1_oct ho hp
        split at hs
        · cases hs
        · rename_i h2 hc
          exact capsF_ok m (capStep_ok hk this.2.1 hc) this.2.2.1 hs
theorem capsR_ok {h h' : Hl} {r : List Int} (hk : HlOk h) (ho : Oct r) (hs : capsR h r = some h') : HlOk h' := capsF_ok _ hk ho hs
theorem parsF_ok : ∀ (m : Nat) {h h' : Hl} {r : List Int}, HlOk h → Oct r → parsF m h r = .ok h' → HlOk h'
  | 0, h, h', r, hk, _, hs => by simp only [parsF, Except.ok.injEq] at hs; subst hs; exact hk
  | m + 1, h, h', r, hk, ho, hs => by
    unfold parsF at hs
    split at hs
    · injection hs with hs; subst hs; exact hk
    · split at hs
      · cases hs
      · rename_i k v r' hp
        have := part1_oct ho hp
        split at hs
        · split at hs
          · cases hs
          · rename_i h2 hc
            exact parsF_ok m (capsR_ok hk this.2.1 hc) this.2.2.1 hs
        · cases hs
theorem parsR_ok {h h' : Hl} {r : List Int} (hk : HlOk h) (ho : Oct r) (hs : parsR h r = .ok h') : HlOk h' := parsF_ok _ hk ho hs
theorem judgeR_ok {h h' : Hl} (hk : HlOk h) (hs : judgeR h = .ok h') : HlOk h' := by
  unfold judgeR at hs
  split at hs
  · cases hs
  · split at hs
    · cases hs
    · split at hs
      · cases hs
      · injection hs with hs; subst hs; exact hk

/-! What is put is read. -/
theorem getD_cons0 (x : Int) (l : List Int) : (x :: l).getD 0 0 = x := rfl
theorem numOf_be2 {n : Int} (h0 : 0 ≤ n) (h1 : n < 65536) : numOf (be 2 n) = n := by simp [be, numOf]; omega
theorem numOf_be4 {n : Int} (h0 : 0 ≤ n) (h1 : n < 4294967296) : numOf (be 4 n) = n := by simp [be, numOf]; omega
end Go.Proofs.YtgfjjkckamppoaaDoor
