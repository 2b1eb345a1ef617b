/-
  Put together: UpA UpM.
-/
import Derived.Test.YtdgoeibfggjbmaaGreatDoorMNV
import Derived.Test.YtdgoeibfggjbmaaGreatDoorMC
namespace Go.Proofs.YtdgoeibfggjbmaaGreatDoor
open Go.RowKit
set_option maxRecDepth 100000
set_option linter.unusedSimpArgs false
set_option linter.unusedVariables false

structure Up where
  at_ : Att
  nv : Bool
  nl : List Int
  re : List Rt
  un : List Rt
structure UpOk (u : Up) : Prop where
  at_ : AtFits u.at_
  nl : u.nl.length = 16
  onl : Oct u.nl
  re : AllRt u.re
  un : AllRt u.un
def famB : List Int := [0, 25, 70]
def nextB (v : Bool) (l : List Int) : List Int := [(nb v : Int)] ++ (l.take (nb v) ++ [0])
def reachV (u : Up) : List Int := famB ++ (nextB u.nv u.nl ++ puts u.re)
def goneV (u : Up) : List Int := famB ++ puts u.un
def goneR (u : Up) : List Raw := if u.un = [] then [] else [rawW 128 15 (goneV u)]
def preU (u : Up) : List Raw := (if u.re = [] then [] else writeR u.at_ ++ [rawW 128 14 (reachV u)]) ++ goneR u
def loR (a : Att) : List Raw :=
  [rawW 64 1 [a.origin], rawW 64 2 (pathW a.path)] ++ (opt a.hasMed (rawW 128 4 (be 4 a.med)) ++ ([rawW 64 5 (be 4 a.pref)] ++ (opt (decide (a.orr ≠ 0)) (rawW 128 9 (be 4 a.orr)) ++ opt (decide (a.clus ≠ [])) (rawW 128 10 (encN a.clus)))))
def hiR (a : Att) : List Raw := opt (decide (a.comms ≠ [])) (rawW 192 16 a.comms.flatten) ++ opt (decide (a.pm.kind ≠ 0)) (rawW 192 22 (pmW a.pm))
theorem writeR_parts (a : Att) : writeR a = loR a ++ hiR a := by simp [writeR, loR, hiR, List.append_assoc]
def rawsU (u : Up) : List Raw := if u.re = [] then goneR u else loR u.at_ ++ ([rawW 128 14 (reachV u)] ++ (goneR u ++ hiR u.at_))
theorem raws_perm (u : Up) : (rawsU u).Perm (preU u) := by
  unfold rawsU preU
  by_cases h : u.re = []
  · rw [if_pos h, if_pos h]; simp
  · rw [if_neg h, if_neg h, writeR_parts]
    simp only [List.append_assoc]
    refine List.Perm.append_left _ ?_
    have h1 : ([rawW 128 14 (reachV u)] ++ (goneR u ++ hiR u.at_)).Perm ((goneR u ++ hiR u.at_) ++ [rawW 128 14 (reachV u)]) := List.perm_append_comm
    have h2 : (hiR u.at_ ++ ([rawW 128 14 (reachV u)] ++ goneR u)).Perm (([rawW 128 14 (reachV u)] ++ goneR u) ++ hiR u.at_) := List.perm_append_comm
    refine List.Perm.trans ?_ h2.symm
    rw [List.append_assoc]
theorem kinds_lo (a : Att) : (loR a).map (·.2.1) = [(1 : Int), 2] ++ (opt a.hasMed 4 ++ ([5] ++ (opt (decide (a.orr ≠ 0)) 9 ++ opt (decide (a.clus ≠ [])) 10))) := by
  simp only [loR, List.map_append, opt_kinds]; rfl
theorem kinds_hi (a : Att) : (hiR a).map (·.2.1) = opt (decide (a.comms ≠ [])) (16 : Int) ++ opt (decide (a.pm.kind ≠ 0)) 22 := by
  simp only [hiR, List.map_append, opt_kinds]
theorem kinds_gone (u : Up) : (goneR u).map (·.2.1) = opt (decide (u.un ≠ [])) (15 : Int) := by
  unfold goneR opt
  by_cases h : u.un = [] <;> simp [h, rawW]
theorem rise_all : ∀ b1 b2 b3 b4 b5 b6 : Bool, ([(1 : Int), 2] ++ (opt b1 4 ++ ([5] ++ (opt b2 9 ++ opt b3 10))) ++ ([14] ++ (opt b4 15 ++ (opt b5 16 ++ opt b6 22)))).Pairwise (· < ·) := by decide
theorem rise_gone : ∀ b : Bool, (opt b (15 : Int)).Pairwise (· < ·) := by decide
theorem raws_rise (u : Up) : ((rawsU u).map (·.2.1)).Pairwise (· < ·) := by
  unfold rawsU
  by_cases h : u.re = []
  · rw [if_pos h, kinds_gone]; exact rise_gone _
  · rw [if_neg h]
    simp only [List.map_append, kinds_lo, kinds_hi, kinds_gone]
    have := rise_all u.at_.hasMed (decide (u.at_.orr ≠ 0)) (decide (u.at_.clus ≠ [])) (decide (u.un ≠ [])) (decide (u.at_.comms ≠ [])) (decide (u.at_.pm.kind ≠ 0))
    simpa [rawW] using this
theorem raws_nodup (u : Up) : ((rawsU u).map (·.2.1)).Nodup := (raws_rise u).imp fun h => Int.ne_of_lt h
theorem rise_one : ∀ (a b : List Raw), (a.map (·.2.1)).Pairwise (· < ·) → (b.map (·.2.1)).Pairwise (· < ·) → a.Perm b → a = b
  | [], b, _, _, h => (List.nil_perm.1 h).symm
  | x :: a, [], _, _, h => absurd (List.perm_nil.1 h) (by simp)
  | x :: a, y :: b, ha, hb, h => by
    rw [List.map_cons, List.pairwise_cons] at ha hb
    have e : x = y := by
      have h1 : x ∈ y :: b := h.mem_iff.1 List.mem_cons_self
      have h2 : y ∈ x :: a := h.mem_iff.2 List.mem_cons_self
      rcases List.mem_cons.1 h1 with e | h1
      · exact e
      · rcases List.mem_cons.1 h2 with e | h2
        · exact e.symm
        · have q1 := ha.1 _ (List.mem_map_of_mem h2)
          have q2 := hb.1 _ (List.mem_map_of_mem h1)
          omega
    subst e
    rw [rise_one a b ha.2 hb.2 ((List.perm_cons x).1 h)]

/-! What Put answers. -/
def rightsB (l : List Rt) : Bool := l.all fun r => rightR r
def rightU (u : Up) : Bool := rightsB u.un && (rightsB u.re && (decide (u.re = []) || rightB u.nv u.nl))
def upB (u : Up) : List Int := [0, 0] ++ (be 2 ((joinB (rawsU u)).length : Int) ++ joinB (rawsU u))
def upE (u : Up) : Int := if rightU u = false then 2 else if u.re ≠ [] ∧ writeE u.at_ ≠ 0 then writeE u.at_ else if joinE (rawsU u) ≠ 0 then joinE (rawsU u) else if 4077 < 4 + (joinB (rawsU u)).length then 5 else 0
def bodyU (u : Up) : List Int := if upE u = 0 then upB u else []
theorem rights_all {l : List Rt} (h : AllRt l) (hr : rightsB l = true) : AllR l := fun r hm => ⟨h r hm, by unfold rightsB at hr; exact List.all_eq_true.1 hr r hm⟩
theorem upE_parts {u : Up} (h : upE u = 0) : rightsB u.un = true ∧ rightsB u.re = true ∧ (u.re ≠ [] → rightB u.nv u.nl = true ∧ writeE u.at_ = 0) ∧ joinE (rawsU u) = 0 ∧ (joinB (rawsU u)).length ≤ 4073 := by
  unfold upE at h
  cases hr : rightU u with
  | false => rw [if_pos hr] at h; cases h
  | true =>
    rw [if_neg (by rw [hr]; decide)] at h
    unfold rightU at hr
    simp only [Bool.and_eq_true, Bool.or_eq_true, decide_eq_true_eq] at hr
    by_cases h1 : u.re ≠ [] ∧ writeE u.at_ ≠ 0
    · rw [if_pos h1] at h; exact absurd h h1.2
    · rw [if_neg h1] at h
      by_cases h2 : joinE (rawsU u) ≠ 0
      · rw [if_pos h2] at h; exact absurd h h2
      · rw [if_neg h2] at h
        by_cases h3 : 4077 < 4 + (joinB (rawsU u)).length
        · rw [if_pos h3] at h; cases h
        · refine ⟨hr.1, hr.2.1, fun hn => ⟨?_, ?_⟩, by omega, by omega⟩
          · rcases hr.2.2 with e | e
            · exact absurd e hn
            · exact e
          · by_cases hw : writeE u.at_ = 0
            · exact hw
            · exact absurd ⟨hn, hw⟩ h1
end Go.Proofs.YtdgoeibfggjbmaaGreatDoor
namespace Go.Proofs.YtdgoeibfggjbmaaGreatDoor
open Go.RowKit
set_option maxRecDepth 100000
set_option linter.unusedSimpArgs false
set_option linter.unusedVariables false

structure Sd where
  nv : Bool
  nl : List Int
  rs : List Rt
  wr : Nat
def sd0 : Sd := ⟨false, z16, [], 0⟩
def oursB (v : List Int) : Bool := decide (v.take 3 = [0, 25, 70])
def withR (nv : Bool) (nl l : List Int) : Option Sd := match readAll l with
  | some (rs, m) => some ⟨nv, nl, rs, m⟩
  | none => none
def sdR (k : Int) (v : List Int) : Option Sd :=
  if v.length < 3 then none else if oursB v = false then some sd0 else if k = 14 then
    (if v.length < 4 then none else if v.getD 3 0 = 4 then (if v.length < 9 then none else withR false (pad ((v.drop 4).take 4)) (v.drop 9))
     else if v.getD 3 0 = 16 then (if v.length < 21 then none else withR true (pad ((v.drop 4).take 16)) (v.drop 21)) else none)
  else withR false z16 (v.drop 3)
def fstK (rs : List Raw) (k : Int) : Option Raw := rs.find? (fun r => decide (r.2.1 = k))
def saidR (rs : List Raw) (k : Int) : Option Sd := match fstK rs k with
  | none => some sd0
  | some r => sdR k r.2.2
def firstB (rs : List Raw) (k : Int) : List Int := match fstK rs k with
  | none => []
  | some r => encB r
def hasK (rs : List Raw) (k : Int) : Bool := decide (0 ≤ plc rs k)
def classR (rs : List Raw) (g t : Sd) : Int := if t.rs ≠ [] ∧ (hasK rs 1 && (hasK rs 2 && hasK rs 5)) = false then 2 else if 0 < g.wr ∨ 0 < t.wr then 1 else 0
def rawsB (l : List Int) : Option (List Raw) :=
  if l.length < 2 then none else if l.length < 4 + (numOf (l.take 2)).toNat then none else
    if l.length < 4 + (numOf (l.take 2)).toNat + (numOf ((l.drop (2 + (numOf (l.take 2)).toNat)).take 2)).toNat then none else
      split ((l.drop (4 + (numOf (l.take 2)).toNat)).take (numOf ((l.drop (2 + (numOf (l.take 2)).toNat)).take 2)).toNat)
def up0 : Up := ⟨Att.zero, false, z16, [], []⟩
def upOf (a : Att) (g t : Sd) (c : Int) : Up := if c = 2 then ⟨Att.zero, false, z16, [], g.rs ++ t.rs⟩ else if t.rs = [] then ⟨Att.zero, false, z16, [], g.rs⟩ else ⟨a, t.nv, t.nl, t.rs, g.rs⟩
def mx (a b : Int) : Int := if a < b then b else a
def upRd (l : List Int) : Up × Int × Int × Int × List Int := match rawsB l with
  | none => (up0, 3, 3, 1, [])
  | some rs => if (readM rs).2.1 = 3 then (up0, 3, (readM rs).2.2.1, (readM rs).2.2.2.1, (readM rs).2.2.2.2)
    else match saidR rs 15 with
      | none => (up0, 3, 3, 9, firstB rs 15)
      | some g => match saidR rs 14 with
        | none => (up0, 3, 3, 9, firstB rs 14)
        | some t => (upOf (readM rs).1 g t (mx (readM rs).2.1 (classR rs g t)), mx (readM rs).2.1 (classR rs g t), 0, 0, [])

/-! In the cursor's words. -/
theorem plc_fst (rs : List Raw) (k : Int) : (∃ (i : Nat) (h : i < rs.length), plc rs k = i ∧ fstK rs k = some rs[i] ∧ rs[i].2.1 = k) ∨ (plc rs k = -1 ∧ fstK rs k = none) := by
  unfold plc fstK
  cases hi : rs.findIdx? (fun r => decide (r.2.1 = k)) with
  | none =>
    right
    refine ⟨rfl, ?_⟩
    rw [List.findIdx?_eq_none_iff] at hi
    rw [List.find?_eq_none]
    intro x hx
    have := hi x hx
    simpa using this
  | some i =>
    left
    rw [List.findIdx?_eq_some_iff_getElem] at hi
    obtain ⟨h1, h2, h3⟩ := hi
    refine ⟨i, h1, rfl, ?_, by simpa using h2⟩
    rw [List.find?_eq_some_iff_getElem]
    exact ⟨h2, i, h1, rfl, fun j hj => by simpa using h3 j hj⟩
def sq1 (l : List Int) : CS := nS l (0, 0) 2
def sq2 (l : List Int) : CS := tS l (sq1 l) (nV l (0, 0) 2)
def sq3 (l : List Int) : CS := nS l (sq2 l) 2
def spV7 (l : List Int) : List Int := tV l (sq3 l) (nV l (sq2 l) 2)
def sq4 (l : List Int) : CS := tS l (sq3 l) (nV l (sq2 l) 2)
theorem nS_fit {l : List Int} {p k : Nat} (h1 : 1 ≤ k) (h8 : k ≤ 8) (h : p + k ≤ l.length) : nV l (p, 0) k = numOf ((l.drop p).take k) ∧ nS l (p, 0) k = (p + k, 0) := by
  have hok : numOk k := ⟨by omega, by omega⟩
  have ⟨h2, h3⟩ := tS_in (n := k) h
  unfold tV at h2
  unfold tS at h3
  injection h3 with h3 h4
  refine ⟨?_, ?_⟩
  · simp only [nV, numVal, if_pos hok, h2]
  · simp only [nS, numAt, numErr, if_pos hok, h3, h4]
theorem nS_no {l : List Int} {p k : Nat} (h1 : 1 ≤ k) (h8 : k ≤ 8) (hp : p ≤ l.length) (h : l.length < p + k) : nV l (p, 0) k = 0 ∧ nS l (p, 0) k = (p, 3) := by
  have hok : numOk k := ⟨by omega, by omega⟩
  have ⟨h2, h3⟩ := tS_out (n := (k : Int)) hp (by omega)
  unfold tV at h2
  unfold tS at h3
  injection h3 with h3 h4
  refine ⟨?_, ?_⟩
  · simp only [nV, numVal, if_pos hok, h2]; rfl
  · simp only [nS, numAt, numErr, if_pos hok, h3, h4]
theorem nS_err {l : List Int} (p : Nat) (e : Int) (k : Nat) (h1 : 1 ≤ k) (h8 : k ≤ 8) (he : e ≠ 0) : nV l (p, e) k = 0 ∧ nS l (p, e) k = (p, e) := by
  have hok : numOk k := ⟨by omega, by omega⟩
  have ⟨h2, h3⟩ := tS_err l p e k he
  unfold tV at h2
  unfold tS at h3
  injection h3 with h3 h4
  refine ⟨?_, ?_⟩
  · simp only [nV, numVal, if_pos hok, h2]; rfl
  · simp only [nS, numAt, numErr, if_pos hok, h3, h4]
theorem rawsB_cur (l : List Int) (ho : Oct l) : (∃ (e : Int), (sq4 l).2 = e ∧ e ≠ 0 ∧ rawsB l = none) ∨ ((sq4 l).2 = 0 ∧ rawsB l = split (spV7 l)) := by
  unfold rawsB sq4 spV7 sq3 sq2 sq1
  by_cases h2 : l.length < 2
  · left
    have ⟨a1, a2⟩ := nS_no (l := l) (p := 0) (k := 2) (by omega) (by omega) (by omega) (by omega)
    have a1 : nV l (0, 0) 2 = 0 := a1
    have a2 : nS l (0, 0) 2 = (0, 3) := a2
    rw [a1, a2, if_pos h2]
    have ⟨b1, b2⟩ := tS_err l 0 3 0 (by decide)
    rw [b2]
    have ⟨c1, c2⟩ := nS_err (l := l) 0 3 2 (by omega) (by omega) (by decide)
    have c1 : nV l (0, 3) 2 = 0 := c1
    have c2 : nS l (0, 3) 2 = (0, 3) := c2
    rw [c1, c2, b2]
    exact ⟨3, rfl, by decide, rfl⟩
  · rw [if_neg h2]
    have ⟨a1, a2⟩ := nS_fit (l := l) (p := 0) (k := 2) (by omega) (by omega) (by omega)
    rw [List.drop_zero] at a1
    have a1 : nV l (0, 0) 2 = numOf (l.take 2) := a1
    have a2 : nS l (0, 0) 2 = (2, 0) := a2
    have hb := numOf_bd (l.take 2) (fun x hx => ho x (List.mem_of_mem_take hx))
    rw [a1, a2]
    obtain ⟨n, hn⟩ : ∃ n : Nat, numOf (l.take 2) = n := ⟨(numOf (l.take 2)).toNat, by omega⟩
    rw [hn, Int.toNat_natCast]
    by_cases h3 : l.length < 2 + n
    · left
      rw [if_pos (by omega)]
      have ⟨b1, b2⟩ := tS_out (l := l) (p := 2) (n := (n : Int)) (by omega) (by omega)
      rw [b2]
      have ⟨c1, c2⟩ := nS_err (l := l) 2 3 2 (by omega) (by omega) (by decide)
      have c1 : nV l (2, 3) 2 = 0 := c1
      have c2 : nS l (2, 3) 2 = (2, 3) := c2
      rw [c1, c2]
      have ⟨d1, d2⟩ := tS_err l 2 3 0 (by decide)
      rw [d2]
      exact ⟨3, rfl, by decide, rfl⟩
    · have ⟨b1, b2⟩ := tS_in (l := l) (p := 2) (n := n) (by omega)
      rw [b2]
      by_cases h4 : l.length < 4 + n
      · left
        rw [if_pos h4]
        have ⟨c1, c2⟩ := nS_no (l := l) (p := 2 + n) (k := 2) (by omega) (by omega) (by omega) (by omega)
        have c1 : nV l (2 + n, 0) 2 = 0 := c1
        have c2 : nS l (2 + n, 0) 2 = (2 + n, 3) := c2
        rw [c1, c2]
        have ⟨d1, d2⟩ := tS_err l (2 + n) 3 0 (by decide)
        rw [d2]
        exact ⟨3, rfl, by decide, rfl⟩
      · rw [if_neg h4]
        have ⟨c1, c2⟩ := nS_fit (l := l) (p := 2 + n) (k := 2) (by omega) (by omega) (by omega)
        have c1 : nV l (2 + n, 0) 2 = numOf ((l.drop (2 + n)).take 2) := c1
        have c2 : nS l (2 + n, 0) 2 = (2 + n + 2, 0) := c2
        have hb2 := numOf_bd ((l.drop (2 + n)).take 2) (fun x hx => ho x (List.mem_of_mem_drop (List.mem_of_mem_take hx)))
        rw [c1, c2]
        obtain ⟨m, hm⟩ : ∃ m : Nat, numOf ((l.drop (2 + n)).take 2) = m := ⟨(numOf ((l.drop (2 + n)).take 2)).toNat, by omega⟩
        rw [hm, Int.toNat_natCast]
        by_cases h5 : l.length < 4 + n + m
        · left
          rw [if_pos h5]
          have ⟨d1, d2⟩ := tS_out (l := l) (p := 2 + n + 2) (n := (m : Int)) (by omega) (by omega)
          rw [d2]
          exact ⟨3, rfl, by decide, rfl⟩
        · right
          rw [if_neg h5]
          have ⟨d1, d2⟩ := tS_in (l := l) (p := 2 + n + 2) (n := m) (by omega)
          rw [d1, d2, show 2 + n + 2 = 4 + n by omega]
          exact ⟨rfl, rfl⟩
end Go.Proofs.YtdgoeibfggjbmaaGreatDoor
