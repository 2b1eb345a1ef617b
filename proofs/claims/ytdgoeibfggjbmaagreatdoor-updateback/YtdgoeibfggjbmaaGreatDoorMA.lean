/-
  Put together: AwA AwB AwC AwD.
-/
import Derived.Test.YtdgoeibfggjbmaaGreatDoorMR
import Derived.Test.YtdgoeibfggjbmaaGreatDoorMV
import Derived.Laws.MakeOwn
import Derived.Test.YtdgoeibfggjbmaaGreatDoorMH
import Derived.Deep.DeepCutAuto
import Derived.Deep.RegionHeld3
namespace Go.Proofs.YtdgoeibfggjbmaaGreatDoor
open Go.RowKit
set_option maxRecDepth 100000
set_option linter.unusedSimpArgs false
set_option linter.unusedVariables false

def encN (l : List Int) : List Int := l.flatMap fun n => be 4 n
theorem encN_cons (n : Int) (l : List Int) : encN (n :: l) = be 4 n ++ encN l := rfl
theorem encN_len (l : List Int) : (encN l).length = 4 * l.length := by
  induction l with
  | nil => rfl
  | cons n l ih => rw [encN_cons, List.length_append, be_len, ih, List.length_cons]; omega
def lfl (f : Int) (v : List Int) : Int := if 255 < v.length then f + 16 else f
def rawW (f k : Int) (v : List Int) : Raw := (lfl f v, k, v)
def pathW (l : List Int) : List Int := if l = [] then [] else [2, (l.length : Int)] ++ encN l
def pmW (p : Pm) : List Int := [0, p.kind] ++ be 3 p.label ++ (if p.kind = 6 then p.ip.take (if p.v6 then 16 else 4) else [])
def opt {α : Type} (b : Bool) (x : α) : List α := if b then [x] else []
def writeR (a : Att) : List Raw :=
  [rawW 64 1 [a.origin], rawW 64 2 (pathW a.path)] ++ (opt a.hasMed (rawW 128 4 (be 4 a.med)) ++ ([rawW 64 5 (be 4 a.pref)] ++ (opt (decide (a.orr ≠ 0)) (rawW 128 9 (be 4 a.orr)) ++ (opt (decide (a.clus ≠ [])) (rawW 128 10 (encN a.clus)) ++
    (opt (decide (a.comms ≠ [])) (rawW 192 16 a.comms.flatten) ++ opt (decide (a.pm.kind ≠ 0)) (rawW 192 22 (pmW a.pm)))))))
def rightPm (p : Pm) : Bool := decide (0 ≤ p.kind) && (decide (p.kind ≤ 255) && (decide (p.label ≤ 16777215) && (rightB p.v6 p.ip && ((decide (p.kind = 6) || (decide (p.v6 = false) && decide (p.ip = z16))) && (decide (p.kind ≠ 0) || decide (p.label = 0))))))
def rightAt (a : Att) : Bool := decide (0 ≤ a.origin) && (decide (a.origin ≤ 2) && (rightPm a.pm && (a.hasMed || decide (a.med = 0))))
def writeE (a : Att) : Int := if rightAt a = false then 2 else if 255 < a.path.length ∨ 255 < a.clus.length ∨ 255 < a.comms.length then 5 else 0

structure AtFits (a : Att) : Prop where
  path : ∀ n ∈ a.path, 0 ≤ n ∧ n ≤ 4294967295
  clus : ∀ n ∈ a.clus, 0 ≤ n ∧ n ≤ 4294967295
  comms : ∀ l ∈ a.comms, l.length = 8 ∧ Oct l
  med : 0 ≤ a.med ∧ a.med ≤ 4294967295
  pref : 0 ≤ a.pref ∧ a.pref ≤ 4294967295
  orr : 0 ≤ a.orr ∧ a.orr ≤ 4294967295
  label : 0 ≤ a.pm.label ∧ a.pm.label ≤ 4294967295
  ip : a.pm.ip.length = 16
  oct : Oct a.pm.ip

theorem foldl_numW (r : List Int) : ∀ x : Int, r.foldl (fun n b => n * 256 + b) x = x * 256 ^ r.length + numOf r := by
  induction r with
  | nil => intro x; simp [numOf]
  | cons b r ih =>
    intro x
    unfold numOf
    rw [List.foldl_cons, List.foldl_cons, ih, ih, List.length_cons, Int.pow_succ, Int.zero_mul, Int.zero_add, Int.add_mul, Int.mul_assoc, Int.mul_comm 256 (256 ^ r.length), Int.add_assoc]
theorem numOf_consW (b : Int) (r : List Int) : numOf (b :: r) = b * 256 ^ r.length + numOf r := by
  unfold numOf
  rw [List.foldl_cons, foldl_numW]
  simp [numOf]
theorem be4_numW (n : Int) (h0 : 0 ≤ n) (h1 : n ≤ 4294967295) : numOf (be 4 n) = n := by
  simp only [be, numOf_consW, be_len]
  simp [numOf]
  omega
theorem be3_numW (n : Int) (h0 : 0 ≤ n) (h1 : n ≤ 16777215) : numOf (be 3 n) = n := by
  simp only [be, numOf_consW, be_len]
  simp [numOf]
  omega
theorem be2_numW (n : Int) (h0 : 0 ≤ n) (h1 : n ≤ 65535) : numOf (be 2 n) = n := by
  simp only [be, numOf_consW, be_len]
  simp [numOf]
  omega
theorem be1_numW (n : Int) (h0 : 0 ≤ n) (h1 : n ≤ 255) : numOf (be 1 n) = n := by
  simp only [be, numOf_consW, be_len]
  simp [numOf]
  omega

theorem nums_enc : ∀ (l : List Int), (∀ n ∈ l, 0 ≤ n ∧ n ≤ 4294967295) → nums (encN l) = l := by
  intro l h
  unfold nums
  rw [encN_len, Nat.mul_div_cancel_left _ (by omega)]
  apply List.ext_getElem
  · simp
  · intro i h1 h2
    rw [List.getElem_map, List.getElem_range]
    have hd : ∀ (l : List Int) (i : Nat) (hi : i < l.length), ((encN l).drop (4 * i)).take 4 = be 4 l[i] := by
      intro l
      induction l with
      | nil => intro i hi; cases hi
      | cons n l ih =>
        intro i hi
        cases i with
        | zero => rw [encN_cons]; simp [be_len]
        | succ i =>
          rw [encN_cons, show 4 * (i + 1) = 4 + 4 * i by omega, ← List.drop_drop, List.drop_left' (be_len 4 n)]
          simpa using ih i (by simpa using hi)
    rw [hd l i h2, be4_numW _ (h _ (List.getElem_mem h2)).1 (h _ (List.getElem_mem h2)).2]
theorem cmms_enc (l : List (List Int)) (h : ∀ x ∈ l, x.length = 8 ∧ Oct x) : cmms l.flatten = l ∧ l.flatten.length = 8 * l.length := by
  have hl : ∀ l : List (List Int), (∀ x ∈ l, x.length = 8 ∧ Oct x) → l.flatten.length = 8 * l.length := by
    intro l
    induction l with
    | nil => intro _; rfl
    | cons x l ih => intro h; rw [List.flatten_cons, List.length_append, ih (fun y hy => h y (List.mem_cons_of_mem _ hy)), (h x (List.mem_cons_self ..)).1, List.length_cons]; omega
  refine ⟨?_, hl l h⟩
  unfold cmms
  rw [hl l h, Nat.mul_div_cancel_left _ (by omega)]
  apply List.ext_getElem
  · simp
  · intro i h1 h2
    rw [List.getElem_map, List.getElem_range]
    have hd : ∀ (l : List (List Int)) (_ : ∀ x ∈ l, x.length = 8 ∧ Oct x) (i : Nat) (hi : i < l.length), (l.flatten.drop (8 * i)).take 8 = l[i] := by
      intro l
      induction l with
      | nil => intro _ i hi; cases hi
      | cons x l ih =>
        intro h i hi
        have hx := (h x (List.mem_cons_self ..)).1
        cases i with
        | zero => rw [List.flatten_cons]; simp [hx]
        | succ i =>
          rw [List.flatten_cons, show 8 * (i + 1) = 8 + 8 * i by omega, ← List.drop_drop, List.drop_left' hx]
          simpa using ih (fun y hy => h y (List.mem_cons_of_mem _ hy)) i (by simpa using hi)
    exact hd l h i h2

def Good (r : Raw) : Prop := (bnd r.2.1).isSome = true ∧ judge r.1 r.2.1 r.2.2 = 0
def keepR (a : Att) (r : Raw) : Att := keepA a r.2.1 r.2.2
theorem rdF_fine : ∀ (rs done : List Raw) (a : Att) (c : Int), 0 ≤ c → (∀ r ∈ rs, Good r) → (rs.map (·.2.1)).Nodup → (∀ r ∈ rs, r.2.1 ∉ done.map (·.2.1)) → rdF done a c rs = (rs.foldl keepR a, c, 0, 0, []) := by
  intro rs
  induction rs with
  | nil => intro done a c _ _ _ _; rfl
  | cons r rs ih =>
    intro done a c hc hg hn hd
    have hr := hg r (List.mem_cons_self ..)
    rw [List.map_cons, List.nodup_cons] at hn
    rw [rdF, if_neg (fun h => hd r (List.mem_cons_self ..) h.2), if_neg (by rw [hr.2]; decide), if_pos ⟨hr.1, hr.2⟩, hr.2, Int.max_eq_left hc, ih (done ++ [r]) _ c hc (fun x hx => hg x (List.mem_cons_of_mem _ hx)) hn.2]
    · rfl
    · intro x hx hin
      rw [List.map_append, List.mem_append] at hin
      rcases hin with hin | hin
      · exact hd x (List.mem_cons_of_mem _ hx) hin
      · have e : x.2.1 = r.2.1 := by simpa using hin
        exact hn.1 (e ▸ List.mem_map_of_mem hx)
theorem readM_fine (rs : List Raw) (hg : ∀ r ∈ rs, Good r) (hn : (rs.map (·.2.1)).Nodup) : readM rs = (rs.foldl keepR Att.zero, 0, 0, 0, []) :=
  rdF_fine rs [] _ 0 (by omega) hg hn (fun r _ h => by cases h)

theorem good_of (f k : Int) (v : List Int) (c : Int) (hf : f = 64 ∨ f = 128 ∨ f = 192) (hb : bnd k = some (f, c)) (hk : okV k v = true) : Good (rawW f k v) := by
  refine ⟨by show (bnd k).isSome = true; rw [hb]; rfl, ?_⟩
  show judge (lfl f v) k v = 0
  unfold judge
  rw [hb]
  have e : (bits .and .i64 (lfl f v) 192 == f) = true := by
    unfold lfl
    split <;> rcases hf with rfl | rfl | rfl <;> decide
  show (if (bits .and .i64 (lfl f v) 192 == f && okV k v) = true then 0 else c) = 0
  rw [e, hk]
  rfl
theorem mem_opt {α : Type} {b : Bool} {x y : α} (h : y ∈ opt b x) : b = true ∧ y = x := by
  unfold opt at h
  split at h
  · rename_i hb; exact ⟨hb, by simpa using h⟩
  · cases h
theorem opt_kinds (b : Bool) (f k : Int) (v : List Int) : (opt b (rawW f k v)).map (·.2.1) = opt b k := by unfold opt; split <;> rfl
theorem nodup8 : ∀ b1 b2 b3 b4 b5 : Bool, ([(1 : Int), 2] ++ (opt b1 4 ++ ([5] ++ (opt b2 9 ++ (opt b3 10 ++ (opt b4 16 ++ opt b5 22)))))).Nodup := by decide

theorem right_parts {a : Att} (hr : rightAt a = true) : 0 ≤ a.origin ∧ a.origin ≤ 2 ∧ rightPm a.pm = true ∧ (a.hasMed = true ∨ a.med = 0) := by
  unfold rightAt at hr
  simpa using hr
theorem pm_parts {a : Att} (hr : rightAt a = true) : 0 ≤ a.pm.kind ∧ a.pm.kind ≤ 255 ∧ a.pm.label ≤ 16777215 ∧ rightB a.pm.v6 a.pm.ip = true ∧ (a.pm.kind = 6 ∨ (a.pm.v6 = false ∧ a.pm.ip = z16)) ∧ (a.pm.kind ≠ 0 ∨ a.pm.label = 0) := by
  have := (right_parts hr).2.2.1
  unfold rightPm at this
  simpa using this
theorem write_kinds (a : Att) : ((writeR a).map (·.2.1)).Nodup := by
  unfold writeR
  simp only [List.map_append, opt_kinds]
  exact nodup8 _ _ _ _ _
section
variable {a : Att} (hf : AtFits a) (hr : rightAt a = true)
include hf hr in
theorem write_good : ∀ r ∈ writeR a, Good r := by
  obtain ⟨h0, h1, h2, h3⟩ := right_parts hr
  obtain ⟨p0, p1, p2, p3, p4, p5⟩ := pm_parts hr
  intro r hm
  unfold writeR at hm
  simp only [List.mem_append, List.mem_cons, List.mem_nil_iff, or_false] at hm
  rcases hm with (rfl | rfl) | hm | rfl | hm | hm | hm | hm
  · exact good_of 64 1 _ 2 (by omega) (by decide) (by simp [okV]; omega)
  · refine good_of 64 2 _ 2 (by omega) (by decide) ?_
    show okPath (pathW a.path) = true
    unfold okPath pathW
    split
    · rfl
    · rename_i hne
      have : 0 < a.path.length := List.length_pos_iff.2 hne
      simp [encN_len, this]
      omega
  · obtain ⟨_, rfl⟩ := mem_opt hm
    exact good_of 128 4 _ 2 (by omega) (by decide) (by simp [okV, be_len])
  · exact good_of 64 5 _ 2 (by omega) (by decide) (by simp [okV, be_len])
  · obtain ⟨hb, rfl⟩ := mem_opt hm
    refine good_of 128 9 _ 2 (by omega) (by decide) ?_
    have : a.orr ≠ 0 := by simpa using hb
    simp [okV, be_len, be4_numW _ hf.orr.1 hf.orr.2, this]
  · obtain ⟨hb, rfl⟩ := mem_opt hm
    have hne : a.clus ≠ [] := by simpa using hb
    have : 0 < a.clus.length := List.length_pos_iff.2 hne
    refine good_of 128 10 _ 2 (by omega) (by decide) ?_
    simp [okV, encN_len]
    omega
  · obtain ⟨hb, rfl⟩ := mem_opt hm
    have hne : a.comms ≠ [] := by simpa using hb
    have : 0 < a.comms.length := List.length_pos_iff.2 hne
    refine good_of 192 16 _ 2 (by omega) (by decide) ?_
    simp only [okV, (cmms_enc _ hf.comms).2]
    simp
    omega
  · obtain ⟨hb, rfl⟩ := mem_opt hm
    refine good_of 192 22 _ 2 (by omega) (by decide) ?_
    show okPmsi (pmW a.pm) = true
    unfold okPmsi pmW
    have h16 := hf.ip
    by_cases h6 : a.pm.kind = 6
    · cases hv : a.pm.v6 <;> simp [h6, be_len, h16]
    · simp [h6, be_len]
include hf hr in
theorem pm_back : a.pm.kind ≠ 0 → pmOf (pmW a.pm) = a.pm := by
  intro hk
  obtain ⟨p0, p1, p2, p3, p4, p5⟩ := pm_parts hr
  have h16 := hf.ip
  have hlab := hf.label
  have hoct := hf.oct
  clear hf hr
  generalize a.pm = p at *
  cases p with
  | mk kind label v6 ip =>
    simp only at *
    have e1 : (pmW ⟨kind, label, v6, ip⟩).getD 1 0 = kind := by simp [pmW]
    have e2 : ((pmW ⟨kind, label, v6, ip⟩).drop 2).take 3 = be 3 label := by simp [pmW, be_len, List.take_append]
    have e3 : (pmW ⟨kind, label, v6, ip⟩).drop 5 = if kind = 6 then ip.take (if v6 then 16 else 4) else [] := by
      show ([0, kind] ++ be 3 label ++ _).drop 5 = _
      rw [show 5 = ([0, kind] ++ be 3 label).length by simp [be_len], List.drop_left]
    unfold pmOf
    rw [e1, e2, e3, be3_numW _ hlab.1 p2, if_neg hk]
    by_cases h6 : kind = 6
    · subst h6
      rw [if_pos rfl, if_pos rfl]
      cases v6
      · have hz : ip = ip.take 4 ++ List.replicate 12 0 := by
          have h4 : ip.drop 4 = List.replicate 12 0 := by simpa [rightB] using p3
          conv => lhs; rw [← List.take_append_drop 4 ip, h4]
        unfold ipOf
        rw [if_pos (by simp [h16])]
        simp only [Pm.mk.injEq, true_and]
        exact hz.symm
      · unfold ipOf
        rw [if_neg (by simp [h16])]
        simp [h16, List.take_of_length_le]
    · rw [if_neg h6]
      obtain ⟨rfl, rfl⟩ := p4.resolve_left h6
      rfl
include hf hr in
theorem read_write : readM (writeR a) = (a, 0, 0, 0, []) := by
  rw [readM_fine _ (write_good hf hr) (write_kinds a)]
  obtain ⟨h0, h1, h2, h3⟩ := right_parts hr
  obtain ⟨p0, p1, p2, p3, p4, p5⟩ := pm_parts hr
  have hpm := pm_back hf hr
  have k1 : nums ((pathW a.path).drop 2) = a.path := by
    unfold pathW
    split
    · rename_i h; rw [h]; rfl
    · rw [show ([2, (a.path.length : Int)] ++ encN a.path).drop 2 = encN a.path from rfl, nums_enc _ hf.path]
  have k4 := be4_numW a.med hf.med.1 hf.med.2
  have k5 := be4_numW a.pref hf.pref.1 hf.pref.2
  have k9 := be4_numW a.orr hf.orr.1 hf.orr.2
  have k10 := nums_enc _ hf.clus
  have k16 := (cmms_enc _ hf.comms).1
  have hz : a.pm.kind = 0 → a.pm = Pm.zero := by
    intro hk
    obtain ⟨q1, q2⟩ := p4.resolve_left (by omega)
    have q3 := p5.resolve_left (by simpa using hk)
    cases hpm2 : a.pm with
    | mk kind label v6 ip =>
      rw [hpm2] at hk q1 q2 q3
      simp only at hk q1 q2 q3
      subst hk q1 q2 q3
      rfl
  clear hf hr p0 p1 p2 p3 p4 p5
  have fold_opt : ∀ (b : Bool) (r : Raw) (x : Att), (opt b r).foldl keepR x = if b then keepR x r else x := by intro b r x; cases b <;> rfl
  unfold writeR
  rw [List.foldl_append, List.foldl_append, List.foldl_append, List.foldl_append, List.foldl_append, List.foldl_append, fold_opt, fold_opt, fold_opt, fold_opt, fold_opt]
  congr 1
  cases a with
  | mk origin path hasMed med pref orr clus comms pm =>
    simp only at *
    have e0 : ([rawW 64 1 [origin], rawW 64 2 (pathW path)]).foldl keepR Att.zero = { Att.zero with origin := origin, path := path } := by
      simp only [List.foldl_cons, List.foldl_nil, keepR, rawW, keepA]
      simp [k1, List.getD]
    rw [e0]
    have e1 : (if hasMed = true then keepR { Att.zero with origin := origin, path := path } (rawW 128 4 (be 4 med)) else { Att.zero with origin := origin, path := path }) = { Att.zero with origin := origin, path := path, hasMed := hasMed, med := med } := by
      cases hasMed
      · obtain rfl : med = 0 := h3.resolve_left (by decide)
        rfl
      · simp only [keepR, rawW, keepA]
        simp [k4]
    rw [e1]
    have e2 : [rawW 64 5 (be 4 pref)].foldl keepR { Att.zero with origin := origin, path := path, hasMed := hasMed, med := med } = { Att.zero with origin := origin, path := path, hasMed := hasMed, med := med, pref := pref } := by
      simp only [List.foldl_cons, List.foldl_nil, keepR, rawW, keepA]
      simp [k5]
    rw [e2]
    have e3 : (if decide (orr ≠ 0) = true then keepR { Att.zero with origin := origin, path := path, hasMed := hasMed, med := med, pref := pref } (rawW 128 9 (be 4 orr)) else { Att.zero with origin := origin, path := path, hasMed := hasMed, med := med, pref := pref }) = { Att.zero with origin := origin, path := path, hasMed := hasMed, med := med, pref := pref, orr := orr } := by
      by_cases ho : orr = 0
      · subst ho; rfl
      · rw [if_pos (by simpa using ho)]
        simp only [keepR, rawW, keepA]
        simp [k9]
    rw [e3]
    have e4 : (if decide (clus ≠ []) = true then keepR { Att.zero with origin := origin, path := path, hasMed := hasMed, med := med, pref := pref, orr := orr } (rawW 128 10 (encN clus)) else { Att.zero with origin := origin, path := path, hasMed := hasMed, med := med, pref := pref, orr := orr }) = { Att.zero with origin := origin, path := path, hasMed := hasMed, med := med, pref := pref, orr := orr, clus := clus } := by
      by_cases ho : clus = []
      · subst ho; rfl
      · rw [if_pos (by simpa using ho)]
        simp only [keepR, rawW, keepA]
        simp [k10]
    rw [e4]
    have e5 : (if decide (comms ≠ []) = true then keepR { Att.zero with origin := origin, path := path, hasMed := hasMed, med := med, pref := pref, orr := orr, clus := clus } (rawW 192 16 comms.flatten) else { Att.zero with origin := origin, path := path, hasMed := hasMed, med := med, pref := pref, orr := orr, clus := clus }) = { Att.zero with origin := origin, path := path, hasMed := hasMed, med := med, pref := pref, orr := orr, clus := clus, comms := comms } := by
      by_cases ho : comms = []
      · subst ho; rfl
      · rw [if_pos (by simpa using ho)]
        simp only [keepR, rawW, keepA]
        simp [k16]
    rw [e5]
    by_cases ho : pm.kind = 0
    · rw [if_neg (by simp [ho]), hz ho]; rfl
    · rw [if_pos (by simpa using ho)]
      simp only [keepR, rawW, keepA]
      simp [hpm ho, Att.zero]
end

/-! Bytes there and back. -/
theorem one_enc (r : Raw) (tl : List Int) (h : encE r = 0) : one (encB r ++ tl) = some (r, (encB r).length) := by
  obtain ⟨f, k, v⟩ := r
  unfold encE at h
  simp only at h
  split at h
  · rename_i hb
    split at h
    · rename_i hl
      have hN : numOf (be (lsz f) v.length) = v.length := by
        rcases lsz_12 f with e | e <;> rw [e] at hl ⊢
        · exact be1_numW _ (by omega) (by omega)
        · exact be2_numW _ (by omega) (by omega)
      have e0 : (encB (f, k, v) ++ tl).getD 0 0 = f := by simp [encB]
      have e1 : (encB (f, k, v) ++ tl).getD 1 0 = k := by simp [encB]
      have e2 : ((encB (f, k, v) ++ tl).drop 2).take (lsz f) = be (lsz f) v.length := by
        simp only [encB, List.cons_append, List.nil_append, List.drop_succ_cons, List.drop_zero]
        rw [List.append_assoc]
        rw [List.take_left' (be_len _ _)]
      have e3 : (encB (f, k, v) ++ tl).drop (2 + lsz f) = v ++ tl := by
        simp only [encB, List.cons_append, List.nil_append]
        rw [Nat.add_comm, List.drop_succ_cons, List.drop_succ_cons, List.append_assoc, List.drop_left' (be_len _ _)]
      have e4 : (encB (f, k, v)).length = 2 + lsz f + v.length := by simp [encB, be_len]; omega
      unfold one
      rw [e0, e1, e2, e3, hN, Int.toNat_natCast, List.length_append, e4, if_pos (by omega), if_pos (by omega), List.take_left]
    · cases h
  · cases h
theorem encB_pos (r : Raw) : 0 < (encB r).length := by simp [encB]
theorem spl_join : ∀ (rs : List Raw) (m : Nat), (∀ r ∈ rs, encE r = 0) → (joinB rs).length ≤ m → spl m (joinB rs) = some rs := by
  intro rs
  induction rs with
  | nil => intro m _ _; exact spl_nil m
  | cons r rs ih =>
    intro m he hm
    have e : joinB (r :: rs) = encB r ++ joinB rs := rfl
    rw [e] at hm ⊢
    have hp := encB_pos r
    rw [List.length_append] at hm
    cases m with
    | zero => omega
    | succ m =>
      rw [spl_some (x := r) (k := (encB r).length) (fun h => by rw [(List.append_eq_nil_iff.1 h).1] at hp; simp at hp) (one_enc r _ (he r (List.mem_cons_self ..))), List.drop_left, ih m (fun x hx => he x (List.mem_cons_of_mem _ hx)) (by omega)]
      rfl
theorem split_join (rs : List Raw) (he : ∀ r ∈ rs, encE r = 0) : split (joinB rs) = some rs := spl_join rs _ he (Nat.le_refl _)

theorem be_num1 (x : Int) (h : 0 ≤ x ∧ x < 256) : be 1 x = [x] := by simp [be]; omega
theorem be_num2 (x y : Int) (hx : 0 ≤ x ∧ x < 256) (hy : 0 ≤ y ∧ y < 256) : be 2 (x * 256 + y) = [x, y] := by simp [be]; omega
theorem one_back {r : List Int} {x : Raw} {k : Nat} (ho : Oct r) (h : one r = some (x, k)) : encE x = 0 ∧ encB x = r.take k ∧ k ≤ r.length := by
  unfold one at h
  split at h
  · rename_i h1
    split at h
    · rename_i h2
      injection h with h
      injection h with hx hk
      subst hx hk
      obtain ⟨f, r, rfl⟩ : ∃ f r', r = f :: r' := by cases r with | nil => (first | omega | (simp at h1; done) | (simp at h1; omega)) | cons a b => exact ⟨_, _, rfl⟩
      obtain ⟨kd, r, rfl⟩ : ∃ f r', r = f :: r' := by cases r with | nil => (first | omega | (simp at h1; done) | (simp at h1; omega)) | cons a b => exact ⟨_, _, rfl⟩
      have hfo := ho f (by simp)
      have hko := ho kd (by simp)
      have hro : Oct r := fun y hy => ho y (by simp [hy])
      simp only [List.getD_cons_zero, List.getD_cons_succ, List.drop_succ_cons, List.drop_zero, List.length_cons] at h1 h2 ⊢
      have hd : ∀ n, (f :: kd :: r).drop (2 + n) = r.drop n := fun n => by rw [Nat.add_comm]; rfl
      rw [hd]
      rcases lsz_12 f with e | e
      · rw [e] at h1 h2 ⊢
        obtain ⟨a, r, rfl⟩ : ∃ f r', r = f :: r' := by cases r with | nil => (first | omega | (simp at h1; done) | (simp at h1; omega)) | cons a b => exact ⟨_, _, rfl⟩
        have ha := hro a (by simp)
        have eN : numOf ((a :: r).take 1) = a := by simp [numOf]
        rw [eN] at h2 ⊢
        obtain ⟨n, rfl⟩ := Int.eq_ofNat_of_zero_le ha.1
        simp only [Int.toNat_natCast, List.length_cons, List.drop_succ_cons, List.drop_zero] at h2 ⊢
        have hl : (r.take n).length = n := by rw [List.length_take]; omega
        refine ⟨?_, ?_, by omega⟩
        · unfold encE
          simp only [hl, e]
          rw [if_pos (by omega), if_pos (by omega)]
        · unfold encB
          simp only [hl, e]
          rw [be_num1 _ ha, show 2 + 1 + n = n + 1 + 1 + 1 by omega]
          rfl
      · rw [e] at h1 h2 ⊢
        obtain ⟨a, r, rfl⟩ : ∃ f r', r = f :: r' := by cases r with | nil => (first | omega | (simp at h1; done) | (simp at h1; omega)) | cons a b => exact ⟨_, _, rfl⟩
        obtain ⟨b, r, rfl⟩ : ∃ f r', r = f :: r' := by cases r with | nil => (first | omega | (simp at h1; done) | (simp at h1; omega)) | cons a b => exact ⟨_, _, rfl⟩
        have ha := hro a (by simp)
        have hb := hro b (by simp)
        have eN : numOf ((a :: b :: r).take 2) = a * 256 + b := by simp [numOf]
        rw [eN] at h2 ⊢
        obtain ⟨n, hn⟩ := Int.eq_ofNat_of_zero_le (show 0 ≤ a * 256 + b by omega)
        have hB := be_num2 a b ha hb
        rw [hn] at h2 hB ⊢
        simp only [Int.toNat_natCast, List.length_cons, List.drop_succ_cons, List.drop_zero] at h2 ⊢
        have hl : (r.take n).length = n := by rw [List.length_take]; omega
        refine ⟨?_, ?_, by omega⟩
        · unfold encE
          simp only [hl, e]
          rw [if_pos (by omega), if_pos (by omega)]
        · unfold encB
          simp only [hl, e]
          rw [hB, show 2 + 2 + n = n + 1 + 1 + 1 + 1 by omega]
          rfl
    · cases h
  · cases h
theorem spl_back : ∀ (m : Nat) (l : List Int) (rs : List Raw), Oct l → l.length ≤ m → spl m l = some rs → (∀ r ∈ rs, encE r = 0) ∧ joinB rs = l := by
  intro m
  induction m with
  | zero =>
    intro l rs _ hl h
    obtain rfl : l = [] := List.eq_nil_of_length_eq_zero (by omega)
    injection h with h
    subst h
    exact ⟨(fun r hr => by cases hr), rfl⟩
  | succ m ih =>
    intro l rs ho hl h
    by_cases h0 : l = []
    · subst h0
      rw [spl_nil] at h
      injection h with h
      subst h
      exact ⟨(fun r hr => by cases hr), rfl⟩
    · cases h1 : one l with
      | none => rw [spl_none h0 h1] at h; cases h
      | some p =>
        obtain ⟨x, k⟩ := p
        rw [spl_some h0 h1] at h
        obtain ⟨e1, e2, e3⟩ := one_back ho h1
        have hk := one_pos h1
        cases h2 : spl m (l.drop k) with
        | none => rw [h2] at h; cases h
        | some rs' =>
          rw [h2] at h
          injection h with h
          subst h
          obtain ⟨i1, i2⟩ := ih (l.drop k) rs' (fun y hy => ho y (List.mem_of_mem_drop hy)) (by rw [List.length_drop]; omega) h2
          refine ⟨fun r hr => ?_, ?_⟩
          · rcases List.mem_cons.1 hr with rfl | hr
            · exact e1
            · exact i1 r hr
          · show encB x ++ joinB rs' = l
            rw [e2, i2, List.take_append_drop]
theorem split_back {l : List Int} {rs : List Raw} (ho : Oct l) (h : split l = some rs) : (∀ r ∈ rs, encE r = 0) ∧ joinB rs = l := spl_back _ l rs ho (Nat.le_refl _) h
end Go.Proofs.YtdgoeibfggjbmaaGreatDoor
namespace Go.Proofs.YtdgoeibfggjbmaaGreatDoor
open Go.RowKit
set_option maxRecDepth 100000
set_option linter.unusedSimpArgs false
set_option linter.unusedVariables false

def BodyT (T0 : TypeId) (lo : Nat) (w : World) (A : Option Addr) (n : Nat) (l : List Int) : Prop :=
  Oct l ∧ l.length = n ∧ (n = 0 ∨ ∃ i o cs t, A = some ⟨i, o, none⟩ ∧ lo ≤ i ∧ w.heap[i]? = some (.cells cs t (0, 0)) ∧ t ≠ T0 ∧ ∀ j, j < n → cs[o + j]? = some (.int .u8 (l.getD j 0)))
section
variable {T0 : TypeId} {lo lo' : Nat} {w w' : World} {A : Option Addr} {n : Nat} {l : List Int}
theorem BodyT.keep (h : BodyT T0 lo w A n l) (hk : ∀ i c t, w.heap[i]? = some (.cells c t (0, 0)) → lo ≤ i → t ≠ T0 → w'.heap[i]? = w.heap[i]?) : BodyT T0 lo w' A n l :=
  ⟨h.1, h.2.1, h.2.2.imp id fun ⟨i, o, cs, t, a, b, d, e, f⟩ => ⟨i, o, cs, t, a, b, (hk i cs t d b e).trans d, e, f⟩⟩
theorem BodyT.below (h : BodyT T0 lo w A n l) (hb : Below w.heap.size w w') : BodyT T0 lo w' A n l := h.keep fun i c t hi _ _ => hb.block i (Array.getElem?_eq_some_iff.1 hi).1
theorem BodyT.low (h : BodyT T0 lo w A n l) (hl : lo' ≤ lo) : BodyT T0 lo' w A n l := ⟨h.1, h.2.1, h.2.2.imp id fun ⟨i, o, cs, t, a, b, d⟩ => ⟨i, o, cs, t, a, Nat.le_trans hl b, d⟩⟩
theorem BodyT.rd (h : BodyT T0 lo w A n l) : Rd w w.heap.size A n l := by
  obtain ⟨ho, hl, rfl | ⟨i, o, cs, t, rfl, _, hi, _, hc⟩⟩ := h
  · obtain rfl : l = [] := List.eq_nil_of_length_eq_zero hl
    exact Rd.nil_ A
  · refine ⟨hl, ho, fun _ => ⟨i, o, rfl, (Array.getElem?_eq_some_iff.1 hi).1, fun j hj => ?_⟩⟩
    simp only [World.cell?, hi]
    exact hc j hj
theorem OwnB.bodyT {v : Value} (h : OwnB lo w v l) (ht : 5 ≠ T0) : ∃ A c, v = .slice A l.length c ∧ BodyT T0 lo w A l.length l := by
  rcases h.own.2 with ⟨rfl, hn⟩ | ⟨g, cap, cur, rfl, hb, hg, hnc, hcm, hcs, hx⟩
  · exact ⟨none, 0, by rw [hn], h.oct, rfl, .inl hn⟩
  · refine ⟨_, cap, rfl, h.oct, rfl, .inr ⟨g, 0, cur, 5, rfl, hb, hg, ht, fun j hj => ?_⟩⟩
    have h1 : (u8s l)[j]? = some (.int .u8 (l.getD j 0)) := by simp [List.getD, hj]
    rw [← hx, List.getElem?_take, if_pos (by omega)] at h1
    rw [Nat.zero_add, ← Array.getElem?_toList]
    exact h1
theorem Byt.bodyT {g : Nat} (h : Byt w g 5 l) (ho : Oct l) (ht : 5 ≠ T0) (hg : lo ≤ g) : BodyT T0 lo w (some ⟨g, 0, none⟩) l.length l :=
  ⟨ho, rfl, .inr ⟨g, 0, _, 5, rfl, hg, h, ht, fun j hj => by simp [List.getD, hj]⟩⟩
end

structure OwnL (lo : Nat) (w : World) (v : Value) (ls : List (List Int)) : Prop where
  ex : ∃ cs, w.ownsRow lo 38 1 v ls.length cs ∧ cs.length = ls.length ∧ ∀ i (h : i < ls.length), ∃ A n c, cs[i]? = some (.slice A n c) ∧ BodyT 38 lo w A n ls[i]
theorem info_bytes : (Tryz.prog.info? 38).map (fun i => (i.zero, i.size, i.bytes)) = some (some (.slice none 0 0), 1, 24) := by kernel_rfl
section
variable {lo lo' : Nat} {w w' : World} {v : Value} {ls : List (List Int)}
theorem OwnL.nil_ (lo : Nat) (w : World) : OwnL lo w (.slice none 0 0) [] := ⟨[], World.ownsRow_nil _ _ _ _, rfl, fun i h => absurd h (by simp)⟩
theorem OwnL.below (h : OwnL lo w v ls) (hb : Below w.heap.size w w') : OwnL lo w' v ls := by
  obtain ⟨cs, h1, h2, h3⟩ := h.ex
  refine ⟨cs, own_keep h1 fun i c hi _ _ => hb.block i (Array.getElem?_eq_some_iff.1 hi).1, h2, fun i hi => ?_⟩
  obtain ⟨A, n, c, k1, k2⟩ := h3 i hi
  exact ⟨A, n, c, k1, k2.below hb⟩
theorem OwnL.low (h : OwnL lo w v ls) (hl : lo' ≤ lo) : OwnL lo' w v ls := by
  obtain ⟨cs, h1, h2, h3⟩ := h.ex
  refine ⟨cs, own_low h1 hl, h2, fun i hi => ?_⟩
  obtain ⟨A, n, c, k1, k2⟩ := h3 i hi
  exact ⟨A, n, c, k1, k2.low hl⟩
theorem OwnL.cells (h : OwnL lo w v ls) (hn : 0 < ls.length) : ∃ (g c : Nat) (cs : List Value), v = .slice (some ⟨g, 0, none⟩) ls.length c ∧ lo ≤ g ∧ g < w.heap.size ∧ cs.length = ls.length ∧ (∀ j y, cs[j]? = some y → w.cell? ⟨g, j, none⟩ = some y) ∧ ∀ i (h : i < ls.length), ∃ A n c, cs[i]? = some (.slice A n c) ∧ BodyT 38 lo w A n ls[i] := by
  obtain ⟨cs, h1, h2, h3⟩ := h.ex
  rcases h1.2 with ⟨rfl, h0⟩ | ⟨g, cap, cur, rfl, hb, hg, hnc, hcm, hcs, hx⟩
  · omega
  · refine ⟨g, cap, cs, rfl, hb, (Array.getElem?_eq_some_iff.1 hg).1, h2, fun j u hu => ?_, h3⟩
    rw [← hx, List.getElem?_take] at hu
    split at hu
    · simp only [World.cell?, hg]
      rw [← Array.getElem?_toList]
      exact hu
    · cases hu
theorem OwnL.rd (h : OwnL lo w v ls) : ∃ A c, v = .slice A ls.length c ∧ RdL w w.heap.size A ls.length ls := by
  rcases Nat.eq_zero_or_pos ls.length with h0 | h0
  · obtain ⟨cs, h1, _⟩ := h.ex
    rcases h1.2 with ⟨rfl, hn⟩ | ⟨g, cap, cur, rfl, _⟩
    · exact ⟨none, 0, by rw [hn], rfl, fun hp => by omega⟩
    · exact ⟨_, cap, rfl, rfl, fun hp => by omega⟩
  · obtain ⟨g, c, cs, rfl, _, hg, h2, hc, h3⟩ := h.cells h0
    refine ⟨_, c, rfl, rfl, fun _ => ⟨g, 0, rfl, hg, fun i hi => ?_⟩⟩
    obtain ⟨A, n, c1, k1, k2⟩ := h3 i hi
    exact ⟨A, n, c1, by rw [Nat.zero_add]; exact hc i _ k1, k2.rd⟩
end
theorem app_l_wp {o : Oper} {a : Act} {K : Act → World → Prop} {Q : Exit → Act → World → Prop} (s x : Operand)
    (ho : o.op = .call { callee := .builtin .append, args := #[s, x], argTypes := #[75, 75] }) {lo : Nat} {w : World} {v : Value} {T ls : List (List Int)} (h : OwnL lo w v T) (hlo : lo ≤ w.heap.size)
    {ad : Addr} {m c : Nat} {cs : List Value} (hm : cs.length = m) (hml : ls.length = m) (hlen : T.length + m ≤ 1000000) (hsrc : ∀ j y, cs[j]? = some y → w.cell? (ad.add j) = some y)
    (hb : ∀ i (h : i < ls.length), ∃ A n c, cs[i]? = some (.slice A n c) ∧ BodyT 38 lo w A n ls[i]) (hs : a.eval s = v) (hx : a.eval x = .slice (some ad) m c)
    (hk : ∀ v' w', OwnL lo w' v' (T ++ ls) → w.grownBy w' v.ownBlock → Below lo w w' → K (a.put o.dst v') w') : o.wp Tryz.prog a w K Q := by
  obtain ⟨i, hi, hz0, hz1, hz2⟩ := info_parts info_bytes
  obtain ⟨cs0, h1, h2, h3⟩ := h.ex
  have hone : ∀ u ∈ cs, u.oneCell' = true := fun u hu => by
    obtain ⟨j, hj, rfl⟩ := List.getElem_of_mem hu
    obtain ⟨A, n, c, k1, _⟩ := hb j (by omega)
    rw [List.getElem?_eq_getElem hj] at k1
    injection k1 with k1
    rw [k1]
    rfl
  obtain ⟨v', w', hrun, hown, hgr, _, _⟩ := run_append_own_at (P := Tryz.prog) w lo 75 o.type 38 i _ 1 24 Tryz.underlying75 hi hz0 hz1 hz2 rfl (by decide) v T.length cs0 h1 ad m c cs (by omega) hsrc hone (by unfold maxLen; omega) (by omega) hlo
  have hold : ∀ i, v.ownBlock = some i → lo ≤ i ∧ ∃ c, w.heap[i]? = some (.cells c 38 (0, 0)) := fun i hi => ⟨(h1.lt i hi).1, own_heap h1 hi⟩
  have hkeep : ∀ A n l, BodyT 38 lo w A n l → BodyT 38 lo w' A n l := fun A n l hb => hb.keep fun j c t hj _ ht => hgr.block j (Array.getElem?_eq_some_iff.1 hj).1 (fun e => by
    obtain ⟨_, c', hc'⟩ := hold j e.symm
    exact row_ne hj hc' ht rfl)
  unfold Oper.wp execOp
  simp only [ho, resolve, invoke, builtin, Sem.run_bind, Sem.run_pure, Result.andThen_ok, List.map_toArray, List.map_cons, List.map_nil, hs, hx, hrun]
  refine hk v' w' ⟨cs0 ++ cs, by rw [List.length_append, hml]; exact hown, by simp [h2, hm, hml], fun j hj => ?_⟩ hgr ((Below.refl lo w).grown hgr hlo (fun i e => (hold i e).1))
  rcases Nat.lt_or_ge j T.length with hj1 | hj1
  · obtain ⟨A, n, c, k1, k2⟩ := h3 j hj1
    exact ⟨A, n, c, by rw [List.getElem?_append_left (by omega)]; exact k1, by rw [List.getElem_append_left hj1]; exact hkeep _ _ _ k2⟩
  · have hj2 : j - T.length < ls.length := by rw [List.length_append] at hj; omega
    obtain ⟨A, n, c, k1, k2⟩ := hb (j - T.length) hj2
    exact ⟨A, n, c, by rw [List.getElem?_append_right (by omega), h2]; exact k1, by rw [List.getElem_append_right hj1]; exact hkeep _ _ _ k2⟩
theorem app_l {ops : Array Oper} {rest : List Oper} {o : Oper} {a : Act} {Q : Exit → Act → World → Prop} (hgd : o.guard = none) (s x : Operand)
    (ho : o.op = .call { callee := .builtin .append, args := #[s, x], argTypes := #[75, 75] }) {lo : Nat} {w : World} {v : Value} {T ls : List (List Int)} (h : OwnL lo w v T) (hlo : lo ≤ w.heap.size)
    {ad : Addr} {m c : Nat} {cs : List Value} (hm : cs.length = m) (hml : ls.length = m) (hlen : T.length + m ≤ 1000000) (hsrc : ∀ j y, cs[j]? = some y → w.cell? (ad.add j) = some y)
    (hb : ∀ i (h : i < ls.length), ∃ A n c, cs[i]? = some (.slice A n c) ∧ BodyT 38 lo w A n ls[i]) (hs : a.eval s = v) (hx : a.eval x = .slice (some ad) m c)
    (hk : ∀ v' w', OwnL lo w' v' (T ++ ls) → w.grownBy w' v.ownBlock → Below lo w w' → wpList Tryz.prog ops Q rest (a.put o.dst v') w') : wpList Tryz.prog ops Q (o :: rest) a w :=
  wpList_plain hgd fun _ hK => app_l_wp s x ho h hlo hm hml hlen hsrc hb hs hx fun v' w' h1 h2 h3 => hK _ _ (hk v' w' h1 h2 h3)
theorem app_l1 {ops : Array Oper} {rest : List Oper} {o : Oper} {a : Act} {Q : Exit → Act → World → Prop} (hgd : o.guard = none) (s x : Operand)
    (ho : o.op = .call { callee := .builtin .append, args := #[s, x], argTypes := #[75, 75] }) {lo : Nat} {w : World} {v : Value} {T : List (List Int)} (h : OwnL lo w v T) (hlo : lo ≤ w.heap.size) (hlen : T.length + 1 ≤ 1000000)
    {A : Option Addr} {n c : Nat} {l : List Int} (hb : BodyT 38 lo w A n l) (hs : a.eval s = v) (hx : a.eval x = .slice (some ⟨w.heap.size, 0, none⟩) 1 1)
    (hk : ∀ v' w', OwnL lo w' v' (T ++ [l]) → Below lo w w' → wpList Tryz.prog ops Q rest (a.put o.dst v') w') : wpList Tryz.prog ops Q (o :: rest) a (w.alloc (.cells #[.slice A n c] 38)) := by
  have hB := Blk.new w 38 #[.slice A n c]
  have hal : Below w.heap.size w (w.alloc (.cells #[.slice A n c] 38)) := (Below.refl _ _).alloc (Nat.le_refl _) _
  refine app_l hgd s x ho (h.below hal) (by simp; omega) (ls := [l]) (m := 1) (cs := [.slice A n c]) rfl rfl hlen (fun j y hy => ?_) (fun i hi => ?_) hs hx fun v' w' h1 _ h3 => hk v' w' h1 ((hal.mono hlo).trans h3)
  · rw [show ((⟨w.heap.size, 0, none⟩ : Addr).add j) = ⟨w.heap.size, j, none⟩ from by unfold Addr.add; split <;> simp_all, hB.cell]
    simpa using hy
  · obtain rfl : i = 0 := by simp at hi; omega
    exact ⟨A, n, c, rfl, hb.below hal⟩
theorem own_ls {lo : Nat} {w : World} (hlo : lo ≤ w.heap.size) (vs : List Value) (ls : List (List Int)) (hl : vs.length = ls.length) (hn : ls.length ≤ 100) (hb : ∀ i (h : i < ls.length), ∃ A n c, vs[i]? = some (.slice A n c) ∧ BodyT 38 lo w A n ls[i]) :
    OwnL lo (w.alloc (.cells vs.toArray 38)) (.slice (some ⟨w.heap.size, 0, none⟩) ls.length ls.length) ls := by
  have hal : Below w.heap.size w (w.alloc (.cells vs.toArray 38)) := (Below.refl _ _).alloc (Nat.le_refl _) _
  refine ⟨vs, ⟨by simp [hl], .inr ⟨w.heap.size, ls.length, vs.toArray, rfl, hlo, Blk.new w 38 vs.toArray, Nat.le_refl _, by unfold maxLen; omega, by simp [hl], List.take_of_length_le (by simp [hl])⟩⟩, hl, fun i hi => ?_⟩
  obtain ⟨A, n, c, k1, k2⟩ := hb i hi
  exact ⟨A, n, c, k1, k2.below hal⟩

structure OwnW (lo : Nat) (w : World) (v : Value) (rs : List Raw) : Prop where
  ex : ∃ cs, w.ownsRow lo 67 3 v rs.length cs ∧ Rs (BodyT 67 lo w) cs rs
section
variable {lo lo' : Nat} {w w' : World} {v : Value} {rs : List Raw}
theorem OwnW.nil_ (lo : Nat) (w : World) : OwnW lo w (.slice none 0 0) [] := ⟨[], World.ownsRow_nil _ _ _ _, Rs.nil_⟩
theorem OwnW.below (h : OwnW lo w v rs) (hb : Below w.heap.size w w') : OwnW lo w' v rs := by
  obtain ⟨cs, h1, h2⟩ := h.ex
  exact ⟨cs, own_keep h1 fun i c hi _ _ => hb.block i (Array.getElem?_eq_some_iff.1 hi).1, h2.imp fun A n l hx => hx.below hb⟩
theorem OwnW.low (h : OwnW lo w v rs) (hl : lo' ≤ lo) : OwnW lo' w v rs := by
  obtain ⟨cs, h1, h2⟩ := h.ex
  exact ⟨cs, own_low h1 hl, h2.imp fun A n l hx => hx.low hl⟩
theorem OwnW.rd (h : OwnW lo w v rs) : ∃ A c, v = .slice A rs.length c ∧ RdR w w.heap.size A rs.length rs := by
  obtain ⟨cs, h1, h2⟩ := h.ex
  rcases h1.2 with ⟨rfl, hn⟩ | ⟨g, cap, cur, rfl, hb, hg, hnc, hcm, hcs, hx⟩
  · exact ⟨none, 0, by rw [hn], ⟨rfl, fun hp => by omega⟩⟩
  · refine ⟨_, cap, rfl, ⟨rfl, fun _ => ⟨g, 0, rfl, (Array.getElem?_eq_some_iff.1 hg).1, fun i hi => ?_⟩⟩⟩
    have hcell : ∀ j u, cs[j]? = some u → w.cell? ⟨g, j, none⟩ = some u := by
      intro j u hu
      rw [← hx, List.getElem?_take] at hu
      split at hu
      · simp only [World.cell?, hg]
        rw [← Array.getElem?_toList]
        exact hu
      · cases hu
    obtain ⟨k0, k1, A1, n1, c1, k2, k3⟩ := h2.at_ i hi
    refine ⟨A1, n1, c1, ?_, ?_, ?_, k3.rd⟩
    · rw [Nat.zero_add]; exact hcell _ _ k0
    · rw [Nat.zero_add]; exact hcell _ _ k1
    · rw [Nat.zero_add]; exact hcell _ _ k2
end
theorem app_w {ops : Array Oper} {rest : List Oper} {o : Oper} {a : Act} {Q : Exit → Act → World → Prop} (hgd : o.guard = none) (s x : Operand)
    (ho : o.op = .call { callee := .builtin .append, args := #[s, x], argTypes := #[64, 64] }) {lo : Nat} {w : World} {v : Value} {T : List Raw} (h : OwnW lo w v T) (hlo : lo ≤ w.heap.size) (hlen : T.length ≤ 3000000000)
    {f k : Int} {A : Option Addr} {n c : Nat} {body : List Int} (hb : BodyT 67 lo w A n body) (hs : a.eval s = v) (hx : a.eval x = .slice (some ⟨w.heap.size, 0, none⟩) 1 1)
    (hk : ∀ v' w', OwnW lo w' v' (T ++ [(f, k, body)]) → Below lo w w' → wpList Tryz.prog ops Q rest (a.put o.dst v') w') :
    wpList Tryz.prog ops Q (o :: rest) a (w.alloc (.cells #[.int .i64 f, .int .i64 k, .slice A n c] 67)) := by
  refine wpList_plain hgd fun _ hK => ?_
  obtain ⟨i, hi, hz0, hz1, hz2⟩ := info_parts info_raw
  obtain ⟨cs, h1, h2⟩ := h.ex
  have hB := Blk.new w 67 #[.int .i64 f, .int .i64 k, .slice A n c]
  obtain ⟨v', w', hrun, hown, hgr, _, _⟩ := run_append_own_at (P := Tryz.prog) (w.alloc (.cells #[.int .i64 f, .int .i64 k, .slice A n c] 67)) lo 64 o.type 67 i _ 3 40 Tryz.underlying64 hi hz0 hz1 hz2 rfl (by decide) v T.length cs (h1.alloc _) ⟨w.heap.size, 0, none⟩ 1 1 [.int .i64 f, .int .i64 k, .slice A n c] rfl (by
      intro j u hu
      rw [show ((⟨w.heap.size, 0, none⟩ : Addr).add j) = ⟨w.heap.size, j, none⟩ from by unfold Addr.add; split <;> simp_all, hB.cell]
      simpa using hu) (by
      intro u hu
      simp only [List.mem_cons, List.mem_nil_iff, or_false] at hu
      rcases hu with rfl | rfl | rfl <;> rfl) (by unfold maxLen; omega) (by omega) (by simp; omega)
  have hold : ∀ i, v.ownBlock = some i → lo ≤ i ∧ ∃ c, w.heap[i]? = some (.cells c 67 (0, 0)) := fun i hi => ⟨(h1.lt i hi).1, own_heap h1 hi⟩
  have hg2 : w.grownBy w' v.ownBlock := ⟨hgr.os, hgr.tape, hgr.output, Nat.le_trans (by simp) hgr.size, fun j hj hne => (hgr.block j (by simp; omega) hne).trans (Below.heap_alloc _ _ _ hj)⟩
  have hkeep : ∀ A n l, BodyT 67 lo w A n l → BodyT 67 lo w' A n l := fun A n l hb => hb.keep fun j c t hj _ ht => hg2.block j (Array.getElem?_eq_some_iff.1 hj).1 (fun e => by
    obtain ⟨_, c', hc'⟩ := hold j e.symm
    exact row_ne hj hc' ht rfl)
  unfold Oper.wp execOp
  simp only [ho, resolve, invoke, builtin, Sem.run_bind, Sem.run_pure, Result.andThen_ok, List.map_toArray, List.map_cons, List.map_nil, hs, hx, hrun]
  exact hK _ _ (hk v' w' ⟨_, by simpa using hown, (h2.imp hkeep).app (Rs.one (hkeep _ _ _ hb))⟩ ((Below.refl lo w).grown hg2 hlo (fun i e => (hold i e).1)))

/-! number. -/
def NumPost (w : World) (n : Int) (s : Nat) (e : Ending) (w' : World) : Prop :=
  e = .returned (.slice (some ⟨w.heap.size, 0, none⟩) s s) ∧ Byt w' w.heap.size 5 (be s n) ∧ Below w.heap.size w w'
theorem numI_is (w : World) (n : Int) (s : Nat) (h0 : 0 ≤ n) (h1 : 1 ≤ s) (h8 : s ≤ 8) (hf : n < 256 ^ s) (hi : n ≤ 4294967295) : Calls Tryz.prog 144 #[.int .i64 n, .int .i64 s] w (NumPost w n s) := by
  have HP := Lib.hid (put_fits w none 0 0 [] n s (Rd.nil_ none) (by omega) h0 (by omega) (by omega) (by omega) (by simpa using hf))
  have hw : IntKind.u64.wrap n = n := by rw [IntKind.wrap_u64]; omega
  clear hf
  go_enter Tryz.func144, Tryz.ntmps144
  go_wp2_with fail
  refine HP.out.mono ?_
  rintro e w1 ⟨rfl, hb, hB⟩
  have HEnd : Hid (NumPost w n s (.returned (.slice (some ⟨w.heap.size, 0, none⟩) s s)) w1) := Lib.hid ⟨rfl, by simpa using hb, hB⟩
  clear hb hB
  simp only [List.length_nil, Nat.zero_add, Int.toNat_natCast]
  go_wp2
  go_ret
  exact HEnd.out
theorem numU_is (w : World) (n : Int) (s : Nat) (h0 : 0 ≤ n) (h1 : 1 ≤ s) (h8 : s ≤ 8) (hf : n < 256 ^ s) (hi : n ≤ 4294967295) : Calls Tryz.prog 146 #[.int .u32 n, .int .i64 s] w (NumPost w n s) := by
  have HP := Lib.hid (put_fits w none 0 0 [] n s (Rd.nil_ none) (by omega) h0 (by omega) (by omega) (by omega) (by simpa using hf))
  have hw : IntKind.u64.wrap n = n := by rw [IntKind.wrap_u64]; omega
  have hw2 : n % 18446744073709551616 = n := Int.emod_eq_of_lt h0 (by omega)
  clear hf
  go_enter Tryz.func146, Tryz.ntmps146
  go_wp2_with fail
  refine HP.out.mono ?_
  rintro e w1 ⟨rfl, hb, hB⟩
  have HEnd : Hid (NumPost w n s (.returned (.slice (some ⟨w.heap.size, 0, none⟩) s s)) w1) := Lib.hid ⟨rfl, by simpa using hb, hB⟩
  clear hb hB
  simp only [List.length_nil, Nat.zero_add, Int.toNat_natCast]
  go_wp2
  go_ret
  exact HEnd.out
end Go.Proofs.YtdgoeibfggjbmaaGreatDoor
namespace Go.Proofs.YtdgoeibfggjbmaaGreatDoor
open Go.RowKit
set_option maxRecDepth 100000
set_option linter.unusedSimpArgs false
set_option linter.unusedVariables false

def PartsPost (w : World) (ls : List (List Int)) (e : Ending) (w' : World) : Prop := ∃ v, e = .returned v ∧ OwnL w.heap.size w' v ls ∧ Below w.heap.size w w'
theorem make_l (w : World) (n : Nat) (hn : n ≤ 1000) : ∃ w1, (Instr.makeSlice 75 (.int .i64 0) (.int .i64 (n : Int))).run Tryz.prog w = .ok (.slice (some ⟨w.heap.size, 0, none⟩) 0 n) w1 ∧ OwnL w.heap.size w1 (.slice (some ⟨w.heap.size, 0, none⟩) 0 n) [] ∧ Below w.heap.size w w1 := by
  obtain ⟨i, hi, hz0, hz1, hz2⟩ := info_parts info_bytes
  obtain ⟨w1, hmk, hown, hgr⟩ := run_make_own (P := Tryz.prog) w w.heap.size 75 38 i _ 1 Tryz.underlying75 hi hz0 hz1 .i64 .i64 n (by rw [hz2]; omega) (by unfold maxLen; omega) (Nat.le_refl _)
  exact ⟨w1, hmk, ⟨[], hown, rfl, fun i h => absurd h (by simp)⟩, (Below.refl _ _).grown hgr (Nat.le_refl _) (fun g e => by cases e)⟩
def enc4 (l : List Int) : List (List Int) := l.map fun n => be 4 n
theorem enc4_flat (l : List Int) : (enc4 l).flatten = encN l := by
  unfold enc4 encN
  rw [List.flatMap_def]
theorem enc4_step {l : List Int} {m : Nat} (hm : m < l.length) : enc4 (l.take (m + 1)) = enc4 (l.take m) ++ [be 4 l[m]] := by
  unfold enc4
  rw [List.take_succ_eq_append_getElem hm, List.map_append]
  rfl
theorem enc4_len (l : List Int) : (enc4 l).length = l.length := by unfold enc4; simp

set_option maxHeartbeats 2000000 in
theorem encNums_is (w : World) (A : Option Addr) (n c : Nat) (l : List Int) (hr : RdN w w.heap.size A n l) (hU : ∀ x ∈ l, 0 ≤ x ∧ x ≤ 4294967295) (hn : n ≤ 255) : Calls Tryz.prog 147 #[.slice A n c] w (PartsPost w (enc4 l)) := by
  have HR := Lib.hid hr
  have HU := Lib.hid hU
  have hlen := hr.len
  clear hr hU
  obtain ⟨w1, hmk, hO1, hB1⟩ := make_l w n (by omega)
  have HO1 := Lib.hid hO1
  have HB1 := Lib.hid hB1
  clear hO1 hB1
  go_enter Tryz.func147, Tryz.ntmps147
  go_wp2
  clear hmk
  go_loopw [3, 5, 11] (fun v _ i wr => ∃ m : Nat, m ≤ n ∧ i = .int .i64 m ∧ OwnL w.heap.size wr v (enc4 (l.take m)) ∧ Below w.heap.size w wr) (fun _ _ i _ => n - (intOf i).toNat)
  case atStart => exact ⟨0, Nat.zero_le _, rfl, HO1.out, HB1.out⟩
  case round =>
    obtain ⟨m, hm, rfl, ho, hw⟩ := hrel
    have HO := Lib.hid ho
    have HW := Lib.hid hw
    clear ho hw HO1 HB1
    by_cases hlt : m < n
    · have hml : m < l.length := by omega
      obtain ⟨b, off, rfl, hb, hc⟩ := HR.out.at_ (by omega)
      have x0 : wr.cell? ⟨b, off + m, none⟩ = some (.int .u32 l[m]) := by
        have := (HW.out.cell (p := ⟨b, off + m, none⟩) hb).trans (hc m hlt)
        rwa [List.getD, List.getElem?_eq_getElem hml] at this
      have HT := Lib.hid (enc4_step hml)
      have HTl : Hid ((enc4 (l.take m)).length + 1 ≤ 1000000) := Lib.hid (by rw [enc4_len, List.length_take]; omega)
      have hx := HU.out _ (List.getElem_mem hml)
      have HN := Lib.hid (numU_is wr l[m] 4 hx.1 (by omega) (by omega) (by omega) hx.2)
      generalize l[m] = x at *
      generalize enc4 (l.take m) = T at *
      generalize hwz : wr = wz at *
      clear hwz hc
      go_wp2_with fail
      refine HN.out.mono ?_
      rintro e w2 ⟨rfl, hb2, hB2⟩
      have HO2 := Lib.hid (HO.out.below hB2)
      have HB2 := Lib.hid (HW.out.trans (hB2.mono HW.out.size))
      have HBd : Hid (BodyT 38 w.heap.size w2 (some ⟨wz.heap.size, 0, none⟩) 4 (be 4 x)) := Lib.hid (by
        have := hb2.bodyT (T0 := 38) (lo := w.heap.size) (be_oct _ _) (by decide) HW.out.size
        rwa [be_len] at this)
      have hs2 := HB2.out.size
      clear hb2 hB2 HN
      go_wp2_with (at_builtin; refine app_l1 rfl _ _ rfl HO2.out hs2 HTl.out HBd.out rfl rfl ?_)
      intro v3 w3 ho3 hb3
      have HO3 := Lib.hid ho3
      have HB3 := Lib.hid (HB2.out.trans hb3)
      clear ho3 hb3
      go_wp2
      exact ⟨⟨m + 1, by omega, by go_num, by rw [HT.out]; exact HO3.out, HB3.out⟩, by simp [intOf]; omega⟩
    · obtain rfl : n = m := by omega
      have HE : Hid (PartsPost w (enc4 l) (.returned u3) wr) := Lib.hid ⟨_, rfl, by have := HO.out; rwa [List.take_of_length_le (by omega)] at this, HW.out⟩
      go_wp2
      go_ret
      exact HE.out

theorem pathParts_nil (w : World) (A : Option Addr) (c : Nat) : Calls Tryz.prog 145 #[.slice A 0 c] w (PartsPost w []) := by
  go_enter Tryz.func145, Tryz.ntmps145
  go_wp2
  go_ret
  exact ⟨_, rfl, OwnL.nil_ _ _, Below.refl _ _⟩
set_option maxHeartbeats 2000000 in
theorem pathParts_go (w : World) (A : Option Addr) (n c : Nat) (l : List Int) (hr : RdN w w.heap.size A n l) (hU : ∀ x ∈ l, 0 ≤ x ∧ x ≤ 4294967295) (hn : n ≤ 255) (h0 : 0 < n) : Calls Tryz.prog 145 #[.slice A n c] w (PartsPost w ([2, (n : Int)] :: enc4 l)) := by
  have HR := Lib.hid hr
  have HU := Lib.hid hU
  have HLen := Lib.hid hr.len
  clear hr hU
  have e0 : ((n : Int) == 0) = false := by rw [beq_eq_false_iff_ne]; omega
  have hw8 : IntKind.u8.wrap (n : Int) = n := by rw [IntKind.wrap_u8]; omega
  have hw9 : (n : Int) % 256 = n := by omega
  have hal : Below w.heap.size w (w.alloc (.cells #[.int .u8 2, .int .u8 n] 5)) := (Below.refl _ _).alloc (Nat.le_refl _) _
  have hb0 : Byt (w.alloc (.cells #[.int .u8 2, .int .u8 n] 5)) w.heap.size 5 [2, (n : Int)] := Blk.new w 5 #[.int .u8 2, .int .u8 n]
  have hbody : BodyT 38 w.heap.size (w.alloc (.cells #[.int .u8 2, .int .u8 n] 5)) (some ⟨w.heap.size, 0, none⟩) 2 [2, (n : Int)] := hb0.bodyT (fun x hx => by
    simp only [List.mem_cons, List.mem_nil_iff, or_false] at hx
    rcases hx with rfl | rfl <;> omega) (by decide) (Nat.le_refl _)
  have hol := own_ls (lo := w.heap.size) (w := w.alloc (.cells #[.int .u8 2, .int .u8 n] 5)) (by simp) [.slice (some ⟨w.heap.size, 0, none⟩) 2 2] [[2, (n : Int)]] rfl (by simp) (fun i hi => by
    obtain rfl : i = 0 := by simp at hi; omega
    exact ⟨_, _, _, rfl, hbody⟩)
  have hB2 : Below w.heap.size w ((w.alloc (.cells #[.int .u8 2, .int .u8 n] 5)).alloc (.cells #[.slice (some ⟨w.heap.size, 0, none⟩) 2 2] 38)) := hal.alloc (by simp) _
  have HB2 := Lib.hid hB2
  rw [show (w.alloc (.cells #[.int .u8 2, .int .u8 n] 5)).heap.size = w.heap.size + 1 by simp] at hol
  have HOl := Lib.hid hol
  have HN := Lib.hid (encNums_is _ A n c l ((HR.out.below hB2).more hB2.size) HU.out hn)
  clear hal hb0 hbody hol hB2
  go_enter Tryz.func145, Tryz.ntmps145
  go_wp2_with fail
  refine HN.out.mono ?_
  clear HN
  generalize (w.alloc (.cells #[.int .u8 2, .int .u8 n] 5)).alloc (.cells #[.slice (some ⟨w.heap.size, 0, none⟩) 2 2] 38) = w2 at *
  rintro e w3 ⟨v, rfl, ho, hB⟩
  have hlen := HLen.out
  obtain ⟨g, c3, cs, rfl, hg1, hg2, hcl, hcell, hbd⟩ := ho.cells (by rw [enc4_len]; omega)
  have HO3 := Lib.hid (HOl.out.below hB)
  have HB3 := Lib.hid (HB2.out.trans (hB.mono HB2.out.size))
  have hs3 := HB3.out.size
  rw [enc4_len, hlen] at hcl ⊢
  have HCl := Lib.hid hcl
  have HSrc : Hid (∀ j y, cs[j]? = some y → w3.cell? ((⟨g, 0, none⟩ : Addr).add j) = some y) := Lib.hid fun j y hy => by
    rw [show ((⟨g, 0, none⟩ : Addr).add j) = ⟨g, j, none⟩ from by unfold Addr.add; split <;> simp_all]
    exact hcell j y hy
  have HBd : Hid (∀ i (h : i < (enc4 l).length), ∃ A n c, cs[i]? = some (.slice A n c) ∧ BodyT 38 w.heap.size w3 A n (enc4 l)[i]) := Lib.hid fun i hi => by
    obtain ⟨A, n, c, k1, k2⟩ := hbd i hi
    exact ⟨A, n, c, k1, k2.low HB2.out.size⟩
  have HEl : Hid ((enc4 l).length = n) := Lib.hid (by rw [enc4_len, hlen])
  clear ho hB hcl hcell hbd hlen
  go_wp2_with (at_builtin; refine app_l rfl _ _ rfl HO3.out hs3 HCl.out HEl.out (by simp; omega) HSrc.out HBd.out rfl rfl ?_)
  intro v4 w4 ho4 _ hb4
  have HE : Hid (PartsPost w ([2, (n : Int)] :: enc4 l) (.returned v4) w4) := Lib.hid ⟨_, rfl, ho4, HB3.out.trans hb4⟩
  clear ho4 hb4
  go_wp2
  go_ret
  exact HE.out

theorem comm_store5 {ops : Array Oper} {rest : List Oper} {o : Oper} {a : Act} {w : World} {Q : Exit → Act → World → Prop} (hgd : o.guard = none) (x y : Operand) (ho : o.op = .store 138 x y) (g : Nat) (l : List Int) (hl : l.length = 8)
    (hx : a.eval x = .pointer (some ⟨g, 0, none⟩)) (hy : a.eval y = .agg (u8s l).toArray) (t : TypeId) (old : Array Value) (hg : Blk w g t old) (hold : old.size = 8)
    (h : wpList Tryz.prog ops Q rest (a.put o.dst undef) (w.setRow g (u8s l).toArray)) : wpList Tryz.prog ops Q (o :: rest) a w :=
  wpList_store_row hgd 138 x y ho g _ hx hy t old hg (by rw [comm_size]; simp [hl]) (by rw [hold]; simp [hl]) (all_oneCell_toArray (one_u8 l)) h
abbrev zcm : Array Value := #[.int .u8 0, .int .u8 0, .int .u8 0, .int .u8 0, .int .u8 0, .int .u8 0, .int .u8 0, .int .u8 0]
set_option maxHeartbeats 2000000 in
theorem commParts_is (w : World) (A : Option Addr) (n c : Nat) (ls : List (List Int)) (hr : RdC w w.heap.size A n ls) (hn : n ≤ 255) : Calls Tryz.prog 148 #[.slice A n c] w (PartsPost w ls) := by
  have HR := Lib.hid hr
  have hlen := hr.len
  clear hr
  obtain ⟨w1, hmk, hO1, hB1⟩ := make_l w n (by omega)
  have HO1 := Lib.hid hO1
  have HB1 := Lib.hid hB1
  clear hO1 hB1
  go_enter Tryz.func148, Tryz.ntmps148
  go_wp2
  clear hmk
  go_loopw [3, 5, 11] (fun v _ i wr => ∃ m : Nat, m ≤ n ∧ i = .int .i64 m ∧ OwnL w.heap.size wr v (ls.take m) ∧ Below w.heap.size w wr) (fun _ _ i _ => n - (intOf i).toNat)
  case atStart => exact ⟨0, Nat.zero_le _, rfl, HO1.out, HB1.out⟩
  case round =>
    obtain ⟨m, hm, rfl, ho, hw⟩ := hrel
    have HO := Lib.hid ho
    have HW := Lib.hid hw
    clear ho hw HO1 HB1
    by_cases hlt : m < n
    · have hml : m < ls.length := by omega
      obtain ⟨b, off, rfl, hb, hc⟩ := HR.out.at_ (by omega)
      have h8 := HR.out.ok.at_ m hml
      have HT : Hid (ls.take (m + 1) = ls.take m ++ [ls[m]]) := Lib.hid (List.take_succ_eq_append_getElem hml)
      have HTl : Hid ((ls.take m).length + 1 ≤ 1000000) := Lib.hid (by rw [List.length_take]; omega)
      have HRng : Hid (wr.rangeAt b (off + m * 8) (u8s ls[m])) := Lib.hid (range_below (hc m hml) HW.out hb)
      generalize ls[m] = y at *
      generalize ls.take m = T at *
      generalize hwz : wr = wz at *
      clear hwz hc
      have HN1 := Lib.hid (Blk.new wz 138 zcm)
      have hbk : Blk ((wz.alloc (.cells zcm 138)).setRow wz.heap.size (u8s y).toArray) wz.heap.size 138 (u8s y).toArray := Blk.setRow (Blk.new wz 138 zcm) _
      have hbl : Below wz.heap.size wz ((wz.alloc (.cells zcm 138)).setRow wz.heap.size (u8s y).toArray) := ((Below.refl _ _).alloc (Nat.le_refl _) _).trans (below_setRow _ _ _ (Nat.le_refl _))
      have HO2 := Lib.hid (HO.out.below hbl)
      have HB2 := Lib.hid (HW.out.trans (hbl.mono HW.out.size))
      have HBd : Hid (BodyT 38 w.heap.size ((wz.alloc (.cells zcm 138)).setRow wz.heap.size (u8s y).toArray) (some ⟨wz.heap.size, 0, none⟩) 8 y) := Lib.hid ⟨h8.2, h8.1, .inr ⟨wz.heap.size, 0, _, 138, rfl, HW.out.size, hbk, by decide, fun j hj => by simp [List.getD, h8.1, hj]⟩⟩
      have hs2 := HB2.out.size
      have H8 := Lib.hid h8.1
      clear hbk hbl h8
      go_wp2_with (first
        | (refine comm_fetch rfl _ rfl b (off + m * 8) y H8.out rfl HRng.out ?_)
        | (refine comm_store5 rfl _ _ rfl wz.heap.size y H8.out rfl rfl 138 zcm HN1.out rfl ?_)
        | (at_builtin; refine app_l1 rfl _ _ rfl HO2.out hs2 HTl.out HBd.out rfl (by first | rfl | (simp; rfl)) ?_))
      intro v3 w3 ho3 hb3
      have HO3 := Lib.hid ho3
      have HB3 := Lib.hid (HB2.out.trans hb3)
      clear ho3 hb3
      go_wp2
      exact ⟨⟨m + 1, by omega, by go_num, by rw [HT.out]; exact HO3.out, HB3.out⟩, by simp [intOf]; omega⟩
    · obtain rfl : n = m := by omega
      have HE : Hid (PartsPost w ls (.returned u3) wr) := Lib.hid ⟨_, rfl, by have := HO.out; rwa [List.take_of_length_le (by omega)] at this, HW.out⟩
      go_wp2
      go_ret
      exact HE.out
end Go.Proofs.YtdgoeibfggjbmaaGreatDoor
namespace Go.Proofs.YtdgoeibfggjbmaaGreatDoor
open Go.RowKit
set_option maxRecDepth 100000
set_option linter.unusedSimpArgs false
set_option linter.unusedVariables false

def pmL (p : Pm) : List (List Int) := [[0], be 1 p.kind, be 3 p.label] ++ (if p.kind = 6 then [p.ip.take (if p.v6 then 16 else 4)] else [])
theorem pmL_flat (p : Pm) (h0 : 0 ≤ p.kind) (h1 : p.kind ≤ 255) : (pmL p).flatten = pmW p := by
  unfold pmL pmW
  rw [be_num1 _ ⟨h0, by omega⟩]
  split <;> simp
def PmS (w W : World) (p : Pm) : Prop := Below w.heap.size w W ∧ Blk W w.heap.size 29 (pmc p).toArray
theorem PmS.step {w W W' : World} {p : Pm} (h : PmS w W p) (hB : Below W.heap.size W W') : PmS w W' p := ⟨h.1.trans (hB.mono h.1.size), h.2.below hB h.2.lt⟩
def PmC (w W : World) (p : Pm) (v : Value) : Prop := PmS w W p ∧ OwnL w.heap.size W v [[0], be 1 p.kind, be 3 p.label]
theorem body_lit {lo : Nat} {w : World} (hlo : lo ≤ w.heap.size) : BodyT 38 lo (w.alloc (.cells #[.int .u8 0] 5)) (some ⟨w.heap.size, 0, none⟩) 1 [0] := by
  have hb : Byt (w.alloc (.cells #[.int .u8 0] 5)) w.heap.size 5 [0] := Blk.new w 5 #[.int .u8 0]
  exact hb.bodyT (fun x hx => by rw [List.mem_singleton] at hx; subst hx; omega) (by decide) hlo
theorem NumPost.body {w W : World} {n : Int} {s lo : Nat} {e : Ending} (h : NumPost w n s e W) (hlo : lo ≤ w.heap.size) : e = .returned (.slice (some ⟨w.heap.size, 0, none⟩) s s) ∧ BodyT 38 lo W (some ⟨w.heap.size, 0, none⟩) s (be s n) ∧ Below w.heap.size w W := by
  obtain ⟨rfl, hb, hB⟩ := h
  have := hb.bodyT (T0 := 38) (lo := lo) (be_oct _ _) (by decide) hlo
  rw [be_len] at this
  exact ⟨rfl, this, hB⟩

set_option maxHeartbeats 4000000 in
theorem pmsiParts_is (w : World) (p : Pm) (h0 : 0 ≤ p.kind) (h1 : p.kind ≤ 255) (hl0 : 0 ≤ p.label) (hl1 : p.label ≤ 16777215) (hip : p.ip.length = 16) (hoct : Oct p.ip) : Calls Tryz.prog 149 #[.agg (pmc p).toArray] w (PartsPost w (pmL p)) := by
  have HN1 := Lib.hid (fun W => numI_is W p.kind 1 h0 (by omega) (by omega) (by omega) (by omega))
  have HN3 := Lib.hid (fun W => numU_is W p.label 3 hl0 (by omega) (by omega) (by omega) (by omega))
  have HS0 : Hid (PmS w ((w.alloc (.cells (pmc p).toArray 29)).drew) p) := Lib.hid ⟨below_drewN ((Below.refl w.heap.size w).alloc (Nat.le_refl _) _) 1, Blk.new w 29 (pmc p).toArray⟩
  have HIp := Lib.hid hip
  have HOct := Lib.hid hoct
  clear h0 h1 hl0 hl1 hip hoct
  go_enter Tryz.func149, Tryz.ntmps149
  go_wp2_with fail
  go_cut [3] (fun s3 wx => PmC w wx p s3)
  case first =>
    refine wp_region_held_drew (S := fun W => PmS w W p) (by kernel_rfl) (HS0.out) (fun hS => ?_)
    refine wpAnyH_take (i := 1) (oi := ⟨some 5, _, _, _, _, _⟩) (v := ?_) rfl (by kernel_rfl) (by kernel_rfl) (by kernel_rfl) (fun _ _ _ h => h) (Or.inl ⟨by rfl, ?_⟩) hS ?_
    rotate_left
    · intro wq hq
      first | (go_simp; done) | (go_simp; rfl)
    try simp only [Act.put, zP, zQ, zR]
    refine wpAnyH_take (i := 2) (oi := ⟨some 6, _, _, _, _, _⟩) (v := ?_) rfl (by kernel_rfl) (by kernel_rfl) (by kernel_rfl) (fun _ _ _ h => h) (Or.inl ⟨by rfl, ?_⟩) hS ?_
    rotate_left
    · intro wq hq
      have hc : wq.cell? ⟨w.heap.size, 0, none⟩ = some (.int .i64 p.kind) := hq.2.cell 0
      first | (go_simp; done) | (go_simp; rfl)
    try simp only [Act.put, zP, zQ, zR]
    refine wpAnyH_take (i := 4) (oi := ⟨some 8, _, _, _, _, _⟩) (v := ?_) rfl (by kernel_rfl) (by kernel_rfl) (by kernel_rfl) (fun _ _ _ h => h) (Or.inl ⟨by rfl, ?_⟩) hS ?_
    rotate_left
    · intro wq hq
      first | (go_simp; done) | (go_simp; rfl)
    try simp only [Act.put, zP, zQ, zR]
    refine wpAnyH_take (i := 5) (oi := ⟨some 9, _, _, _, _, _⟩) (v := ?_) rfl (by kernel_rfl) (by kernel_rfl) (by kernel_rfl) (fun _ _ _ h => h) (Or.inl ⟨by rfl, ?_⟩) hS ?_
    rotate_left
    · intro wq hq
      have hc : wq.cell? ⟨w.heap.size, 1, none⟩ = some (.int .u32 p.label) := hq.2.cell 1
      first | (go_simp; done) | (go_simp; rfl)
    try simp only [Act.put, zP, zQ, zR]
    generalize (w.alloc (.cells (pmc p).toArray 29)).drew = W0 at *
    refine wpAnyH_ready (rs := [0, 3]) (by kernel_rfl) (by simp) ?_
    refine AllReadyH.cons (o := ⟨some 4, _, _, _, _, _⟩) rfl (fun K hK => ?_) (AllReadyH.cons (o := ⟨some 7, _, _, _, _, _⟩) rfl (fun K hK => ?_) AllReadyH.nil)
    · skip
      rw [if_pos (by rfl)]
      go_wp2
      have b0 := body_lit (w := W0) (lo := w.heap.size) hS.1.size
      have hal : Below W0.heap.size W0 (W0.alloc (.cells #[.int .u8 0] 5)) := (Below.refl _ _).alloc (Nat.le_refl _) _
      have hSn := hS.step hal
      clear hal hS
      refine hK.out _ _ (hSn) (fun hS => ?_)
      clear hK K
      try simp only [Act.put, zP, zQ, zR]
      clear hSn
      refine wpAnyH_ready (rs := [3]) (by kernel_rfl) (by simp) ?_
      refine AllReadyH.cons (o := ⟨some 7, _, _, _, _, _⟩) rfl (fun K hK => ?_) AllReadyH.nil
      rw [if_pos (by rfl)]
      go_wp2_with fail
      refine (HN1.out _).mono ?_
      intro e W2 hp
      obtain ⟨rfl, b1, hB⟩ := hp.body hS.1.size
      have hSn := hS.step hB
      have b0 := b0.below hB
      clear hp hB hS
      refine hK.out _ _ (hSn) (fun hS => ?_)
      clear hK K
      try simp only [Act.put, zP, zQ, zR]
      clear hSn
      refine wpAnyH_ready (rs := [6]) (by kernel_rfl) (by simp) ?_
      refine AllReadyH.cons (o := ⟨some 10, _, _, _, _, _⟩) rfl (fun K hK => ?_) AllReadyH.nil
      rw [if_pos (by rfl)]
      go_wp2_with fail
      refine (HN3.out _).mono ?_
      intro e W3 hp
      obtain ⟨rfl, b2, hB⟩ := hp.body hS.1.size
      have hSn := hS.step hB
      have b0 := b0.below hB
      have b1 := b1.below hB
      clear hp hB hS
      refine hK.out _ _ (hSn) (fun hS => ?_)
      clear hK K
      try simp only [Act.put, zP, zQ, zR]
      clear hSn
      refine wpAnyH_ready (rs := [7]) (by kernel_rfl) (by simp) ?_
      refine AllReadyH.cons (o := ⟨some 11, _, _, _, _, _⟩) rfl (fun K hK => ?_) AllReadyH.nil
      rw [if_pos (by rfl)]
      go_wp2
      have ho := own_ls (w := W3) hS.1.size [.slice (some ⟨_, 0, none⟩) 1 1, .slice (some ⟨_, 0, none⟩) 1 1, .slice (some ⟨_, 0, none⟩) 3 3] [[0], be 1 p.kind, be 3 p.label] rfl (by simp) (fun i hi => match i, hi with | 0, _ => ⟨_, _, _, rfl, b0⟩ | 1, _ => ⟨_, _, _, rfl, b1⟩ | 2, _ => ⟨_, _, _, rfl, b2⟩ | n + 3, h => absurd h (by simp))
      refine hK.out _ _ (hS.step ((Below.refl _ _).alloc (Nat.le_refl _) _)) (fun hS => ?_)
      clear hK K
      try simp only [Act.put, zP, zQ, zR]
      refine wpAnyH_take (i := 8) (oi := ⟨some 3, _, _, _, _, _⟩) (v := ?_) rfl (by kernel_rfl) (by kernel_rfl) (by kernel_rfl) (fun _ _ _ h => h) (Or.inl ⟨by rfl, ?_⟩) hS ?_
      rotate_left
      · intro wq hq
        first | (go_simp; done) | (go_simp; rfl)
      try simp only [Act.put, zP, zQ, zR]
      refine wpAnyH_done (by kernel_rfl) ?_ _
      go_wp2_with fail
      go_meet
      try simp only [World.size_alloc] at ho
      exact ⟨hS, ho⟩
    · skip
      rw [if_pos (by rfl)]
      go_wp2_with fail
      refine (HN1.out _).mono ?_
      intro e W2 hp
      obtain ⟨rfl, b1, hB⟩ := hp.body hS.1.size
      have hSn := hS.step hB
      clear hp hB hS
      refine hK.out _ _ (hSn) (fun hS => ?_)
      clear hK K
      try simp only [Act.put, zP, zQ, zR]
      clear hSn
      refine wpAnyH_ready (rs := [0, 6]) (by kernel_rfl) (by simp) ?_
      refine AllReadyH.cons (o := ⟨some 4, _, _, _, _, _⟩) rfl (fun K hK => ?_) (AllReadyH.cons (o := ⟨some 10, _, _, _, _, _⟩) rfl (fun K hK => ?_) AllReadyH.nil)
      · skip
        rw [if_pos (by rfl)]
        go_wp2
        have b0 := body_lit (w := W2) (lo := w.heap.size) hS.1.size
        have hal : Below W2.heap.size W2 (W2.alloc (.cells #[.int .u8 0] 5)) := (Below.refl _ _).alloc (Nat.le_refl _) _
        have hSn := hS.step hal
        have b1 := b1.below hal
        clear hal hS
        refine hK.out _ _ (hSn) (fun hS => ?_)
        clear hK K
        try simp only [Act.put, zP, zQ, zR]
        clear hSn
        refine wpAnyH_ready (rs := [6]) (by kernel_rfl) (by simp) ?_
        refine AllReadyH.cons (o := ⟨some 10, _, _, _, _, _⟩) rfl (fun K hK => ?_) AllReadyH.nil
        rw [if_pos (by rfl)]
        go_wp2_with fail
        refine (HN3.out _).mono ?_
        intro e W3 hp
        obtain ⟨rfl, b2, hB⟩ := hp.body hS.1.size
        have hSn := hS.step hB
        have b0 := b0.below hB
        have b1 := b1.below hB
        clear hp hB hS
        refine hK.out _ _ (hSn) (fun hS => ?_)
        clear hK K
        try simp only [Act.put, zP, zQ, zR]
        clear hSn
        refine wpAnyH_ready (rs := [7]) (by kernel_rfl) (by simp) ?_
        refine AllReadyH.cons (o := ⟨some 11, _, _, _, _, _⟩) rfl (fun K hK => ?_) AllReadyH.nil
        rw [if_pos (by rfl)]
        go_wp2
        have ho := own_ls (w := W3) hS.1.size [.slice (some ⟨_, 0, none⟩) 1 1, .slice (some ⟨_, 0, none⟩) 1 1, .slice (some ⟨_, 0, none⟩) 3 3] [[0], be 1 p.kind, be 3 p.label] rfl (by simp) (fun i hi => match i, hi with | 0, _ => ⟨_, _, _, rfl, b0⟩ | 1, _ => ⟨_, _, _, rfl, b1⟩ | 2, _ => ⟨_, _, _, rfl, b2⟩ | n + 3, h => absurd h (by simp))
        refine hK.out _ _ (hS.step ((Below.refl _ _).alloc (Nat.le_refl _) _)) (fun hS => ?_)
        clear hK K
        try simp only [Act.put, zP, zQ, zR]
        refine wpAnyH_take (i := 8) (oi := ⟨some 3, _, _, _, _, _⟩) (v := ?_) rfl (by kernel_rfl) (by kernel_rfl) (by kernel_rfl) (fun _ _ _ h => h) (Or.inl ⟨by rfl, ?_⟩) hS ?_
        rotate_left
        · intro wq hq
          first | (go_simp; done) | (go_simp; rfl)
        try simp only [Act.put, zP, zQ, zR]
        refine wpAnyH_done (by kernel_rfl) ?_ _
        go_wp2_with fail
        go_meet
        try simp only [World.size_alloc] at ho
        exact ⟨hS, ho⟩
      · skip
        rw [if_pos (by rfl)]
        go_wp2_with fail
        refine (HN3.out _).mono ?_
        intro e W3 hp
        obtain ⟨rfl, b2, hB⟩ := hp.body hS.1.size
        have hSn := hS.step hB
        have b1 := b1.below hB
        clear hp hB hS
        refine hK.out _ _ (hSn) (fun hS => ?_)
        clear hK K
        try simp only [Act.put, zP, zQ, zR]
        clear hSn
        refine wpAnyH_ready (rs := [0]) (by kernel_rfl) (by simp) ?_
        refine AllReadyH.cons (o := ⟨some 4, _, _, _, _, _⟩) rfl (fun K hK => ?_) AllReadyH.nil
        rw [if_pos (by rfl)]
        go_wp2
        have b0 := body_lit (w := W3) (lo := w.heap.size) hS.1.size
        have hal : Below W3.heap.size W3 (W3.alloc (.cells #[.int .u8 0] 5)) := (Below.refl _ _).alloc (Nat.le_refl _) _
        have hSn := hS.step hal
        have b1 := b1.below hal
        have b2 := b2.below hal
        clear hal hS
        refine hK.out _ _ (hSn) (fun hS => ?_)
        clear hK K
        try simp only [Act.put, zP, zQ, zR]
        clear hSn
        refine wpAnyH_ready (rs := [7]) (by kernel_rfl) (by simp) ?_
        refine AllReadyH.cons (o := ⟨some 11, _, _, _, _, _⟩) rfl (fun K hK => ?_) AllReadyH.nil
        rw [if_pos (by rfl)]
        go_wp2
        have ho := own_ls (w := (W3.alloc (.cells #[.int .u8 0] 5))) hS.1.size [.slice (some ⟨_, 0, none⟩) 1 1, .slice (some ⟨_, 0, none⟩) 1 1, .slice (some ⟨_, 0, none⟩) 3 3] [[0], be 1 p.kind, be 3 p.label] rfl (by simp) (fun i hi => match i, hi with | 0, _ => ⟨_, _, _, rfl, b0⟩ | 1, _ => ⟨_, _, _, rfl, b1⟩ | 2, _ => ⟨_, _, _, rfl, b2⟩ | n + 3, h => absurd h (by simp))
        refine hK.out _ _ (hS.step ((Below.refl _ _).alloc (Nat.le_refl _) _)) (fun hS => ?_)
        clear hK K
        try simp only [Act.put, zP, zQ, zR]
        refine wpAnyH_take (i := 8) (oi := ⟨some 3, _, _, _, _, _⟩) (v := ?_) rfl (by kernel_rfl) (by kernel_rfl) (by kernel_rfl) (fun _ _ _ h => h) (Or.inl ⟨by rfl, ?_⟩) hS ?_
        rotate_left
        · intro wq hq
          first | (go_simp; done) | (go_simp; rfl)
        try simp only [Act.put, zP, zQ, zR]
        refine wpAnyH_done (by kernel_rfl) ?_ _
        go_wp2_with fail
        go_meet
        try simp only [World.size_alloc] at ho
        exact ⟨hS, ho⟩
  case rest =>
    have HC := Lib.hid hcut
    clear hcut HN1 HN3 HS0
    have c0 : wc.cell? ⟨w.heap.size, 0, none⟩ = some (.int .i64 p.kind) := HC.out.1.2.cell 0
    by_cases h6 : p.kind = 6
    · have e6 : (p.kind == 6) = true := by rw [beq_iff_eq]; exact h6
      have HF : Hid (pmL p = [[0], be 1 p.kind, be 3 p.label] ++ [p.ip.take (if p.v6 then 16 else 4)]) := Lib.hid (by unfold pmL; rw [if_pos h6])
      have HRng : Hid (wc.rangeAt w.heap.size 2 (ipc p.v6 p.ip)) := Lib.hid (range_post (cs := [.int .i64 p.kind, .int .u32 p.label]) (ds := ipc p.v6 p.ip) (o := 0) (Blk.range HC.out.1.2))
      have HBt := Lib.hid (fun W => bits_is W p.v6 p.ip)
      have hbv : (p.v6 = true ∧ bitsOf p.v6 = 128) ∨ (p.v6 = false ∧ bitsOf p.v6 = 32) := by cases p.v6 <;> simp [bitsOf]
      have hsl : ∀ (h : Nat), h ≤ 16 → ∀ W, (Instr.sliceAt 25 (.pointer (some ⟨w.heap.size, 3, none⟩)) none (some (.int .i64 (h : Int))) none).run Tryz.prog W = .ok (.slice (some ⟨w.heap.size, 3, none⟩) h 16) W := fun h hh => slice_arr_h (P := Tryz.prog) (t := 25) (e := 5) (n := 16) Tryz.underlying25 (by kernel_rfl) w.heap.size 3 h hh (by omega) h rfl
      have HSl := Lib.hid hsl
      clear h6 hsl
      generalize hwz : wc = wz at *
      clear hwz
      go_wp2_with (refine ip_fetch rfl _ rfl w.heap.size 2 p.v6 p.ip HIp.out rfl HRng.out ?_)
      refine (HBt.out _).mono ?_
      rintro e W5 ⟨rfl, hB⟩
      have hS5 := HC.out.1.step hB
      have HO5 := Lib.hid (HC.out.2.below hB)
      have HS5 := Lib.hid hS5
      have hs5 := hS5.1.size
      clear HC HRng hB hS5 c0 e6
      have HBd : Hid (∀ h : Nat, h ≤ 16 → BodyT 38 w.heap.size W5 (some ⟨w.heap.size, 3, none⟩) h (p.ip.take h)) := Lib.hid fun h hh => ⟨fun x hx => HOct.out x (List.mem_of_mem_take hx), by rw [List.length_take, HIp.out]; omega, .inr ⟨w.heap.size, 3, _, 29, rfl, Nat.le_refl _, HS5.out.2, by decide, fun j hj => by
        have hj16 : j < p.ip.length := by rw [HIp.out]; omega
        have : (pmc p)[3 + j]? = some (.int .u8 (p.ip.getD j 0)) := by
          show (.int .i64 p.kind :: .int .u32 p.label :: ipc p.v6 p.ip)[3 + j]? = _
          rw [show 3 + j = j + 1 + 1 + 1 by omega, List.getElem?_cons_succ, List.getElem?_cons_succ]
          show (.bool p.v6 :: u8s p.ip)[j + 1]? = _
          rw [List.getElem?_cons_succ]
          simp [List.getD, hj16]
        rw [List.getElem?_toArray, this]
        simp [List.getD, hj16, hj]⟩⟩
      rcases hbv with ⟨e1, e2⟩ | ⟨e1, e2⟩
      · rw [e1] at HF
        rw [e2]
        have hs2 := HSl.out 16 (by omega)
        have hd2 := Lib.hid (HBd.out 16 (by omega))
        clear HSl HBd e1 e2
        go_wp2_with (at_builtin; refine app_l1 rfl _ _ rfl HO5.out hs5 (by simp) hd2.out rfl rfl ?_)
        intro v6 w6 ho6 hb6
        have HE : Hid (PartsPost w (pmL p) (.returned v6) w6) := Lib.hid ⟨_, rfl, by rw [HF.out]; exact ho6, HS5.out.1.trans hb6⟩
        clear ho6 hb6 hs2
        go_wp2
        go_ret
        exact HE.out
      · rw [e1] at HF
        rw [e2]
        have hs2 := HSl.out 4 (by omega)
        have hd2 := Lib.hid (HBd.out 4 (by omega))
        clear HSl HBd e1 e2
        go_wp2_with (at_builtin; refine app_l1 rfl _ _ rfl HO5.out hs5 (by simp) hd2.out rfl rfl ?_)
        intro v6 w6 ho6 hb6
        have HE : Hid (PartsPost w (pmL p) (.returned v6) w6) := Lib.hid ⟨_, rfl, by rw [HF.out]; exact ho6, HS5.out.1.trans hb6⟩
        clear ho6 hb6 hs2
        go_wp2
        go_ret
        exact HE.out
    · have e6 : (p.kind == 6) = false := by rw [beq_eq_false_iff_ne]; exact h6
      have HF : Hid (pmL p = [[0], be 1 p.kind, be 3 p.label]) := Lib.hid (by unfold pmL; rw [if_neg h6]; rfl)
      clear h6
      go_wp2
      go_ret
      exact ⟨_, rfl, by rw [HF.out]; exact HC.out.2, HC.out.1.1⟩
end Go.Proofs.YtdgoeibfggjbmaaGreatDoor
