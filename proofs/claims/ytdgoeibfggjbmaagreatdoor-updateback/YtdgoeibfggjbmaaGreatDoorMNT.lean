/-
  Put together: NlT.
-/
import Derived.Test.YtdgoeibfggjbmaaGreatDoorMNM
import Derived.Test.YtdgoeibfggjbmaaGreatDoorMNP
namespace Go.Proofs.YtdgoeibfggjbmaaGreatDoor
open Go.RowKit
set_option maxRecDepth 100000
set_option linter.unusedSimpArgs false
set_option linter.unusedVariables false

theorem foldl_numN (r : List Int) : ∀ x : Int, r.foldl (fun n b => n * 256 + b) x = x * 256 ^ r.length + numOf r := by
  induction r with
  | nil => intro x; simp [numOf]
  | cons b r ih =>
    intro x
    unfold numOf
    rw [List.foldl_cons, List.foldl_cons, ih, ih, List.length_cons, Int.pow_succ, Int.zero_mul, Int.zero_add, Int.add_mul, Int.mul_assoc, Int.mul_comm 256 (256 ^ r.length), Int.add_assoc]
theorem numOf_consN (b : Int) (r : List Int) : numOf (b :: r) = b * 256 ^ r.length + numOf r := by
  unfold numOf
  rw [List.foldl_cons, foldl_numN]
  simp [numOf]
theorem be4_num (n : Int) (h : U32 n) : numOf (be 4 n) = n := by
  have := h.1; have := h.2
  simp only [be, numOf_consN, be_len]
  simp [numOf]
  omega
theorem be3_num (n : Int) (h0 : 0 ≤ n) (h1 : n ≤ 16777215) : numOf (be 3 n) = n := by
  simp only [be, numOf_consN, be_len]
  simp [numOf]
  omega

section
variable {l xs tl : List Int} {p n : Nat}
theorem drop_next (h : l.drop p = xs ++ tl) (hp : p ≤ l.length) (hn : xs.length = n) : l.drop (p + n) = tl ∧ p + n ≤ l.length := by
  subst hn
  refine ⟨by rw [← List.drop_drop, h, List.drop_left], ?_⟩
  have := congrArg List.length h
  simp at this
  omega
theorem at_take (h : l.drop p = xs ++ tl) (hp : p ≤ l.length) (hn : xs.length = n) : tV l (p, 0) n = xs ∧ tS l (p, 0) n = (p + n, 0) ∧ l.drop (p + n) = tl ∧ p + n ≤ l.length := by
  obtain ⟨h1, h2⟩ := drop_next h hp hn
  obtain ⟨e1, e2⟩ := tS_in h2
  refine ⟨?_, e2, h1, h2⟩
  rw [e1, h, ← hn, List.take_left]
theorem at_num {k : Nat} (h : l.drop p = xs ++ tl) (hp : p ≤ l.length) (hn : xs.length = k) (h1 : 1 ≤ k) (h8 : k ≤ 8) : nV l (p, 0) k = numOf xs ∧ nS l (p, 0) k = (p + k, 0) ∧ l.drop (p + k) = tl ∧ p + k ≤ l.length := by
  obtain ⟨e1, e2, e3, e4⟩ := at_take h hp hn
  have hok : numOk (k : Int) := ⟨by omega, by omega⟩
  refine ⟨?_, ?_, e3, e4⟩
  · simp only [nV, numVal, if_pos hok]
    exact congrArg numOf e1
  · simp only [nS, numAt, numErr, if_pos hok]
    exact e2
theorem at_byte {x : Int} (h : l.drop p = x :: tl) : nV l (p, 0) 1 = x ∧ nS l (p, 0) 1 = (p + 1, 0) ∧ l.drop (p + 1) = tl ∧ p + 1 ≤ l.length := by
  obtain ⟨e1, e2⟩ := nS_in h
  refine ⟨e1, e2, by rw [← List.drop_drop, h]; rfl, ?_⟩
  have := congrArg List.length h
  simp at this
  omega
theorem at_fill (h : l.drop p = xs ++ tl) (hp : p ≤ l.length) (hn : xs.length = n) : fillV l (p, 0) n = xs ∧ fillS l (p, 0) n = (p + n, 0) ∧ l.drop (p + n) = tl ∧ p + n ≤ l.length := by
  obtain ⟨h1, h2⟩ := drop_next h hp hn
  have key : ∀ m, m ≤ n → fillV l (p, 0) m = xs.take m ∧ fillS l (p, 0) m = (p + m, 0) := by
    intro m
    induction m with
    | zero => intro _; exact ⟨rfl, rfl⟩
    | succ m ih =>
      intro hm
      obtain ⟨i1, i2⟩ := ih (by omega)
      have hx : m < xs.length := by omega
      have hd : l.drop (p + m) = xs[m] :: (xs.drop (m + 1) ++ tl) := by
        rw [← List.drop_drop, h, List.drop_append_of_le_length (by omega), List.drop_eq_getElem_cons hx]
        rfl
      obtain ⟨e1, e2⟩ := nS_in hd
      refine ⟨?_, ?_⟩
      · rw [fillV, i1, i2, e1, List.take_succ_eq_append_getElem hx]
      · rw [fillS, i2, e2]
        rfl
  obtain ⟨k1, k2⟩ := key n (Nat.le_refl _)
  rw [← hn, List.take_length] at k1
  exact ⟨by rw [← hn]; exact k1, k2, h1, h2⟩
end
theorem oneR_of {k : Int} {l : List Int} {r : Rt} (h1 : fdB k l = true) (h2 : fdS k l = (l.length, 0)) (h3 : fdR (rtZ k z8) l = r) (hr : rightR r = true) : oneR k l = some r := by
  unfold oneR
  rw [h1, h2, h3, if_pos ⟨rfl, rfl, Nat.lt_irrefl _, hr⟩]
theorem end_len {l : List Int} {p : Nat} (h : l.drop p = []) (hp : p ≤ l.length) : l.length = p := by
  have := congrArg List.length h
  simp at this
  omega
theorem right_own {r : Rt} (h : rightR r = true) : r = ownR r ∧ addrsB r = true := by
  unfold rightR at h
  simp only [Bool.and_eq_true, decide_eq_true_eq] at h
  exact ⟨(sameR_iff _ _).1 h.2.1, h.2.2.2⟩
theorem pad_take {v : Bool} {xs : List Int} (hl : xs.length = 16) (h : rightB v xs = true) : pad (xs.take (nb v)) = xs := by
  unfold pad
  cases v
  · have h4 : xs.drop 4 = List.replicate 12 0 := by simpa [rightB] using h
    have e : (xs.take (nb false)).length = 4 := by simp [nb, hl]
    rw [e]
    show xs.take 4 ++ List.replicate 12 0 = xs
    rw [← h4, List.take_append_drop]
  · have e : xs.take (nb true) = xs := List.take_of_length_le (by simp [nb, hl])
    rw [e, hl]
    simp
theorem rightPf_facts {v : Bool} {xs : List Int} {n : Int} (h : rightPfB v xs n = true) : rightB v xs = true ∧ 0 ≤ n ∧ n ≤ bitsOf v := by
  unfold rightPfB hasB cutB at h
  simp only [Bool.and_eq_true, decide_eq_true_eq] at h
  exact ⟨h.1.1, h.1.2.1, h.1.2.2⟩
theorem bits_le (v : Bool) : bitsOf v ≤ 128 := by cases v <;> simp [bitsOf]
theorem take_nb_len {v : Bool} {xs : List Int} (hl : xs.length = 16) : (xs.take (nb v)).length = nb v := by rw [List.length_take, hl]; exact Nat.min_eq_left (nb_le16 v)

theorem back_1 {r : Rt} (hr : RtOk r) (hR : rightR r = true) (hk : r.k = 1) : oneR r.k (bodyR r) = some r := by
  have hf := rightF hr hR
  obtain ⟨hown, _⟩ := right_own hR
  have hl : bodyR r = r.rd ++ (r.es ++ (be 4 r.tg ++ (be 3 r.lb ++ []))) := by unfold bodyR; rw [if_pos hk]; simp
  generalize bodyR r = l at *
  obtain ⟨f1, g1, d1, p1⟩ := at_fill (l := l) (p := 0) (n := 8) (by rw [hl]; rfl) (Nat.zero_le _) hr.rd
  obtain ⟨f2, g2, d2, p2⟩ := at_fill (n := 10) d1 p1 hr.es
  obtain ⟨f3, g3, d3, p3⟩ := at_num (k := 4) d2 p2 (be_len _ _) (by omega) (by omega)
  obtain ⟨f4, g4, d4, p4⟩ := at_num (k := 3) d3 p3 (be_len _ _) (by omega) (by omega)
  rw [be4_num _ hr.tg] at f3
  rw [be3_num _ hf.lb.1 hf.lb.2] at f4
  have e1 : fs1 l = (8, 0) := g1
  have e2 : fs2 l r.k = (18, 0) := by unfold fs2; rw [if_neg (by omega), e1]; exact g2
  have e3 : fs3 l r.k = (22, 0) := by unfold fs3; rw [if_neg (by omega), e2]; exact g3
  have hlen := end_len d4 p4
  refine oneR_of ?_ ?_ ?_ hR
  · unfold fdB; rw [if_neg (by omega)]
  · unfold fdS; rw [if_pos hk, e3, hlen]; exact g4
  · have e2' : fs2 l (rtZ r.k z8).k = (18, 0) := e2
    have e3' : fs3 l (rtZ r.k z8).k = (22, 0) := e3
    unfold fdR
    rw [if_pos (show (rtZ r.k z8).k = 1 from hk), e3']
    unfold hdR
    rw [if_neg (show ¬ (rtZ r.k z8).k = 3 by show ¬ r.k = 3; omega), if_neg (show ¬ (rtZ r.k z8).k = 4 by show ¬ r.k = 4; omega), e1, e2']
    rw [show fillV l (0, 0) 8 = r.rd from f1, show fillV l (8, 0) 10 = r.es from f2, show nV l (18, 0) 4 = r.tg from f3, show nV l (22, 0) 3 = r.lb from f4]
    unfold ownR at hown
    rw [if_pos hk] at hown
    exact hown.symm

theorem at_whole {l tl : List Int} {p : Nat} {v : Bool} {xs : List Int} {n : Int} (h : l.drop p = [n % 256] ++ (xs.take (nb v) ++ tl)) (hp : p ≤ l.length) (hl : xs.length = 16) (hw : wholeB v xs n = true) :
    wholeV l (p, 0) = (v, xs, n) ∧ wholeS l (p, 0) = (p + 1 + nb v, 0) ∧ l.drop (p + 1 + nb v) = tl ∧ p + 1 + nb v ≤ l.length := by
  unfold wholeB at hw
  simp only [Bool.and_eq_true, decide_eq_true_eq] at hw
  obtain ⟨hr, hn⟩ := hw
  obtain ⟨hb, _, _⟩ := rightPf_facts hr
  obtain ⟨e1, e2, d1, p1⟩ := at_byte (l := l) (p := p) (tl := xs.take (nb v) ++ tl) h
  obtain ⟨e3, e4, d2, p2⟩ := at_take d1 p1 (take_nb_len (v := v) hl)
  refine ⟨?_, ?_, d2, p2⟩
  · unfold wholeV
    rw [e1, e2]
    subst hn
    cases v
    · simp only [bitsOf]
      have e3' : tV l (p + 1, 0) 4 = xs.take 4 := e3
      have := pad_take hl hb
      rw [show nb false = 4 from rfl] at this
      rw [show nb false = 4 from rfl]
      simp
      rw [e3']
      exact this
    · simp only [bitsOf]
      have e3' : tV l (p + 1, 0) 16 = xs.take 16 := e3
      have := pad_take hl hb
      rw [show nb true = 16 from rfl] at this
      rw [show nb true = 16 from rfl]
      simp
      rw [e3']
      exact this
  · unfold wholeS
    rw [e1, e2]
    subst hn
    cases v
    · simp [bitsOf]; exact e4
    · simp [bitsOf]; exact e4
theorem back_3 {r : Rt} (hr : RtOk r) (hR : rightR r = true) (hk : r.k = 3) : oneR r.k (bodyR r) = some r := by
  have hf := rightF hr hR
  obtain ⟨hown, hadr⟩ := right_own hR
  have hw : wholeB r.v6 r.pl r.pn = true := by unfold addrsB at hadr; rw [if_neg (by omega), if_pos (Or.inl hk)] at hadr; exact hadr
  have hl : bodyR r = r.rd ++ (be 4 r.tg ++ ([r.pn % 256] ++ (r.pl.take (nb r.v6) ++ []))) := by unfold bodyR; rw [if_neg (by omega), if_neg (by omega), if_pos hk]; simp
  generalize bodyR r = l at *
  obtain ⟨f1, g1, d1, p1⟩ := at_fill (l := l) (p := 0) (n := 8) (by rw [hl]; rfl) (Nat.zero_le _) hr.rd
  obtain ⟨f3, g3, d3, p3⟩ := at_num (k := 4) d1 p1 (be_len _ _) (by omega) (by omega)
  obtain ⟨f4, g4, d4, p4⟩ := at_whole d3 p3 hr.pl hw
  rw [be4_num _ hr.tg] at f3
  have e1 : fs1 l = (8, 0) := g1
  have e2 : fs2 l r.k = (8, 0) := by unfold fs2; rw [if_pos hk]; exact e1
  have e3 : fs3 l r.k = (12, 0) := by unfold fs3; rw [if_neg (by omega), e2]; exact g3
  have hlen := end_len d4 p4
  refine oneR_of ?_ ?_ ?_ hR
  · unfold fdB; rw [if_neg (by omega)]
  · unfold fdS; rw [if_neg (by omega), if_neg (by omega), if_neg (by omega), e3, hlen]; exact g4
  · have e2' : fs2 l (rtZ r.k z8).k = (8, 0) := e2
    have e3' : fs3 l (rtZ r.k z8).k = (12, 0) := e3
    have hk' : (rtZ r.k z8).k = 3 := hk
    unfold fdR
    rw [if_neg (by omega), if_neg (by omega), if_neg (by omega), e3']
    unfold hdR
    rw [if_pos hk', if_neg (by omega), e2']
    rw [show fillV l (0, 0) 8 = r.rd from f1, show nV l (8, 0) 4 = r.tg from f3, show wholeV l (12, 0) = (r.v6, r.pl, r.pn) from f4]
    unfold ownR at hown
    rw [if_neg (by omega), if_neg (by omega), if_pos hk] at hown
    exact hown.symm
theorem back_4 {r : Rt} (hr : RtOk r) (hR : rightR r = true) (hk : r.k = 4) : oneR r.k (bodyR r) = some r := by
  have hf := rightF hr hR
  obtain ⟨hown, hadr⟩ := right_own hR
  have hw : wholeB r.v6 r.pl r.pn = true := by unfold addrsB at hadr; rw [if_neg (by omega), if_pos (Or.inr hk)] at hadr; exact hadr
  have hl : bodyR r = r.rd ++ (r.es ++ ([r.pn % 256] ++ (r.pl.take (nb r.v6) ++ []))) := by unfold bodyR; rw [if_neg (by omega), if_neg (by omega), if_neg (by omega), if_pos hk]; simp
  generalize bodyR r = l at *
  obtain ⟨f1, g1, d1, p1⟩ := at_fill (l := l) (p := 0) (n := 8) (by rw [hl]; rfl) (Nat.zero_le _) hr.rd
  obtain ⟨f2, g2, d2, p2⟩ := at_fill (n := 10) d1 p1 hr.es
  obtain ⟨f4, g4, d4, p4⟩ := at_whole d2 p2 hr.pl hw
  have e1 : fs1 l = (8, 0) := g1
  have e2 : fs2 l r.k = (18, 0) := by unfold fs2; rw [if_neg (by omega), e1]; exact g2
  have e3 : fs3 l r.k = (18, 0) := by unfold fs3; rw [if_pos hk, e2]
  have hlen := end_len d4 p4
  refine oneR_of ?_ ?_ ?_ hR
  · unfold fdB; rw [if_neg (by omega)]
  · unfold fdS; rw [if_neg (by omega), if_neg (by omega), if_neg (by omega), e3, hlen]; exact g4
  · have e2' : fs2 l (rtZ r.k z8).k = (18, 0) := e2
    have e3' : fs3 l (rtZ r.k z8).k = (18, 0) := e3
    have hk' : (rtZ r.k z8).k = 4 := hk
    unfold fdR
    rw [if_neg (by omega), if_neg (by omega), if_neg (by omega), e3']
    unfold hdR
    rw [if_neg (by omega), if_pos hk', e1]
    rw [show fillV l (0, 0) 8 = r.rd from f1, show fillV l (8, 0) 10 = r.es from f2, show wholeV l (18, 0) = (r.v6, r.pl, r.pn) from f4]
    unfold ownR at hown
    rw [if_neg (by omega), if_neg (by omega), if_neg (by omega), if_pos hk] at hown
    exact hown.symm
theorem back_5 {r : Rt} (hr : RtOk r) (hR : rightR r = true) (hk : r.k = 5) : oneR r.k (bodyR r) = some r := by
  have hf := rightF hr hR
  obtain ⟨hown, hadr⟩ := right_own hR
  obtain ⟨hpf, hgw, hgv⟩ : rightPfB r.v6 r.pl r.pn = true ∧ rightB r.gv r.gl = true ∧ r.gv = r.v6 := by
    unfold addrsB at hadr
    rw [if_neg (by omega), if_neg (by omega), if_pos hk] at hadr
    simpa [Bool.and_eq_true] using hadr
  obtain ⟨hpb, hp0, hpm⟩ := rightPf_facts hpf
  have hpn : r.pn % 256 = r.pn := by have := bits_le r.v6; omega
  have hl : bodyR r = r.rd ++ (r.es ++ (be 4 r.tg ++ (r.pn :: (r.pl.take (nb r.v6) ++ (r.gl.take (nb r.v6) ++ (be 3 r.lb ++ [])))))) := by unfold bodyR; rw [if_neg (by omega), if_neg (by omega), if_neg (by omega), if_neg (by omega), hgv, hpn]; simp
  generalize bodyR r = l at *
  obtain ⟨f1, g1, d1, p1⟩ := at_fill (l := l) (p := 0) (n := 8) (by rw [hl]; rfl) (Nat.zero_le _) hr.rd
  obtain ⟨f2, g2, d2, p2⟩ := at_fill (n := 10) d1 p1 hr.es
  obtain ⟨f3, g3, d3, p3⟩ := at_num (k := 4) d2 p2 (be_len _ _) (by omega) (by omega)
  obtain ⟨f4, g4, d4, p4⟩ := at_byte d3
  obtain ⟨f5, g5, d5, p5⟩ := at_take d4 p4 (take_nb_len (v := r.v6) hr.pl)
  obtain ⟨f6, g6, d6, p6⟩ := at_take d5 p5 (take_nb_len (v := r.v6) hr.gl)
  obtain ⟨f7, g7, d7, p7⟩ := at_num (k := 3) d6 p6 (be_len _ _) (by omega) (by omega)
  rw [be4_num _ hr.tg] at f3
  rw [be3_num _ hf.lb.1 hf.lb.2] at f7
  have e1 : fs1 l = (8, 0) := g1
  have e2 : fs2 l r.k = (18, 0) := by unfold fs2; rw [if_neg (by omega), e1]; exact g2
  have e3 : fs3 l r.k = (22, 0) := by unfold fs3; rw [if_neg (by omega), e2]; exact g3
  have hlen := end_len d7 p7
  have h58 : decide (l.length = 58) = r.v6 := by
    rw [hlen]
    cases r.v6 <;> simp [nb]
  have q1 : nV l (22, 0) 1 = r.pn := f4
  have q2 : nS l (22, 0) 1 = (23, 0) := g4
  have q3 : tV l (23, 0) (nb r.v6) = r.pl.take (nb r.v6) := f5
  have q4 : tS l (23, 0) (nb r.v6) = (23 + nb r.v6, 0) := g5
  have q5 : tV l (23 + nb r.v6, 0) (nb r.v6) = r.gl.take (nb r.v6) := f6
  have q6 : tS l (23 + nb r.v6, 0) (nb r.v6) = (23 + nb r.v6 + nb r.v6, 0) := g6
  have q7 : nV l (23 + nb r.v6 + nb r.v6, 0) 3 = r.lb := f7
  have q8 : nS l (23 + nb r.v6 + nb r.v6, 0) 3 = (23 + nb r.v6 + nb r.v6 + 3, 0) := g7
  refine oneR_of ?_ ?_ ?_ hR
  · unfold fdB; rw [if_neg (by omega)]
  · unfold fdS; rw [if_neg (by omega), if_neg (by omega), if_pos hk, e3, h58, hlen]
    unfold preS
    rw [q2, q4, q6, q8]
  · have e2' : fs2 l (rtZ r.k z8).k = (18, 0) := e2
    have e3' : fs3 l (rtZ r.k z8).k = (22, 0) := e3
    have hk' : (rtZ r.k z8).k = 5 := hk
    unfold fdR
    rw [if_neg (by omega), if_neg (by omega), if_pos hk', e3', h58]
    unfold preR
    rw [q2, q4, q6, q1, q3, q5, q7, pad_take hr.pl hpb]
    rw [show pad (r.gl.take (nb r.v6)) = r.gl from by rw [← hgv]; exact pad_take hr.gl hgw]
    unfold hdR
    rw [if_neg (by omega), if_neg (by omega), e1, e2']
    rw [show fillV l (0, 0) 8 = r.rd from f1, show fillV l (8, 0) 10 = r.es from f2, show nV l (18, 0) 4 = r.tg from f3]
    unfold ownR at hown
    rw [if_neg (by omega), if_neg (by omega), if_neg (by omega), if_neg (by omega), if_pos hk, hgv] at hown
    exact hown.symm

theorem at_none {l tl : List Int} {p : Nat} (h : l.drop p = 0 :: tl) : wholeV l (p, 0) = (false, z16, 0) ∧ wholeS l (p, 0) = (p + 1, 0) ∧ l.drop (p + 1) = tl ∧ p + 1 ≤ l.length := by
  obtain ⟨e1, e2, d1, p1⟩ := at_byte h
  refine ⟨?_, ?_, d1, p1⟩
  · unfold wholeV; rw [e1, e2]; simp
  · unfold wholeS; rw [e1, e2]; simp
theorem at_sec {l : List Int} {p : Nat} {n : Int} (h : l.drop p = sec n) (hp : p ≤ l.length) (h0 : 0 ≤ n) (h1 : n ≤ 16777215) :
    (if p < l.length then nV l (p, 0) 3 else 0) = n ∧ (if p < l.length then nS l (p, 0) 3 else (p, 0)) = (l.length, 0) := by
  by_cases hn : n = 0
  · subst hn
    have hlen := end_len (l := l) (p := p) (by rw [h]; rfl) hp
    rw [if_neg (by omega), if_neg (by omega), hlen]
    exact ⟨rfl, rfl⟩
  · have hs : sec n = be 3 n ++ [] := by unfold sec; rw [if_neg hn]; simp
    rw [hs] at h
    obtain ⟨f, g, d, q⟩ := at_num (k := 3) h hp (be_len _ _) (by omega) (by omega)
    rw [be3_num _ h0 h1] at f
    have hlen := end_len d q
    rw [if_pos (by omega), if_pos (by omega), hlen]
    exact ⟨f, g⟩
theorem back_2 {r : Rt} (hr : RtOk r) (hR : rightR r = true) (hk : r.k = 2) : oneR r.k (bodyR r) = some r := by
  have hf := rightF hr hR
  obtain ⟨hown, hadr⟩ := right_own hR
  obtain ⟨mid, hmid, hwhole⟩ : ∃ mid : List Int, bodyR r = r.rd ++ (r.es ++ (be 4 r.tg ++ (48 :: (r.mc ++ (mid ++ (be 3 r.lb ++ sec r.l2)))))) ∧
      ∀ (l tl : List Int) (p : Nat), l.drop p = mid ++ tl → p ≤ l.length → ∃ m, wholeV l (p, 0) = (r.v6, r.pl, r.pn) ∧ wholeS l (p, 0) = (m, 0) ∧ l.drop m = tl ∧ m ≤ l.length := by
    unfold addrsB at hadr
    rw [if_pos hk, Bool.or_eq_true] at hadr
    unfold bodyR
    rw [if_neg (by omega), if_pos hk]
    rcases hadr with hz | hw
    · unfold zeroPf at hz
      rw [decide_eq_true_eq] at hz
      obtain ⟨z1, z2, z3⟩ := hz
      refine ⟨[0], by rw [z3]; simp, fun l tl p h hp => ?_⟩
      obtain ⟨e1, e2, d1, p1⟩ := at_none (l := l) (p := p) (tl := tl) h
      exact ⟨p + 1, by rw [e1, z1, z2, z3], e2, d1, p1⟩
    · have hpn : r.pn = bitsOf r.v6 := by
        unfold wholeB at hw
        simp only [Bool.and_eq_true, decide_eq_true_eq] at hw
        exact hw.2
      have hnb : (r.pn / 8).toNat = nb r.v6 := by rw [hpn]; cases r.v6 <;> rfl
      refine ⟨[r.pn % 256] ++ r.pl.take (nb r.v6), by rw [hnb]; simp, fun l tl p h hp => ?_⟩
      obtain ⟨e1, e2, d1, p1⟩ := at_whole (l := l) (p := p) (tl := tl) (v := r.v6) (xs := r.pl) (n := r.pn) (by rw [h, List.append_assoc]) hp hr.pl hw
      exact ⟨_, e1, e2, d1, p1⟩
  generalize bodyR r = l at *
  obtain ⟨f1, g1, d1, p1⟩ := at_fill (l := l) (p := 0) (n := 8) (by rw [hmid]; rfl) (Nat.zero_le _) hr.rd
  obtain ⟨f2, g2, d2, p2⟩ := at_fill (n := 10) d1 p1 hr.es
  obtain ⟨f3, g3, d3, p3⟩ := at_num (k := 4) d2 p2 (be_len _ _) (by omega) (by omega)
  obtain ⟨f4, g4, d4, p4⟩ := at_byte d3
  obtain ⟨f5, g5, d5, p5⟩ := at_fill (n := 6) d4 p4 hr.mc
  obtain ⟨m, f6, g6, d6, p6⟩ := hwhole _ _ _ d5 p5
  obtain ⟨f7, g7, d7, p7⟩ := at_num (k := 3) d6 p6 (be_len _ _) (by omega) (by omega)
  obtain ⟨f8, g8⟩ := at_sec d7 p7 hf.l2.1 hf.l2.2
  rw [be4_num _ hr.tg] at f3
  rw [be3_num _ hf.lb.1 hf.lb.2] at f7
  have e1 : fs1 l = (8, 0) := g1
  have e2 : fs2 l r.k = (18, 0) := by unfold fs2; rw [if_neg (by omega), e1]; exact g2
  have e3 : fs3 l r.k = (22, 0) := by unfold fs3; rw [if_neg (by omega), e2]; exact g3
  have q1 : nV l (22, 0) 1 = 48 := f4
  have q2 : nS l (22, 0) 1 = (23, 0) := g4
  have q3 : fillV l (23, 0) 6 = r.mc := f5
  have q4 : fillS l (23, 0) 6 = (29, 0) := g5
  have q5 : wholeV l (29, 0) = (r.v6, r.pl, r.pn) := f6
  have q6 : wholeS l (29, 0) = (m, 0) := g6
  have q7 : nV l (m, 0) 3 = r.lb := f7
  have q8 : nS l (m, 0) 3 = (m + 3, 0) := g7
  refine oneR_of ?_ ?_ ?_ hR
  · unfold fdB; rw [if_pos hk, e3, q1]; rfl
  · unfold fdS; rw [if_neg (by omega), if_pos hk, e3]
    unfold macS
    rw [q2, q4, q6, q8]
    exact g8
  · have e2' : fs2 l (rtZ r.k z8).k = (18, 0) := e2
    have e3' : fs3 l (rtZ r.k z8).k = (22, 0) := e3
    have hk' : (rtZ r.k z8).k = 2 := hk
    unfold fdR
    rw [if_neg (by omega), if_pos hk', e3']
    unfold macR
    rw [q2, q3, q4, q5, q6, q7, q8]
    have q9 : (if ((m + 3, 0) : CS).1 < l.length then nV l (m + 3, 0) 3 else (hdR (rtZ r.k z8) l).l2) = r.l2 := f8
    rw [q9]
    unfold hdR
    rw [if_neg (by omega), if_neg (by omega), e1, e2']
    rw [show fillV l (0, 0) 8 = r.rd from f1, show fillV l (8, 0) 10 = r.es from f2, show nV l (18, 0) 4 = r.tg from f3]
    unfold ownR at hown
    rw [if_neg (by omega), if_pos hk] at hown
    exact hown.symm
theorem back_all {r : Rt} (hr : RtOk r) (hR : rightR r = true) : oneR r.k (bodyR r) = some r := by
  have hk := (rightF hr hR).k
  have : r.k = 1 ∨ r.k = 2 ∨ r.k = 3 ∨ r.k = 4 ∨ r.k = 5 := by omega
  rcases this with e | e | e | e | e
  · exact back_1 hr hR e
  · exact back_2 hr hR e
  · exact back_3 hr hR e
  · exact back_4 hr hR e
  · exact back_5 hr hR e

/-! Many routes, one behind the other. -/
theorem read_put {r : Rt} (hr : RtOk r) (hR : rightR r = true) (rest : List Int) : readAll (putR r ++ rest) = pre2 [r] 0 (readAll rest) := by
  have hk := (rightF hr hR).k
  show readAll (r.k :: ((bodyR r).length : Int) :: (bodyR r ++ rest)) = _
  rw [readAll_cons, if_neg (by simp; omega), Int.toNat_natCast, List.take_left, List.drop_left]
  cases readAll rest with
  | none => rfl
  | some x =>
    obtain ⟨a, b⟩ := x
    simp only [addR]
    rw [if_pos hk, back_all hr hR]
    simp [pre2]
def puts (rs : List Rt) : List Int := rs.flatMap putR
def AllR (rs : List Rt) : Prop := ∀ r ∈ rs, RtOk r ∧ rightR r = true
theorem AllR.nil_ : AllR [] := fun r h => by cases h
theorem AllR.app {a b : List Rt} (ha : AllR a) (hb : AllR b) : AllR (a ++ b) := fun r h => (List.mem_append.1 h).elim (ha r) (hb r)
theorem AllR.one {r : Rt} (h1 : RtOk r) (h2 : rightR r = true) : AllR [r] := fun s hs => by rw [List.mem_singleton] at hs; subst hs; exact ⟨h1, h2⟩
theorem AllR.ok {a : List Rt} (h : AllR a) : AllRt a := fun r hr => (h r hr).1
theorem puts_app (a b : List Rt) : puts (a ++ b) = puts a ++ puts b := by simp [puts]
theorem puts_one (r : Rt) : puts [r] = putR r := by simp [puts]
theorem pre2_pre2 (a b : List Rt) (m n : Nat) (o : Option (List Rt × Nat)) : pre2 a m (pre2 b n o) = pre2 (a ++ b) (m + n) o := by cases o <;> simp [pre2]; omega
theorem read_puts_app : ∀ (rs : List Rt), AllR rs → ∀ rest, readAll (puts rs ++ rest) = pre2 rs 0 (readAll rest)
  | [], _, rest => by rw [pre2_nil]; rfl
  | r :: rs, h, rest => by
    obtain ⟨h1, h2⟩ := h r List.mem_cons_self
    have ih := read_puts_app rs (fun s hs => h s (List.mem_cons_of_mem _ hs)) rest
    have e : puts (r :: rs) ++ rest = putR r ++ (puts rs ++ rest) := by simp [puts]
    rw [e, read_put h1 h2, ih, pre2_pre2]
    rfl
theorem read_puts (rs : List Rt) (h : AllR rs) : readAll (puts rs) = some (rs, 0) := by
  have := read_puts_app rs h []
  rw [List.append_nil, readAll_nil] at this
  rw [this]
  simp [pre2]
end Go.Proofs.YtdgoeibfggjbmaaGreatDoor
