/-
  Put together: AwA AwB AwC AdC AwD AwE AwF AwG AwH AxA AxB NlG AdD NlA.
-/
import Derived.Test.YtdgoeibfggjbmaaGreatDoorMB
import Derived.Test.YtdgoeibfggjbmaaGreatDoorMA
import Derived.Laws.MakeOwn
import Derived.BigFrame
import Derived.Deep.DeepCutAuto
import Derived.Deep.RegionHeld3
import Derived.Great.BuildSlice
import Derived.OpenShut
import Derived.ChangeOld
namespace Go.Proofs.YtdgoeibfggjbmaaGreatDoor
open Go.RowKit
set_option maxRecDepth 100000
set_option linter.unusedSimpArgs false
set_option linter.unusedVariables false

/-- Numbers of four bytes each. -/
def encN (l : List Int) : List Int := l.flatMap fun n => be 4 n
theorem encN_cons (n : Int) (l : List Int) : encN (n :: l) = be 4 n ++ encN l := rfl
theorem encN_len (l : List Int) : (encN l).length = 4 * l.length := by
  induction l with
  | nil => rfl
  | cons n l ih => rw [encN_cons, List.length_append, be_len, ih, List.length_cons]; omega
/-- The flags, with the one for a long value. -/
def lfl (f : Int) (v : List Int) : Int := if 255 < v.length then f + 16 else f
def rawW (f k : Int) (v : List Int) : Raw := (lfl f v, k, v)
def pathW (l : List Int) : List Int := if l = [] then [] else [2, (l.length : Int)] ++ encN l
def pmW (p : Pm) : List Int := [0, p.kind] ++ be 3 p.label ++ (if p.kind = 6 then p.ip.take (if p.v6 then 16 else 4) else [])
def opt {α : Type} (b : Bool) (x : α) : List α := if b then [x] else []
/-- The attributes that say what a says. -/
def writeR (a : Att) : List Raw :=
  [rawW 64 1 [a.origin], rawW 64 2 (pathW a.path)] ++ (opt a.hasMed (rawW 128 4 (be 4 a.med)) ++ ([rawW 64 5 (be 4 a.pref)] ++ (opt (decide (a.orr ≠ 0)) (rawW 128 9 (be 4 a.orr)) ++ (opt (decide (a.clus ≠ [])) (rawW 128 10 (encN a.clus)) ++
    (opt (decide (a.comms ≠ [])) (rawW 192 16 a.comms.flatten) ++ opt (decide (a.pm.kind ≠ 0)) (rawW 192 22 (pmW a.pm)))))))
def rightPm (p : Pm) : Bool := decide (0 ≤ p.kind) && (decide (p.kind ≤ 255) && (decide (p.label ≤ 16777215) && (rightB p.v6 p.ip && ((decide (p.kind = 6) || (decide (p.v6 = false) && decide (p.ip = z16))) && (decide (p.kind ≠ 0) || decide (p.label = 0))))))
def rightAt (a : Att) : Bool := decide (0 ≤ a.origin) && (decide (a.origin ≤ 2) && (rightPm a.pm && (a.hasMed || decide (a.med = 0))))
/-- 0: written; 2: not right; 5: too many entries. -/
def writeE (a : Att) : Int := if rightAt a = false then 2 else if 255 < a.path.length ∨ 255 < a.clus.length ∨ 255 < a.comms.length then 5 else 0

/-- All numbers are of their types. -/
structure AtFits (a : Att) : Prop where
  path : ∀ n ∈ a.path, 0 ≤ n ∧ n ≤ 4294967295
  clus : ∀ n ∈ a.clus, 0 ≤ n ∧ n ≤ 4294967295
  comms : ∀ l ∈ a.comms, l.length = 8 ∧ Oct l
  med : 0 ≤ a.med ∧ a.med ≤ 4294967295
  pref : 0 ≤ a.pref ∧ a.pref ≤ 4294967295
  orr : 0 ≤ a.orr ∧ a.orr ≤ 4294967295
  label : 0 ≤ a.pm.label ∧ a.pm.label ≤ 4294967295
  ip : a.pm.ip.length = 16
  oct : Oct a.pm.ip

theorem foldl_numW (r : List Int) : ∀ x : Int, r.foldl (fun n b => n * 256 + b) x = x * 256 ^ r.length + numOf r := by
  induction r with
  | nil => intro x; simp [numOf]
  | cons b r ih =>
    intro x
    unfold numOf
    rw [List.foldl_cons, List.foldl_cons, ih, ih, List.length_cons, Int.pow_succ, Int.zero_mul, Int.zero_add, Int.add_mul, Int.mul_assoc, Int.mul_comm 256 (256 ^ r.length), Int.add_assoc]
theorem numOf_consW (b : Int) (r : List Int) : numOf (b :: r) = b * 256 ^ r.length + numOf r := by
  unfold numOf
  rw [List.foldl_cons, foldl_numW]
  simp [numOf]
theorem be2_numW (n : Int) (h0 : 0 ≤ n) (h1 : n ≤ 65535) : numOf (be 2 n) = n := by
  simp only [be, numOf_consW, be_len]
  simp [numOf]
  omega
theorem cmms_enc (l : List (List Int)) (h : ∀ x ∈ l, x.length = 8 ∧ Oct x) : cmms l.flatten = l ∧ l.flatten.length = 8 * l.length := by
  have hl : ∀ l : List (List Int), (∀ x ∈ l, x.length = 8 ∧ Oct x) → l.flatten.length = 8 * l.length := by
    intro l
    induction l with
    | nil => intro _; rfl
    | cons x l ih => intro h; rw [List.flatten_cons, List.length_append, ih (fun y hy => h y (List.mem_cons_of_mem _ hy)), (h x (List.mem_cons_self ..)).1, List.length_cons]; omega
  refine ⟨?_, hl l h⟩
  unfold cmms
  rw [hl l h, Nat.mul_div_cancel_left _ (by omega)]
  apply List.ext_getElem
  · simp
  · intro i h1 h2
    rw [List.getElem_map, List.getElem_range]
    have hd : ∀ (l : List (List Int)) (_ : ∀ x ∈ l, x.length = 8 ∧ Oct x) (i : Nat) (hi : i < l.length), (l.flatten.drop (8 * i)).take 8 = l[i] := by
      intro l
      induction l with
      | nil => intro _ i hi; cases hi
      | cons x l ih =>
        intro h i hi
        have hx := (h x (List.mem_cons_self ..)).1
        cases i with
        | zero => rw [List.flatten_cons]; simp [hx]
        | succ i =>
          rw [List.flatten_cons, show 8 * (i + 1) = 8 + 8 * i by omega, ← List.drop_drop, List.drop_left' hx]
          simpa using ih (fun y hy => h y (List.mem_cons_of_mem _ hy)) i (by simpa using hi)
    exact hd l h i h2

theorem mem_opt {α : Type} {b : Bool} {x y : α} (h : y ∈ opt b x) : b = true ∧ y = x := by
  unfold opt at h
  split at h
  · rename_i hb; exact ⟨hb, by simpa using h⟩
  · cases h
theorem opt_kinds (b : Bool) (f k : Int) (v : List Int) : (opt b (rawW f k v)).map (·.2.1) = opt b k := by unfold opt; split <;> rfl
theorem right_parts {a : Att} (hr : rightAt a = true) : 0 ≤ a.origin ∧ a.origin ≤ 2 ∧ rightPm a.pm = true ∧ (a.hasMed = true ∨ a.med = 0) := by
  unfold rightAt at hr
  simpa using hr
theorem pm_parts {a : Att} (hr : rightAt a = true) : 0 ≤ a.pm.kind ∧ a.pm.kind ≤ 255 ∧ a.pm.label ≤ 16777215 ∧ rightB a.pm.v6 a.pm.ip = true ∧ (a.pm.kind = 6 ∨ (a.pm.v6 = false ∧ a.pm.ip = z16)) ∧ (a.pm.kind ≠ 0 ∨ a.pm.label = 0) := by
  have := (right_parts hr).2.2.1
  unfold rightPm at this
  simpa using this
section
variable {a : Att} (hf : AtFits a) (hr : rightAt a = true)
include hf hr in
include hf hr in
include hf hr in
end

/-! Bytes there and back. -/
theorem encB_pos (r : Raw) : 0 < (encB r).length := by simp [encB]
theorem be_num1 (x : Int) (h : 0 ≤ x ∧ x < 256) : be 1 x = [x] := by simp [be]; omega
theorem be_num2 (x y : Int) (hx : 0 ≤ x ∧ x < 256) (hy : 0 ≤ y ∧ y < 256) : be 2 (x * 256 + y) = [x, y] := by simp [be]; omega
theorem one_back {r : List Int} {x : Raw} {k : Nat} (ho : Oct r) (h : one r = some (x, k)) : encE x = 0 ∧ encB x = r.take k ∧ k ≤ r.length := by
  unfold one at h
  split at h
  · rename_i h1
    split at h
    · rename_i h2
      injection h with h
      injection h with hx hk
      subst hx hk
      obtain ⟨f, r, rfl⟩ : ∃ f r', r = f :: r' := by cases r with | nil => (first | omega | (simp at h1; done) | (simp at h1; omega)) | cons a b => exact ⟨_, _, rfl⟩
      obtain ⟨kd, r, rfl⟩ : ∃ f r', r = f :: r' := by cases r with | nil => (first | omega | (simp at h1; done) | (simp at h1; omega)) | cons a b => exact ⟨_, _, rfl⟩
      have hfo := ho f (by simp)
      have hko := ho kd (by simp)
      have hro : Oct r := fun y hy => ho y (by simp [hy])
      simp only [List.getD_cons_zero, List.getD_cons_succ, List.drop_succ_cons, List.drop_zero, List.length_cons] at h1 h2 ⊢
      have hd : ∀ n, (f :: kd :: r).drop (2 + n) = r.drop n := fun n => by rw [Nat.add_comm]; rfl
      rw [hd]
      rcases lsz_12 f with e | e
      · rw [e] at h1 h2 ⊢
        obtain ⟨a, r, rfl⟩ : ∃ f r', r = f :: r' := by cases r with | nil => (first | omega | (simp at h1; done) | (simp at h1; omega)) | cons a b => exact ⟨_, _, rfl⟩
        have ha := hro a (by simp)
        have eN : numOf ((a :: r).take 1) = a := by simp [numOf]
        rw [eN] at h2 ⊢
        obtain ⟨n, rfl⟩ := Int.eq_ofNat_of_zero_le ha.1
        simp only [Int.toNat_natCast, List.length_cons, List.drop_succ_cons, List.drop_zero] at h2 ⊢
        have hl : (r.take n).length = n := by rw [List.length_take]; omega
        refine ⟨?_, ?_, by omega⟩
        · unfold encE
          simp only [hl, e]
          rw [if_pos (by omega), if_pos (by omega)]
        · unfold encB
          simp only [hl, e]
          rw [be_num1 _ ha, show 2 + 1 + n = n + 1 + 1 + 1 by omega]
          rfl
      · rw [e] at h1 h2 ⊢
        obtain ⟨a, r, rfl⟩ : ∃ f r', r = f :: r' := by cases r with | nil => (first | omega | (simp at h1; done) | (simp at h1; omega)) | cons a b => exact ⟨_, _, rfl⟩
        obtain ⟨b, r, rfl⟩ : ∃ f r', r = f :: r' := by cases r with | nil => (first | omega | (simp at h1; done) | (simp at h1; omega)) | cons a b => exact ⟨_, _, rfl⟩
        have ha := hro a (by simp)
        have hb := hro b (by simp)
        have eN : numOf ((a :: b :: r).take 2) = a * 256 + b := by simp [numOf]
        rw [eN] at h2 ⊢
        obtain ⟨n, hn⟩ := Int.eq_ofNat_of_zero_le (show 0 ≤ a * 256 + b by omega)
        have hB := be_num2 a b ha hb
        rw [hn] at h2 hB ⊢
        simp only [Int.toNat_natCast, List.length_cons, List.drop_succ_cons, List.drop_zero] at h2 ⊢
        have hl : (r.take n).length = n := by rw [List.length_take]; omega
        refine ⟨?_, ?_, by omega⟩
        · unfold encE
          simp only [hl, e]
          rw [if_pos (by omega), if_pos (by omega)]
        · unfold encB
          simp only [hl, e]
          rw [hB, show 2 + 2 + n = n + 1 + 1 + 1 + 1 by omega]
          rfl
    · cases h
  · cases h
theorem spl_back : ∀ (m : Nat) (l : List Int) (rs : List Raw), Oct l → l.length ≤ m → spl m l = some rs → (∀ r ∈ rs, encE r = 0) ∧ joinB rs = l := by
  intro m
  induction m with
  | zero =>
    intro l rs _ hl h
    obtain rfl : l = [] := List.eq_nil_of_length_eq_zero (by omega)
    injection h with h
    subst h
    exact ⟨(fun r hr => by cases hr), rfl⟩
  | succ m ih =>
    intro l rs ho hl h
    by_cases h0 : l = []
    · subst h0
      rw [spl_nil] at h
      injection h with h
      subst h
      exact ⟨(fun r hr => by cases hr), rfl⟩
    · cases h1 : one l with
      | none => rw [spl_none h0 h1] at h; cases h
      | some p =>
        obtain ⟨x, k⟩ := p
        rw [spl_some h0 h1] at h
        obtain ⟨e1, e2, e3⟩ := one_back ho h1
        have hk := one_pos h1
        cases h2 : spl m (l.drop k) with
        | none => rw [h2] at h; cases h
        | some rs' =>
          rw [h2] at h
          injection h with h
          subst h
          obtain ⟨i1, i2⟩ := ih (l.drop k) rs' (fun y hy => ho y (List.mem_of_mem_drop hy)) (by rw [List.length_drop]; omega) h2
          refine ⟨fun r hr => ?_, ?_⟩
          · rcases List.mem_cons.1 hr with rfl | hr
            · exact e1
            · exact i1 r hr
          · show encB x ++ joinB rs' = l
            rw [e2, i2, List.take_append_drop]
theorem split_back {l : List Int} {rs : List Raw} (ho : Oct l) (h : split l = some rs) : (∀ r ∈ rs, encE r = 0) ∧ joinB rs = l := spl_back _ l rs ho (Nat.le_refl _) h
end Go.Proofs.YtdgoeibfggjbmaaGreatDoor
namespace Go.Proofs.YtdgoeibfggjbmaaGreatDoor
open Go.RowKit
set_option maxRecDepth 100000
set_option linter.unusedSimpArgs false
set_option linter.unusedVariables false

/-- Bytes in a block that is no row of the type T0. -/
def BodyT (T0 : TypeId) (lo : Nat) (w : World) (A : Option Addr) (n : Nat) (l : List Int) : Prop :=
  Oct l ∧ l.length = n ∧ (n = 0 ∨ ∃ i o cs t, A = some ⟨i, o, none⟩ ∧ lo ≤ i ∧ w.heap[i]? = some (.cells cs t (0, 0)) ∧ t ≠ T0 ∧ ∀ j, j < n → cs[o + j]? = some (.int .u8 (l.getD j 0)))
section
variable {T0 : TypeId} {lo lo' : Nat} {w w' : World} {A : Option Addr} {n : Nat} {l : List Int}
theorem BodyT.keep (h : BodyT T0 lo w A n l) (hk : ∀ i c t, w.heap[i]? = some (.cells c t (0, 0)) → lo ≤ i → t ≠ T0 → w'.heap[i]? = w.heap[i]?) : BodyT T0 lo w' A n l :=
  ⟨h.1, h.2.1, h.2.2.imp id fun ⟨i, o, cs, t, a, b, d, e, f⟩ => ⟨i, o, cs, t, a, b, (hk i cs t d b e).trans d, e, f⟩⟩
theorem BodyT.below (h : BodyT T0 lo w A n l) (hb : Below w.heap.size w w') : BodyT T0 lo w' A n l := h.keep fun i c t hi _ _ => hb.block i (Array.getElem?_eq_some_iff.1 hi).1
theorem BodyT.low (h : BodyT T0 lo w A n l) (hl : lo' ≤ lo) : BodyT T0 lo' w A n l := ⟨h.1, h.2.1, h.2.2.imp id fun ⟨i, o, cs, t, a, b, d⟩ => ⟨i, o, cs, t, a, Nat.le_trans hl b, d⟩⟩
theorem BodyT.rd (h : BodyT T0 lo w A n l) : Rd w w.heap.size A n l := by
  obtain ⟨ho, hl, rfl | ⟨i, o, cs, t, rfl, _, hi, _, hc⟩⟩ := h
  · obtain rfl : l = [] := List.eq_nil_of_length_eq_zero hl
    exact Rd.nil_ A
  · refine ⟨hl, ho, fun _ => ⟨i, o, rfl, (Array.getElem?_eq_some_iff.1 hi).1, fun j hj => ?_⟩⟩
    simp only [World.cell?, hi]
    exact hc j hj
theorem OwnB.bodyT {v : Value} (h : OwnB lo w v l) (ht : 5 ≠ T0) : ∃ A c, v = .slice A l.length c ∧ BodyT T0 lo w A l.length l := by
  rcases h.own.2 with ⟨rfl, hn⟩ | ⟨g, cap, cur, rfl, hb, hg, hnc, hcm, hcs, hx⟩
  · exact ⟨none, 0, by rw [hn], h.oct, rfl, .inl hn⟩
  · refine ⟨_, cap, rfl, h.oct, rfl, .inr ⟨g, 0, cur, 5, rfl, hb, hg, ht, fun j hj => ?_⟩⟩
    have h1 : (u8s l)[j]? = some (.int .u8 (l.getD j 0)) := by simp [List.getD, hj]
    rw [← hx, List.getElem?_take, if_pos (by omega)] at h1
    rw [Nat.zero_add, ← Array.getElem?_toList]
    exact h1
theorem Byt.bodyT {g : Nat} (h : Byt w g 5 l) (ho : Oct l) (ht : 5 ≠ T0) (hg : lo ≤ g) : BodyT T0 lo w (some ⟨g, 0, none⟩) l.length l :=
  ⟨ho, rfl, .inr ⟨g, 0, _, 5, rfl, hg, h, ht, fun j hj => by simp [List.getD, hj]⟩⟩
end

/-- A row of the call's own of slices of bytes. -/
structure OwnL (lo : Nat) (w : World) (v : Value) (ls : List (List Int)) : Prop where
  ex : ∃ cs, w.ownsRow lo 38 1 v ls.length cs ∧ cs.length = ls.length ∧ ∀ i (h : i < ls.length), ∃ A n c, cs[i]? = some (.slice A n c) ∧ BodyT 38 lo w A n ls[i]
theorem info_bytes : (Tryz.prog.info? 38).map (fun i => (i.zero, i.size, i.bytes)) = some (some (.slice none 0 0), 1, 24) := by kernel_rfl
section
variable {lo lo' : Nat} {w w' : World} {v : Value} {ls : List (List Int)}
theorem OwnL.nil_ (lo : Nat) (w : World) : OwnL lo w (.slice none 0 0) [] := ⟨[], World.ownsRow_nil _ _ _ _, rfl, fun i h => absurd h (by simp)⟩
theorem OwnL.below (h : OwnL lo w v ls) (hb : Below w.heap.size w w') : OwnL lo w' v ls := by
  obtain ⟨cs, h1, h2, h3⟩ := h.ex
  refine ⟨cs, own_keep h1 fun i c hi _ _ => hb.block i (Array.getElem?_eq_some_iff.1 hi).1, h2, fun i hi => ?_⟩
  obtain ⟨A, n, c, k1, k2⟩ := h3 i hi
  exact ⟨A, n, c, k1, k2.below hb⟩
theorem OwnL.low (h : OwnL lo w v ls) (hl : lo' ≤ lo) : OwnL lo' w v ls := by
  obtain ⟨cs, h1, h2, h3⟩ := h.ex
  refine ⟨cs, own_low h1 hl, h2, fun i hi => ?_⟩
  obtain ⟨A, n, c, k1, k2⟩ := h3 i hi
  exact ⟨A, n, c, k1, k2.low hl⟩
theorem OwnL.cells (h : OwnL lo w v ls) (hn : 0 < ls.length) : ∃ (g c : Nat) (cs : List Value), v = .slice (some ⟨g, 0, none⟩) ls.length c ∧ lo ≤ g ∧ g < w.heap.size ∧ cs.length = ls.length ∧ (∀ j y, cs[j]? = some y → w.cell? ⟨g, j, none⟩ = some y) ∧ ∀ i (h : i < ls.length), ∃ A n c, cs[i]? = some (.slice A n c) ∧ BodyT 38 lo w A n ls[i] := by
  obtain ⟨cs, h1, h2, h3⟩ := h.ex
  rcases h1.2 with ⟨rfl, h0⟩ | ⟨g, cap, cur, rfl, hb, hg, hnc, hcm, hcs, hx⟩
  · omega
  · refine ⟨g, cap, cs, rfl, hb, (Array.getElem?_eq_some_iff.1 hg).1, h2, fun j u hu => ?_, h3⟩
    rw [← hx, List.getElem?_take] at hu
    split at hu
    · simp only [World.cell?, hg]
      rw [← Array.getElem?_toList]
      exact hu
    · cases hu
theorem OwnL.rd (h : OwnL lo w v ls) : ∃ A c, v = .slice A ls.length c ∧ RdL w w.heap.size A ls.length ls := by
  rcases Nat.eq_zero_or_pos ls.length with h0 | h0
  · obtain ⟨cs, h1, _⟩ := h.ex
    rcases h1.2 with ⟨rfl, hn⟩ | ⟨g, cap, cur, rfl, _⟩
    · exact ⟨none, 0, by rw [hn], rfl, fun hp => by omega⟩
    · exact ⟨_, cap, rfl, rfl, fun hp => by omega⟩
  · obtain ⟨g, c, cs, rfl, _, hg, h2, hc, h3⟩ := h.cells h0
    refine ⟨_, c, rfl, rfl, fun _ => ⟨g, 0, rfl, hg, fun i hi => ?_⟩⟩
    obtain ⟨A, n, c1, k1, k2⟩ := h3 i hi
    exact ⟨A, n, c1, by rw [Nat.zero_add]; exact hc i _ k1, k2.rd⟩
end
/-- append of slices of bytes onto a row of the call's own. -/
theorem app_l_wp {o : Oper} {a : Act} {K : Act → World → Prop} {Q : Exit → Act → World → Prop} (s x : Operand)
    (ho : o.op = .call { callee := .builtin .append, args := #[s, x], argTypes := #[75, 75] }) {lo : Nat} {w : World} {v : Value} {T ls : List (List Int)} (h : OwnL lo w v T) (hlo : lo ≤ w.heap.size)
    {ad : Addr} {m c : Nat} {cs : List Value} (hm : cs.length = m) (hml : ls.length = m) (hlen : T.length + m ≤ 1000000) (hsrc : ∀ j y, cs[j]? = some y → w.cell? (ad.add j) = some y)
    (hb : ∀ i (h : i < ls.length), ∃ A n c, cs[i]? = some (.slice A n c) ∧ BodyT 38 lo w A n ls[i]) (hs : a.eval s = v) (hx : a.eval x = .slice (some ad) m c)
    (hk : ∀ v' w', OwnL lo w' v' (T ++ ls) → w.grownBy w' v.ownBlock → Below lo w w' → K (a.put o.dst v') w') : o.wp Tryz.prog a w K Q := by
  obtain ⟨i, hi, hz0, hz1, hz2⟩ := info_parts info_bytes
  obtain ⟨cs0, h1, h2, h3⟩ := h.ex
  have hone : ∀ u ∈ cs, u.oneCell' = true := fun u hu => by
    obtain ⟨j, hj, rfl⟩ := List.getElem_of_mem hu
    obtain ⟨A, n, c, k1, _⟩ := hb j (by omega)
    rw [List.getElem?_eq_getElem hj] at k1
    injection k1 with k1
    rw [k1]
    rfl
  obtain ⟨v', w', hrun, hown, hgr, _, _⟩ := run_append_own_at (P := Tryz.prog) w lo 75 o.type 38 i _ 1 24 Tryz.underlying75 hi hz0 hz1 hz2 rfl (by decide) v T.length cs0 h1 ad m c cs (by omega) hsrc hone (by unfold maxLen; omega) (by omega) hlo
  have hold : ∀ i, v.ownBlock = some i → lo ≤ i ∧ ∃ c, w.heap[i]? = some (.cells c 38 (0, 0)) := fun i hi => ⟨(h1.lt i hi).1, own_heap h1 hi⟩
  have hkeep : ∀ A n l, BodyT 38 lo w A n l → BodyT 38 lo w' A n l := fun A n l hb => hb.keep fun j c t hj _ ht => hgr.block j (Array.getElem?_eq_some_iff.1 hj).1 (fun e => by
    obtain ⟨_, c', hc'⟩ := hold j e.symm
    exact row_ne hj hc' ht rfl)
  unfold Oper.wp execOp
  simp only [ho, resolve, invoke, builtin, Sem.run_bind, Sem.run_pure, Result.andThen_ok, List.map_toArray, List.map_cons, List.map_nil, hs, hx, hrun]
  refine hk v' w' ⟨cs0 ++ cs, by rw [List.length_append, hml]; exact hown, by simp [h2, hm, hml], fun j hj => ?_⟩ hgr ((Below.refl lo w).grown hgr hlo (fun i e => (hold i e).1))
  rcases Nat.lt_or_ge j T.length with hj1 | hj1
  · obtain ⟨A, n, c, k1, k2⟩ := h3 j hj1
    exact ⟨A, n, c, by rw [List.getElem?_append_left (by omega)]; exact k1, by rw [List.getElem_append_left hj1]; exact hkeep _ _ _ k2⟩
  · have hj2 : j - T.length < ls.length := by rw [List.length_append] at hj; omega
    obtain ⟨A, n, c, k1, k2⟩ := hb (j - T.length) hj2
    exact ⟨A, n, c, by rw [List.getElem?_append_right (by omega), h2]; exact k1, by rw [List.getElem_append_right hj1]; exact hkeep _ _ _ k2⟩
theorem app_l {ops : Array Oper} {rest : List Oper} {o : Oper} {a : Act} {Q : Exit → Act → World → Prop} (hgd : o.guard = none) (s x : Operand)
    (ho : o.op = .call { callee := .builtin .append, args := #[s, x], argTypes := #[75, 75] }) {lo : Nat} {w : World} {v : Value} {T ls : List (List Int)} (h : OwnL lo w v T) (hlo : lo ≤ w.heap.size)
    {ad : Addr} {m c : Nat} {cs : List Value} (hm : cs.length = m) (hml : ls.length = m) (hlen : T.length + m ≤ 1000000) (hsrc : ∀ j y, cs[j]? = some y → w.cell? (ad.add j) = some y)
    (hb : ∀ i (h : i < ls.length), ∃ A n c, cs[i]? = some (.slice A n c) ∧ BodyT 38 lo w A n ls[i]) (hs : a.eval s = v) (hx : a.eval x = .slice (some ad) m c)
    (hk : ∀ v' w', OwnL lo w' v' (T ++ ls) → w.grownBy w' v.ownBlock → Below lo w w' → wpList Tryz.prog ops Q rest (a.put o.dst v') w') : wpList Tryz.prog ops Q (o :: rest) a w :=
  wpList_plain hgd fun _ hK => app_l_wp s x ho h hlo hm hml hlen hsrc hb hs hx fun v' w' h1 h2 h3 => hK _ _ (hk v' w' h1 h2 h3)
/-- The same of one slice in a new block. -/
theorem app_l1 {ops : Array Oper} {rest : List Oper} {o : Oper} {a : Act} {Q : Exit → Act → World → Prop} (hgd : o.guard = none) (s x : Operand)
    (ho : o.op = .call { callee := .builtin .append, args := #[s, x], argTypes := #[75, 75] }) {lo : Nat} {w : World} {v : Value} {T : List (List Int)} (h : OwnL lo w v T) (hlo : lo ≤ w.heap.size) (hlen : T.length + 1 ≤ 1000000)
    {A : Option Addr} {n c : Nat} {l : List Int} (hb : BodyT 38 lo w A n l) (hs : a.eval s = v) (hx : a.eval x = .slice (some ⟨w.heap.size, 0, none⟩) 1 1)
    (hk : ∀ v' w', OwnL lo w' v' (T ++ [l]) → Below lo w w' → wpList Tryz.prog ops Q rest (a.put o.dst v') w') : wpList Tryz.prog ops Q (o :: rest) a (w.alloc (.cells #[.slice A n c] 38)) := by
  have hB := Blk.new w 38 #[.slice A n c]
  have hal : Below w.heap.size w (w.alloc (.cells #[.slice A n c] 38)) := (Below.refl _ _).alloc (Nat.le_refl _) _
  refine app_l hgd s x ho (h.below hal) (by simp; omega) (ls := [l]) (m := 1) (cs := [.slice A n c]) rfl rfl hlen (fun j y hy => ?_) (fun i hi => ?_) hs hx fun v' w' h1 _ h3 => hk v' w' h1 ((hal.mono hlo).trans h3)
  · rw [show ((⟨w.heap.size, 0, none⟩ : Addr).add j) = ⟨w.heap.size, j, none⟩ from by unfold Addr.add; split <;> simp_all, hB.cell]
    simpa using hy
  · obtain rfl : i = 0 := by simp at hi; omega
    exact ⟨A, n, c, rfl, hb.below hal⟩
/-- A slice literal of slices of bytes. -/
theorem own_ls {lo : Nat} {w : World} (hlo : lo ≤ w.heap.size) (vs : List Value) (ls : List (List Int)) (hl : vs.length = ls.length) (hn : ls.length ≤ 100) (hb : ∀ i (h : i < ls.length), ∃ A n c, vs[i]? = some (.slice A n c) ∧ BodyT 38 lo w A n ls[i]) :
    OwnL lo (w.alloc (.cells vs.toArray 38)) (.slice (some ⟨w.heap.size, 0, none⟩) ls.length ls.length) ls := by
  have hal : Below w.heap.size w (w.alloc (.cells vs.toArray 38)) := (Below.refl _ _).alloc (Nat.le_refl _) _
  refine ⟨vs, ⟨by simp [hl], .inr ⟨w.heap.size, ls.length, vs.toArray, rfl, hlo, Blk.new w 38 vs.toArray, Nat.le_refl _, by unfold maxLen; omega, by simp [hl], List.take_of_length_le (by simp [hl])⟩⟩, hl, fun i hi => ?_⟩
  obtain ⟨A, n, c, k1, k2⟩ := hb i hi
  exact ⟨A, n, c, k1, k2.below hal⟩

/-- A row of the call's own of attributes, whose values lie in blocks that are no rows of attributes. -/
structure OwnW (lo : Nat) (w : World) (v : Value) (rs : List Raw) : Prop where
  ex : ∃ cs, w.ownsRow lo 67 3 v rs.length cs ∧ Rs (BodyT 67 lo w) cs rs
section
variable {lo lo' : Nat} {w w' : World} {v : Value} {rs : List Raw}
theorem OwnW.nil_ (lo : Nat) (w : World) : OwnW lo w (.slice none 0 0) [] := ⟨[], World.ownsRow_nil _ _ _ _, Rs.nil_⟩
theorem OwnW.below (h : OwnW lo w v rs) (hb : Below w.heap.size w w') : OwnW lo w' v rs := by
  obtain ⟨cs, h1, h2⟩ := h.ex
  exact ⟨cs, own_keep h1 fun i c hi _ _ => hb.block i (Array.getElem?_eq_some_iff.1 hi).1, h2.imp fun A n l hx => hx.below hb⟩
theorem OwnW.low (h : OwnW lo w v rs) (hl : lo' ≤ lo) : OwnW lo' w v rs := by
  obtain ⟨cs, h1, h2⟩ := h.ex
  exact ⟨cs, own_low h1 hl, h2.imp fun A n l hx => hx.low hl⟩
theorem OwnW.rd (h : OwnW lo w v rs) : ∃ A c, v = .slice A rs.length c ∧ RdR w w.heap.size A rs.length rs := by
  obtain ⟨cs, h1, h2⟩ := h.ex
  rcases h1.2 with ⟨rfl, hn⟩ | ⟨g, cap, cur, rfl, hb, hg, hnc, hcm, hcs, hx⟩
  · exact ⟨none, 0, by rw [hn], ⟨rfl, fun hp => by omega⟩⟩
  · refine ⟨_, cap, rfl, ⟨rfl, fun _ => ⟨g, 0, rfl, (Array.getElem?_eq_some_iff.1 hg).1, fun i hi => ?_⟩⟩⟩
    have hcell : ∀ j u, cs[j]? = some u → w.cell? ⟨g, j, none⟩ = some u := by
      intro j u hu
      rw [← hx, List.getElem?_take] at hu
      split at hu
      · simp only [World.cell?, hg]
        rw [← Array.getElem?_toList]
        exact hu
      · cases hu
    obtain ⟨k0, k1, A1, n1, c1, k2, k3⟩ := h2.at_ i hi
    refine ⟨A1, n1, c1, ?_, ?_, ?_, k3.rd⟩
    · rw [Nat.zero_add]; exact hcell _ _ k0
    · rw [Nat.zero_add]; exact hcell _ _ k1
    · rw [Nat.zero_add]; exact hcell _ _ k2
end
theorem app_w {ops : Array Oper} {rest : List Oper} {o : Oper} {a : Act} {Q : Exit → Act → World → Prop} (hgd : o.guard = none) (s x : Operand)
    (ho : o.op = .call { callee := .builtin .append, args := #[s, x], argTypes := #[64, 64] }) {lo : Nat} {w : World} {v : Value} {T : List Raw} (h : OwnW lo w v T) (hlo : lo ≤ w.heap.size) (hlen : T.length ≤ 3000000000)
    {f k : Int} {A : Option Addr} {n c : Nat} {body : List Int} (hb : BodyT 67 lo w A n body) (hs : a.eval s = v) (hx : a.eval x = .slice (some ⟨w.heap.size, 0, none⟩) 1 1)
    (hk : ∀ v' w', OwnW lo w' v' (T ++ [(f, k, body)]) → Below lo w w' → wpList Tryz.prog ops Q rest (a.put o.dst v') w') :
    wpList Tryz.prog ops Q (o :: rest) a (w.alloc (.cells #[.int .i64 f, .int .i64 k, .slice A n c] 67)) := by
  refine wpList_plain hgd fun _ hK => ?_
  obtain ⟨i, hi, hz0, hz1, hz2⟩ := info_parts info_raw
  obtain ⟨cs, h1, h2⟩ := h.ex
  have hB := Blk.new w 67 #[.int .i64 f, .int .i64 k, .slice A n c]
  obtain ⟨v', w', hrun, hown, hgr, _, _⟩ := run_append_own_at (P := Tryz.prog) (w.alloc (.cells #[.int .i64 f, .int .i64 k, .slice A n c] 67)) lo 64 o.type 67 i _ 3 40 Tryz.underlying64 hi hz0 hz1 hz2 rfl (by decide) v T.length cs (h1.alloc _) ⟨w.heap.size, 0, none⟩ 1 1 [.int .i64 f, .int .i64 k, .slice A n c] rfl (by
      intro j u hu
      rw [show ((⟨w.heap.size, 0, none⟩ : Addr).add j) = ⟨w.heap.size, j, none⟩ from by unfold Addr.add; split <;> simp_all, hB.cell]
      simpa using hu) (by
      intro u hu
      simp only [List.mem_cons, List.mem_nil_iff, or_false] at hu
      rcases hu with rfl | rfl | rfl <;> rfl) (by unfold maxLen; omega) (by omega) (by simp; omega)
  have hold : ∀ i, v.ownBlock = some i → lo ≤ i ∧ ∃ c, w.heap[i]? = some (.cells c 67 (0, 0)) := fun i hi => ⟨(h1.lt i hi).1, own_heap h1 hi⟩
  have hg2 : w.grownBy w' v.ownBlock := ⟨hgr.os, hgr.tape, hgr.output, Nat.le_trans (by simp) hgr.size, fun j hj hne => (hgr.block j (by simp; omega) hne).trans (Below.heap_alloc _ _ _ hj)⟩
  have hkeep : ∀ A n l, BodyT 67 lo w A n l → BodyT 67 lo w' A n l := fun A n l hb => hb.keep fun j c t hj _ ht => hg2.block j (Array.getElem?_eq_some_iff.1 hj).1 (fun e => by
    obtain ⟨_, c', hc'⟩ := hold j e.symm
    exact row_ne hj hc' ht rfl)
  unfold Oper.wp execOp
  simp only [ho, resolve, invoke, builtin, Sem.run_bind, Sem.run_pure, Result.andThen_ok, List.map_toArray, List.map_cons, List.map_nil, hs, hx, hrun]
  exact hK _ _ (hk v' w' ⟨_, by simpa using hown, (h2.imp hkeep).app (Rs.one (hkeep _ _ _ hb))⟩ ((Below.refl lo w).grown hg2 hlo (fun i e => (hold i e).1)))

/-! number. -/
def NumPost (w : World) (n : Int) (s : Nat) (e : Ending) (w' : World) : Prop :=
  e = .returned (.slice (some ⟨w.heap.size, 0, none⟩) s s) ∧ Byt w' w.heap.size 5 (be s n) ∧ Below w.heap.size w w'
theorem numI_is (w : World) (n : Int) (s : Nat) (h0 : 0 ≤ n) (h1 : 1 ≤ s) (h8 : s ≤ 8) (hf : n < 256 ^ s) (hi : n ≤ 4294967295) : Calls Tryz.prog 144 #[.int .i64 n, .int .i64 s] w (NumPost w n s) := by
  have HP := Lib.hid (put_fits w none 0 0 [] n s (Rd.nil_ none) (by omega) h0 (by omega) (by omega) (by omega) (by simpa using hf))
  have hw : IntKind.u64.wrap n = n := by rw [IntKind.wrap_u64]; omega
  clear hf
  go_enter Tryz.func144, Tryz.ntmps144
  go_wp2_with fail
  refine HP.out.mono ?_
  rintro e w1 ⟨rfl, hb, hB⟩
  have HEnd : Hid (NumPost w n s (.returned (.slice (some ⟨w.heap.size, 0, none⟩) s s)) w1) := Lib.hid ⟨rfl, by simpa using hb, hB⟩
  clear hb hB
  simp only [List.length_nil, Nat.zero_add, Int.toNat_natCast]
  go_wp2
  go_ret
  exact HEnd.out
theorem numU_is (w : World) (n : Int) (s : Nat) (h0 : 0 ≤ n) (h1 : 1 ≤ s) (h8 : s ≤ 8) (hf : n < 256 ^ s) (hi : n ≤ 4294967295) : Calls Tryz.prog 146 #[.int .u32 n, .int .i64 s] w (NumPost w n s) := by
  have HP := Lib.hid (put_fits w none 0 0 [] n s (Rd.nil_ none) (by omega) h0 (by omega) (by omega) (by omega) (by simpa using hf))
  have hw : IntKind.u64.wrap n = n := by rw [IntKind.wrap_u64]; omega
  have hw2 : n % 18446744073709551616 = n := Int.emod_eq_of_lt h0 (by omega)
  clear hf
  go_enter Tryz.func146, Tryz.ntmps146
  go_wp2_with fail
  refine HP.out.mono ?_
  rintro e w1 ⟨rfl, hb, hB⟩
  have HEnd : Hid (NumPost w n s (.returned (.slice (some ⟨w.heap.size, 0, none⟩) s s)) w1) := Lib.hid ⟨rfl, by simpa using hb, hB⟩
  clear hb hB
  simp only [List.length_nil, Nat.zero_add, Int.toNat_natCast]
  go_wp2
  go_ret
  exact HEnd.out
end Go.Proofs.YtdgoeibfggjbmaaGreatDoor
namespace Go.Proofs.YtdgoeibfggjbmaaGreatDoor
open Go.RowKit
set_option maxRecDepth 100000
set_option linter.unusedSimpArgs false
set_option linter.unusedVariables false

def PartsPost (w : World) (ls : List (List Int)) (e : Ending) (w' : World) : Prop := ∃ v, e = .returned v ∧ OwnL w.heap.size w' v ls ∧ Below w.heap.size w w'
theorem make_l (w : World) (n : Nat) (hn : n ≤ 1000) : ∃ w1, (Instr.makeSlice 75 (.int .i64 0) (.int .i64 (n : Int))).run Tryz.prog w = .ok (.slice (some ⟨w.heap.size, 0, none⟩) 0 n) w1 ∧ OwnL w.heap.size w1 (.slice (some ⟨w.heap.size, 0, none⟩) 0 n) [] ∧ Below w.heap.size w w1 := by
  obtain ⟨i, hi, hz0, hz1, hz2⟩ := info_parts info_bytes
  obtain ⟨w1, hmk, hown, hgr⟩ := run_make_own (P := Tryz.prog) w w.heap.size 75 38 i _ 1 Tryz.underlying75 hi hz0 hz1 .i64 .i64 n (by rw [hz2]; omega) (by unfold maxLen; omega) (Nat.le_refl _)
  exact ⟨w1, hmk, ⟨[], hown, rfl, fun i h => absurd h (by simp)⟩, (Below.refl _ _).grown hgr (Nat.le_refl _) (fun g e => by cases e)⟩
def enc4 (l : List Int) : List (List Int) := l.map fun n => be 4 n
theorem enc4_flat (l : List Int) : (enc4 l).flatten = encN l := by
  unfold enc4 encN
  rw [List.flatMap_def]
theorem enc4_step {l : List Int} {m : Nat} (hm : m < l.length) : enc4 (l.take (m + 1)) = enc4 (l.take m) ++ [be 4 l[m]] := by
  unfold enc4
  rw [List.take_succ_eq_append_getElem hm, List.map_append]
  rfl
theorem enc4_len (l : List Int) : (enc4 l).length = l.length := by unfold enc4; simp

set_option maxHeartbeats 2000000 in
theorem encNums_is (w : World) (A : Option Addr) (n c : Nat) (l : List Int) (hr : RdN w w.heap.size A n l) (hU : ∀ x ∈ l, 0 ≤ x ∧ x ≤ 4294967295) (hn : n ≤ 255) : Calls Tryz.prog 147 #[.slice A n c] w (PartsPost w (enc4 l)) := by
  have HR := Lib.hid hr
  have HU := Lib.hid hU
  have hlen := hr.len
  clear hr hU
  obtain ⟨w1, hmk, hO1, hB1⟩ := make_l w n (by omega)
  have HO1 := Lib.hid hO1
  have HB1 := Lib.hid hB1
  clear hO1 hB1
  go_enter Tryz.func147, Tryz.ntmps147
  go_wp2
  clear hmk
  go_loopw [3, 5, 11] (fun v _ i wr => ∃ m : Nat, m ≤ n ∧ i = .int .i64 m ∧ OwnL w.heap.size wr v (enc4 (l.take m)) ∧ Below w.heap.size w wr) (fun _ _ i _ => n - (intOf i).toNat)
  case atStart => exact ⟨0, Nat.zero_le _, rfl, HO1.out, HB1.out⟩
  case round =>
    obtain ⟨m, hm, rfl, ho, hw⟩ := hrel
    have HO := Lib.hid ho
    have HW := Lib.hid hw
    clear ho hw HO1 HB1
    by_cases hlt : m < n
    · have hml : m < l.length := by omega
      obtain ⟨b, off, rfl, hb, hc⟩ := HR.out.at_ (by omega)
      have x0 : wr.cell? ⟨b, off + m, none⟩ = some (.int .u32 l[m]) := by
        have := (HW.out.cell (p := ⟨b, off + m, none⟩) hb).trans (hc m hlt)
        rwa [List.getD, List.getElem?_eq_getElem hml] at this
      have HT := Lib.hid (enc4_step hml)
      have HTl : Hid ((enc4 (l.take m)).length + 1 ≤ 1000000) := Lib.hid (by rw [enc4_len, List.length_take]; omega)
      have hx := HU.out _ (List.getElem_mem hml)
      have HN := Lib.hid (numU_is wr l[m] 4 hx.1 (by omega) (by omega) (by omega) hx.2)
      generalize l[m] = x at *
      generalize enc4 (l.take m) = T at *
      generalize hwz : wr = wz at *
      clear hwz hc
      go_wp2_with fail
      refine HN.out.mono ?_
      rintro e w2 ⟨rfl, hb2, hB2⟩
      have HO2 := Lib.hid (HO.out.below hB2)
      have HB2 := Lib.hid (HW.out.trans (hB2.mono HW.out.size))
      have HBd : Hid (BodyT 38 w.heap.size w2 (some ⟨wz.heap.size, 0, none⟩) 4 (be 4 x)) := Lib.hid (by
        have := hb2.bodyT (T0 := 38) (lo := w.heap.size) (be_oct _ _) (by decide) HW.out.size
        rwa [be_len] at this)
      have hs2 := HB2.out.size
      clear hb2 hB2 HN
      go_wp2_with (at_builtin; refine app_l1 rfl _ _ rfl HO2.out hs2 HTl.out HBd.out rfl rfl ?_)
      intro v3 w3 ho3 hb3
      have HO3 := Lib.hid ho3
      have HB3 := Lib.hid (HB2.out.trans hb3)
      clear ho3 hb3
      go_wp2
      exact ⟨⟨m + 1, by omega, by go_num, by rw [HT.out]; exact HO3.out, HB3.out⟩, by simp [intOf]; omega⟩
    · obtain rfl : n = m := by omega
      have HE : Hid (PartsPost w (enc4 l) (.returned u3) wr) := Lib.hid ⟨_, rfl, by have := HO.out; rwa [List.take_of_length_le (by omega)] at this, HW.out⟩
      go_wp2
      go_ret
      exact HE.out

theorem pathParts_nil (w : World) (A : Option Addr) (c : Nat) : Calls Tryz.prog 145 #[.slice A 0 c] w (PartsPost w []) := by
  go_enter Tryz.func145, Tryz.ntmps145
  go_wp2
  go_ret
  exact ⟨_, rfl, OwnL.nil_ _ _, Below.refl _ _⟩
set_option maxHeartbeats 2000000 in
theorem pathParts_go (w : World) (A : Option Addr) (n c : Nat) (l : List Int) (hr : RdN w w.heap.size A n l) (hU : ∀ x ∈ l, 0 ≤ x ∧ x ≤ 4294967295) (hn : n ≤ 255) (h0 : 0 < n) : Calls Tryz.prog 145 #[.slice A n c] w (PartsPost w ([2, (n : Int)] :: enc4 l)) := by
  have HR := Lib.hid hr
  have HU := Lib.hid hU
  have HLen := Lib.hid hr.len
  clear hr hU
  have e0 : ((n : Int) == 0) = false := by rw [beq_eq_false_iff_ne]; omega
  have hw8 : IntKind.u8.wrap (n : Int) = n := by rw [IntKind.wrap_u8]; omega
  have hw9 : (n : Int) % 256 = n := by omega
  have hal : Below w.heap.size w (w.alloc (.cells #[.int .u8 2, .int .u8 n] 5)) := (Below.refl _ _).alloc (Nat.le_refl _) _
  have hb0 : Byt (w.alloc (.cells #[.int .u8 2, .int .u8 n] 5)) w.heap.size 5 [2, (n : Int)] := Blk.new w 5 #[.int .u8 2, .int .u8 n]
  have hbody : BodyT 38 w.heap.size (w.alloc (.cells #[.int .u8 2, .int .u8 n] 5)) (some ⟨w.heap.size, 0, none⟩) 2 [2, (n : Int)] := hb0.bodyT (fun x hx => by
    simp only [List.mem_cons, List.mem_nil_iff, or_false] at hx
    rcases hx with rfl | rfl <;> omega) (by decide) (Nat.le_refl _)
  have hol := own_ls (lo := w.heap.size) (w := w.alloc (.cells #[.int .u8 2, .int .u8 n] 5)) (by simp) [.slice (some ⟨w.heap.size, 0, none⟩) 2 2] [[2, (n : Int)]] rfl (by simp) (fun i hi => by
    obtain rfl : i = 0 := by simp at hi; omega
    exact ⟨_, _, _, rfl, hbody⟩)
  have hB2 : Below w.heap.size w ((w.alloc (.cells #[.int .u8 2, .int .u8 n] 5)).alloc (.cells #[.slice (some ⟨w.heap.size, 0, none⟩) 2 2] 38)) := hal.alloc (by simp) _
  have HB2 := Lib.hid hB2
  rw [show (w.alloc (.cells #[.int .u8 2, .int .u8 n] 5)).heap.size = w.heap.size + 1 by simp] at hol
  have HOl := Lib.hid hol
  have HN := Lib.hid (encNums_is _ A n c l ((HR.out.below hB2).more hB2.size) HU.out hn)
  clear hal hb0 hbody hol hB2
  go_enter Tryz.func145, Tryz.ntmps145
  go_wp2_with fail
  refine HN.out.mono ?_
  clear HN
  generalize (w.alloc (.cells #[.int .u8 2, .int .u8 n] 5)).alloc (.cells #[.slice (some ⟨w.heap.size, 0, none⟩) 2 2] 38) = w2 at *
  rintro e w3 ⟨v, rfl, ho, hB⟩
  have hlen := HLen.out
  obtain ⟨g, c3, cs, rfl, hg1, hg2, hcl, hcell, hbd⟩ := ho.cells (by rw [enc4_len]; omega)
  have HO3 := Lib.hid (HOl.out.below hB)
  have HB3 := Lib.hid (HB2.out.trans (hB.mono HB2.out.size))
  have hs3 := HB3.out.size
  rw [enc4_len, hlen] at hcl ⊢
  have HCl := Lib.hid hcl
  have HSrc : Hid (∀ j y, cs[j]? = some y → w3.cell? ((⟨g, 0, none⟩ : Addr).add j) = some y) := Lib.hid fun j y hy => by
    rw [show ((⟨g, 0, none⟩ : Addr).add j) = ⟨g, j, none⟩ from by unfold Addr.add; split <;> simp_all]
    exact hcell j y hy
  have HBd : Hid (∀ i (h : i < (enc4 l).length), ∃ A n c, cs[i]? = some (.slice A n c) ∧ BodyT 38 w.heap.size w3 A n (enc4 l)[i]) := Lib.hid fun i hi => by
    obtain ⟨A, n, c, k1, k2⟩ := hbd i hi
    exact ⟨A, n, c, k1, k2.low HB2.out.size⟩
  have HEl : Hid ((enc4 l).length = n) := Lib.hid (by rw [enc4_len, hlen])
  clear ho hB hcl hcell hbd hlen
  go_wp2_with (at_builtin; refine app_l rfl _ _ rfl HO3.out hs3 HCl.out HEl.out (by simp; omega) HSrc.out HBd.out rfl rfl ?_)
  intro v4 w4 ho4 _ hb4
  have HE : Hid (PartsPost w ([2, (n : Int)] :: enc4 l) (.returned v4) w4) := Lib.hid ⟨_, rfl, ho4, HB3.out.trans hb4⟩
  clear ho4 hb4
  go_wp2
  go_ret
  exact HE.out

theorem comm_store5 {ops : Array Oper} {rest : List Oper} {o : Oper} {a : Act} {w : World} {Q : Exit → Act → World → Prop} (hgd : o.guard = none) (x y : Operand) (ho : o.op = .store 138 x y) (g : Nat) (l : List Int) (hl : l.length = 8)
    (hx : a.eval x = .pointer (some ⟨g, 0, none⟩)) (hy : a.eval y = .agg (u8s l).toArray) (t : TypeId) (old : Array Value) (hg : Blk w g t old) (hold : old.size = 8)
    (h : wpList Tryz.prog ops Q rest (a.put o.dst undef) (w.setRow g (u8s l).toArray)) : wpList Tryz.prog ops Q (o :: rest) a w :=
  wpList_store_row hgd 138 x y ho g _ hx hy t old hg (by rw [comm_size]; simp [hl]) (by rw [hold]; simp [hl]) (all_oneCell_toArray (one_u8 l)) h
abbrev zcm : Array Value := #[.int .u8 0, .int .u8 0, .int .u8 0, .int .u8 0, .int .u8 0, .int .u8 0, .int .u8 0, .int .u8 0]
set_option maxHeartbeats 2000000 in
theorem commParts_is (w : World) (A : Option Addr) (n c : Nat) (ls : List (List Int)) (hr : RdC w w.heap.size A n ls) (hn : n ≤ 255) : Calls Tryz.prog 148 #[.slice A n c] w (PartsPost w ls) := by
  have HR := Lib.hid hr
  have hlen := hr.len
  clear hr
  obtain ⟨w1, hmk, hO1, hB1⟩ := make_l w n (by omega)
  have HO1 := Lib.hid hO1
  have HB1 := Lib.hid hB1
  clear hO1 hB1
  go_enter Tryz.func148, Tryz.ntmps148
  go_wp2
  clear hmk
  go_loopw [3, 5, 11] (fun v _ i wr => ∃ m : Nat, m ≤ n ∧ i = .int .i64 m ∧ OwnL w.heap.size wr v (ls.take m) ∧ Below w.heap.size w wr) (fun _ _ i _ => n - (intOf i).toNat)
  case atStart => exact ⟨0, Nat.zero_le _, rfl, HO1.out, HB1.out⟩
  case round =>
    obtain ⟨m, hm, rfl, ho, hw⟩ := hrel
    have HO := Lib.hid ho
    have HW := Lib.hid hw
    clear ho hw HO1 HB1
    by_cases hlt : m < n
    · have hml : m < ls.length := by omega
      obtain ⟨b, off, rfl, hb, hc⟩ := HR.out.at_ (by omega)
      have h8 := HR.out.ok.at_ m hml
      have HT : Hid (ls.take (m + 1) = ls.take m ++ [ls[m]]) := Lib.hid (List.take_succ_eq_append_getElem hml)
      have HTl : Hid ((ls.take m).length + 1 ≤ 1000000) := Lib.hid (by rw [List.length_take]; omega)
      have HRng : Hid (wr.rangeAt b (off + m * 8) (u8s ls[m])) := Lib.hid (range_below (hc m hml) HW.out hb)
      generalize ls[m] = y at *
      generalize ls.take m = T at *
      generalize hwz : wr = wz at *
      clear hwz hc
      have HN1 := Lib.hid (Blk.new wz 138 zcm)
      have hbk : Blk ((wz.alloc (.cells zcm 138)).setRow wz.heap.size (u8s y).toArray) wz.heap.size 138 (u8s y).toArray := Blk.setRow (Blk.new wz 138 zcm) _
      have hbl : Below wz.heap.size wz ((wz.alloc (.cells zcm 138)).setRow wz.heap.size (u8s y).toArray) := ((Below.refl _ _).alloc (Nat.le_refl _) _).trans (below_setRow _ _ _ (Nat.le_refl _))
      have HO2 := Lib.hid (HO.out.below hbl)
      have HB2 := Lib.hid (HW.out.trans (hbl.mono HW.out.size))
      have HBd : Hid (BodyT 38 w.heap.size ((wz.alloc (.cells zcm 138)).setRow wz.heap.size (u8s y).toArray) (some ⟨wz.heap.size, 0, none⟩) 8 y) := Lib.hid ⟨h8.2, h8.1, .inr ⟨wz.heap.size, 0, _, 138, rfl, HW.out.size, hbk, by decide, fun j hj => by simp [List.getD, h8.1, hj]⟩⟩
      have hs2 := HB2.out.size
      have H8 := Lib.hid h8.1
      clear hbk hbl h8
      go_wp2_with (first
        | (refine comm_fetch rfl _ rfl b (off + m * 8) y H8.out rfl HRng.out ?_)
        | (refine comm_store5 rfl _ _ rfl wz.heap.size y H8.out rfl rfl 138 zcm HN1.out rfl ?_)
        | (at_builtin; refine app_l1 rfl _ _ rfl HO2.out hs2 HTl.out HBd.out rfl (by first | rfl | (simp; rfl)) ?_))
      intro v3 w3 ho3 hb3
      have HO3 := Lib.hid ho3
      have HB3 := Lib.hid (HB2.out.trans hb3)
      clear ho3 hb3
      go_wp2
      exact ⟨⟨m + 1, by omega, by go_num, by rw [HT.out]; exact HO3.out, HB3.out⟩, by simp [intOf]; omega⟩
    · obtain rfl : n = m := by omega
      have HE : Hid (PartsPost w ls (.returned u3) wr) := Lib.hid ⟨_, rfl, by have := HO.out; rwa [List.take_of_length_le (by omega)] at this, HW.out⟩
      go_wp2
      go_ret
      exact HE.out
end Go.Proofs.YtdgoeibfggjbmaaGreatDoor
namespace Go.Proofs.YtdgoeibfggjbmaaGreatDoor
open Go.RowKit
set_option maxRecDepth 100000
set_option linter.unusedSimpArgs false
set_option linter.unusedVariables false

def bitsOf (v : Bool) : Int := if v then 128 else 32
theorem bits_is (w : World) (v : Bool) (l : List Int) :
    Calls Tryz.prog 150 #[.agg (ipc v l).toArray] w fun e w' => e = .returned (.int .i64 (bitsOf v)) ∧ Below w.heap.size w w' := by
  cases v
  · go_enter Tryz.func150, Tryz.ntmps150
    go_wp2
    go_ret
    exact ⟨rfl, (Below.refl _ _).alloc (Nat.le_refl _) _⟩
  · go_enter Tryz.func150, Tryz.ntmps150
    go_wp2
    go_ret
    exact ⟨rfl, (Below.refl _ _).alloc (Nat.le_refl _) _⟩

/-- A byte's first k bits. -/
def keepB (b : Int) (k : Nat) : Int := b / 2 ^ (8 - k) * 2 ^ (8 - k)
/-- How many bits of byte i stay. -/
def stay (n : Int) (i : Nat) : Nat := (min (max (n - 8 * i) 0) 8).toNat
def firstBits (l : List Int) (n : Int) : List Int := l.mapIdx fun i b => keepB b (stay n i)
theorem keepB_all : ∀ b : Fin 256, ∀ k : Fin 9, bits .andNot .u8 (b.val : Int) (255 / 2 ^ k.val) = keepB (b.val : Int) k.val := by decide +kernel
theorem keepB_is (b : Int) (k : Nat) (h0 : 0 ≤ b) (h1 : b < 256) (hk : k ≤ 8) : bits .andNot .u8 b (255 / 2 ^ k) = keepB b k := by
  have := keepB_all ⟨b.toNat, by omega⟩ ⟨k, by omega⟩
  simpa [Int.toNat_of_nonneg h0] using this

theorem fb_len (l : List Int) (n : Int) : (firstBits l n).length = l.length := by simp [firstBits]
theorem fb_get (l : List Int) (n : Int) (k : Nat) (hk : k < l.length) : (firstBits l n)[k]'(by rw [fb_len]; exact hk) = keepB (l.getD k 0) (stay n k) := by simp [firstBits, List.getD, hk]
theorem fb_split (l : List Int) (n : Int) (k : Nat) (hk : k < l.length) : (firstBits l n).take k ++ l.drop k = (firstBits l n).take k ++ l.getD k 0 :: l.drop (k + 1) := by
  rw [List.drop_eq_getElem_cons hk]
  simp [List.getD, hk]
theorem fb_split2 (l : List Int) (n : Int) (k : Nat) (hk : k < l.length) : (firstBits l n).take (k + 1) ++ l.drop (k + 1) = (firstBits l n).take k ++ keepB (l.getD k 0) (stay n k) :: l.drop (k + 1) := by
  rw [List.take_succ_eq_append_getElem (by rw [fb_len]; exact hk), fb_get l n k hk]
  simp
set_option maxHeartbeats 1000000 in
set_option maxRecDepth 100000 in
theorem fbits_is (w : World) (v : Bool) (l : List Int) (n : Int) (hl : l.length = 16) (ho : Oct l) (hn : 0 ≤ n) (hn2 : n ≤ 128) :
    Calls Tryz.prog 242 #[.agg (ipc v l).toArray, .int .i64 n] w fun e w' => e = .returned (.agg (ipc v (firstBits l n)).toArray) ∧ Below w.heap.size w w' := by
  go_enter Tryz.func242, Tryz.ntmps242
  go_wp2
  go_loopw [5, 6, 7] (fun _ _ i wr => ∃ k : Nat, k ≤ 16 ∧ i = .int .i64 k ∧ Blk wr w.heap.size 27 (ipc v ((firstBits l n).take k ++ l.drop k)).toArray ∧ (∃ z, Blk wr (w.heap.size + 1) 27 z ∧ z.size = 17) ∧ Below w.heap.size w wr) (fun _ _ i _ => 16 - (intOf i).toNat)
  case atStart =>
    exact ⟨0, by omega, rfl, by simpa using (Blk.new w 27 (ipc v l).toArray).alloc _, ⟨_, by simpa using Blk.new (w.alloc (.cells (ipc v l).toArray 27)) 27 _, rfl⟩, ((Below.refl _ _).alloc (Nat.le_refl _) _).alloc (by simp) _⟩
  case round =>
    obtain ⟨k, hk, rfl, hb, ⟨z, hz, hzs⟩, hB⟩ := hrel
    by_cases hlt : k < 16
    · have hkl : ((firstBits l n).take k).length = k := by simp [fb_len]; omega
      rw [fb_split l n k (by omega)] at hb
      have hc := hb.cell (1 + k)
      rw [ipc_get v _ _ _ k hkl] at hc
      have hf := hb.frozen (1 + k)
      have hset := hb.set_ (1 + k) (.int .u8 (keepB (l.getD k 0) (stay n k)))
      rw [ipc_set v _ _ _ _ k hkl, ← fb_split2 l n k (by omega)] at hset
      have Hb := Lib.hid hset
      have Hz := Lib.hid (show Blk (wr.setCell ⟨w.heap.size, 1 + k, none⟩ (.int .u8 (keepB (l.getD k 0) (stay n k)))) (w.heap.size + 1) 27 z from hz.far (by simp) _)
      have HB := Lib.hid (hB.setCell (p := ⟨w.heap.size, 1 + k, none⟩) (Nat.le_refl _) (.int .u8 (keepB (l.getD k 0) (stay n k))))
      have HZ := Lib.hid hzs
      have hx := ho.getD k
      have HK := Lib.hid (fun s hs => keepB_is (l.getD k 0) s hx.1 hx.2 hs)
      generalize hX : l.getD k 0 = x at *
      clear hset hb hB hz hzs hX hkl
      have e3 : (n - 8 * k < 0 ∧ stay n k = 0) ∨ (0 ≤ n - 8 * k ∧ n - 8 * k ≤ 8 ∧ stay n k = (n - 8 * k).toNat) ∨ (8 < n - 8 * k ∧ stay n k = 8) := by unfold stay; omega
      generalize stay n k = s at *
      have hv : (n - 8 * k < 0 ∧ bits .andNot .u8 x 255 = keepB x s) ∨ (0 ≤ n - 8 * k ∧ n - 8 * k ≤ 8 ∧ bits .andNot .u8 x (255 / 2 ^ (n - 8 * k).toNat) = keepB x s) ∨ (8 < n - 8 * k ∧ bits .andNot .u8 x 0 = keepB x s) := by
        rcases e3 with ⟨h1, rfl⟩ | ⟨h1, h2, rfl⟩ | ⟨h1, rfl⟩
        · exact .inl ⟨h1, HK.out 0 (by omega)⟩
        · exact .inr (.inl ⟨h1, h2, HK.out _ (by omega)⟩)
        · exact .inr (.inr ⟨h1, HK.out 8 (by omega)⟩)
      clear e3 HK hx
      generalize keepB x s = y at *
      rcases hv with ⟨h1, hv⟩ | ⟨h1, h2, hv⟩ | ⟨h1, hv⟩
      all_goals
        go_wp2
        go_region
        go_wp2
        exact ⟨⟨k + 1, by omega, by go_num, Hb.out, ⟨z, Hz.out, HZ.out⟩, below_drewN HB.out 1⟩, by simp [intOf]; omega⟩
    · obtain rfl : k = 16 := by omega
      rw [show (firstBits l n).take 16 ++ l.drop 16 = firstBits l n by rw [List.take_of_length_le (by rw [fb_len]; omega), List.drop_of_length_le (by omega), List.append_nil]] at hb
      have Hr := Lib.hid (show wr.rangeAt w.heap.size 0 (ipc v (firstBits l n)) from fun j u hu => by rw [hb.cell]; simpa using hu)
      have Hs := Lib.hid (ip_size v (firstBits l n) (by rw [fb_len]; exact hl))
      have Hz := Lib.hid hz
      have HZ := Lib.hid hzs
      have HB := Lib.hid hB
      clear hb hz hzs hB
      go_wp2_with (first
        | (refine wpList_load_mid rfl 27 _ rfl w.heap.size 0 rfl (ipc v (firstBits l n)) _ Hr.out Tryz.underlying27 rfl Hs.out ?_)
        | (refine wpList_store_row rfl 27 _ _ rfl (w.heap.size + 1) (ipc v (firstBits l n)).toArray rfl rfl 27 z Hz.out (by simpa using Hs.out) (by rw [HZ.out]; simp [fb_len, hl]) (by simp [Value.oneCell']) ?_))
      refine bodyPost_ret (v := .agg (ipc v (firstBits l n)).toArray) ?_ rfl ⟨rfl, HB.out.trans (below_setRow _ _ _ (by omega))⟩
      exact results_cell_row rfl _ _ (w.heap.size + 1) 27 _ (0, 0) _ rfl (Blk.setRow Hz.out _) Tryz.underlying27 rfl (by simpa using Hs.out)
theorem fb_oct (l : List Int) (n : Int) (ho : Oct l) : Oct (firstBits l n) := by
  intro x hx
  obtain ⟨i, hi, rfl⟩ := List.getElem_of_mem hx
  rw [fb_get l n i (by rwa [fb_len] at hi)]
  have hb := ho.getD i
  generalize l.getD i 0 = b at *
  have hs : stay n i ≤ 8 := by unfold stay; omega
  generalize stay n i = k at *
  unfold keepB
  have hp : (0 : Int) < 2 ^ (8 - k) := Int.pow_pos (by decide)
  have h1 := Int.mul_ediv_add_emod b (2 ^ (8 - k))
  have h2 := Int.emod_nonneg b (Int.ne_of_gt hp)
  have h3 : 0 ≤ b / 2 ^ (8 - k) := Int.ediv_nonneg hb.1 (Int.le_of_lt hp)
  rw [Int.mul_comm] at h1
  exact ⟨Int.mul_nonneg h3 (Int.le_of_lt hp), by omega⟩

/-- A prefix's cells. -/
abbrev pfc (v : Bool) (l : List Int) (n : Int) : List Value := Value.bool v :: (u8s l ++ [Value.int .i64 n])
def cutB (v : Bool) (l : List Int) (n : Int) : Bool := rightB v l && (decide (0 ≤ n) && decide (n ≤ bitsOf v))
def noPf : List Value := pfc false (List.replicate 16 0) 0
theorem u8s_one (l : List Int) : ∀ x ∈ u8s l, x.oneCell' = true := by
  intro x hx
  obtain ⟨y, _, rfl⟩ := List.mem_map.1 hx
  rfl
theorem pfc_one (v : Bool) (l : List Int) (n : Int) : (pfc v l n).toArray.all (·.oneCell') = true := all_oneCell_toArray (by
  intro x hx
  simp only [pfc, List.mem_cons, List.mem_append, List.mem_nil_iff, or_false] at hx
  rcases hx with rfl | hx | rfl
  · rfl
  · exact u8s_one l x hx
  · rfl)
theorem pfc_size (v : Bool) (l : List Int) (n : Int) (hl : l.length = 16) : (Tryz.prog.info? 51).map (·.size) = some (pfc v l n).toArray.size := by
  have : (Tryz.prog.info? 51).map (·.size) = some 18 := by kernel_rfl
  rw [this]; simp [hl]
theorem pf_store {ops : Array Oper} {rest : List Oper} {o : Oper} {a : Act} {w : World} {Q : Exit → Act → World → Prop} (hgd : o.guard = none) (x y : Operand) (ho : o.op = .store 51 x y) (g : Nat) (v : Bool) (l : List Int) (n : Int) (hl : l.length = 16)
    (hx : a.eval x = .pointer (some ⟨g, 0, none⟩)) (hy : a.eval y = .agg (pfc v l n).toArray) (t : TypeId) (old : Array Value) (hg : Blk w g t old) (hold : old.size = 18)
    (h : wpList Tryz.prog ops Q rest (a.put o.dst undef) (w.setRow g (pfc v l n).toArray)) : wpList Tryz.prog ops Q (o :: rest) a w :=
  wpList_store_row hgd 51 x y ho g _ hx hy t old hg (pfc_size v l n hl) (by rw [hold]; simp [hl]) (pfc_one v l n) h
theorem ip_fetch {ops : Array Oper} {rest : List Oper} {op : Oper} {a : Act} {w : World} {Q : Exit → Act → World → Prop} (hw : Region.wanted op (yielded ops a.tmps) = true) (x : Operand) (ho : op.op = .load 27 x) (b o : Nat) (v : Bool) (l : List Int) (hl : l.length = 16)
    (hx : a.eval x = .pointer (some ⟨b, o, none⟩)) (hc : w.rangeAt b o (ipc v l)) (h : wpList Tryz.prog ops Q rest (a.put op.dst (.agg (ipc v l).toArray)) w) : wpList Tryz.prog ops Q (op :: rest) a w :=
  BigFrame.wpList_want hw fun _ hK => wp_load_mid 27 x ho b o hx (ipc v l) _ hc Tryz.underlying27 rfl (ip_size v l hl) (hK _ _ h)
theorem built_pf16 (v : Bool) (b0 b1 b2 b3 b4 b5 b6 b7 b8 b9 b10 b11 b12 b13 b14 b15 n : Int) : Tryz.prog.built 51 [(0, .agg (ipc v [b0, b1, b2, b3, b4, b5, b6, b7, b8, b9, b10, b11, b12, b13, b14, b15]).toArray), (1, .int .i64 n)] = some (pfc v [b0, b1, b2, b3, b4, b5, b6, b7, b8, b9, b10, b11, b12, b13, b14, b15] n).toArray := by kernel_rfl
theorem built_pf (v : Bool) (l : List Int) (n : Int) (hl : l.length = 16) : Tryz.prog.built 51 [(0, .agg (ipc v l).toArray), (1, .int .i64 n)] = some (pfc v l n).toArray := by
  match l, hl with
  | [b0, b1, b2, b3, b4, b5, b6, b7, b8, b9, b10, b11, b12, b13, b14, b15], _ => exact built_pf16 v b0 b1 b2 b3 b4 b5 b6 b7 b8 b9 b10 b11 b12 b13 b14 b15 n
theorem pf_build {ops : Array Oper} {rest : List Oper} {o : Oper} {a : Act} {w : World} {Q : Exit → Act → World → Prop} (hg : o.guard = none) (x y : Operand) (ho : o.op = .build 51 #[(0, x), (1, y)]) (v : Bool) (l : List Int) (n : Int) (hl : l.length = 16)
    (hx : a.eval x = .agg (ipc v l).toArray) (hy : a.eval y = .int .i64 n) (h : wpList Tryz.prog ops Q rest (a.put o.dst (.agg (pfc v l n).toArray)) w) : wpList Tryz.prog ops Q (o :: rest) a w := by
  have hb := built_pf v l n hl
  have he : (#[(0, x), (1, y)].map fun (i, x) => (i, a.eval x)).toList = [(0, .agg (ipc v l).toArray), (1, .int .i64 n)] := by simp [hx, hy]
  refine wpList_build hg 51 _ ho (by rw [he, hb]; rfl) ?_
  rw [he, hb]
  exact h
def Cut (w : World) (v : Bool) (l : List Int) (n : Int) (e : Ending) (w' : World) : Prop :=
  Below w.heap.size w w' ∧ e = .returned (if cutB v l n then .tuple #[.agg (pfc v (firstBits l n) n).toArray, .int .i64 0] else .tuple #[.agg noPf.toArray, .int .i64 2])
set_option maxHeartbeats 1000000 in
set_option maxRecDepth 100000 in
theorem cut_no (w : World) (v : Bool) (l : List Int) (n : Int) (hl : l.length = 16) (ho : Oct l) (h : rightB v l = false) :
    Calls Tryz.prog 240 #[.agg (ipc v l).toArray, .int .i64 n] w (Cut w v l n) := by
  have hr := range_alloc (range_new w 27 (ipc v l)) (.cells noPf.toArray 51) (by simp)
  have Hr := Lib.hid hr
  have Hs := Lib.hid (ip_size v l hl)
  have HC := Lib.hid (show cutB v l n = false by unfold cutB; rw [h]; rfl)
  have HR := Lib.hid (right_is ((w.alloc (.cells (ipc v l).toArray 27)).alloc (.cells noPf.toArray 51)) v l hl ho)
  rw [h] at HR
  clear hr h
  go_enter Tryz.func240, Tryz.ntmps240
  go_wp2_with (refine ip_fetch rfl _ rfl w.heap.size 0 v l hl rfl Hr.out ?_)
  refine HR.out.mono ?_
  rintro e w1 ⟨rfl, hB⟩
  have HB := Lib.hid hB
  have Hz := Lib.hid ((Blk.new (w.alloc (.cells (ipc v l).toArray 27)) 51 noPf.toArray).below hB (by simp))
  rw [show (w.alloc (.cells (ipc v l).toArray 27)).heap.size = w.heap.size + 1 by simp] at Hz
  clear hB
  go_wp2_with (refine pf_store rfl _ _ rfl (w.heap.size + 1) false (List.replicate 16 0) 0 rfl rfl rfl 51 noPf.toArray Hz.out rfl ?_)
  refine bodyPost_ret (v := .tuple #[.agg noPf.toArray, .int .i64 2]) ?_ rfl ⟨?_, by rw [HC.out]; rfl⟩
  · exact results_cell_slot rfl _ _ (w.heap.size + 1) 51 _ _ _ rfl rfl (Blk.setRow Hz.out _) Tryz.underlying51 rfl (by kernel_rfl)
  · exact ((((Below.refl w.heap.size w).alloc (Nat.le_refl _) _).alloc (by simp) _).trans (HB.out.mono (by simp; omega))).trans (below_setRow _ _ _ (by omega))

set_option maxHeartbeats 1000000 in
set_option maxRecDepth 100000 in
theorem cut_low (w : World) (v : Bool) (l : List Int) (n : Int) (hl : l.length = 16) (ho : Oct l) (h : rightB v l = true) (hn : n < 0) :
    Calls Tryz.prog 240 #[.agg (ipc v l).toArray, .int .i64 n] w (Cut w v l n) := by
  have hr := range_alloc (range_new w 27 (ipc v l)) (.cells noPf.toArray 51) (by simp)
  have Hr := Lib.hid hr
  have HC := Lib.hid (show cutB v l n = false by unfold cutB; rw [decide_eq_false (show ¬ 0 ≤ n by omega), Bool.false_and, Bool.and_false])
  have HR := Lib.hid (right_is ((w.alloc (.cells (ipc v l).toArray 27)).alloc (.cells noPf.toArray 51)) v l hl ho)
  rw [h] at HR
  have hd : decide (n < 0) = true := by simpa using hn
  clear hr h
  go_enter Tryz.func240, Tryz.ntmps240
  go_wp2_with (refine ip_fetch rfl _ rfl w.heap.size 0 v l hl rfl Hr.out ?_)
  refine HR.out.mono ?_
  rintro e w1 ⟨rfl, hB⟩
  have HB := Lib.hid hB
  have Hz := Lib.hid ((Blk.new (w.alloc (.cells (ipc v l).toArray 27)) 51 noPf.toArray).below hB (by simp))
  rw [show (w.alloc (.cells (ipc v l).toArray 27)).heap.size = w.heap.size + 1 by simp] at Hz
  clear hB
  go_wp2_with (refine pf_store rfl _ _ rfl (w.heap.size + 1) false (List.replicate 16 0) 0 rfl rfl rfl 51 noPf.toArray Hz.out rfl ?_)
  refine bodyPost_ret (v := .tuple #[.agg noPf.toArray, .int .i64 2]) ?_ rfl ⟨?_, by rw [HC.out]; rfl⟩
  · exact results_cell_slot rfl _ _ (w.heap.size + 1) 51 _ _ _ rfl rfl (Blk.setRow Hz.out _) Tryz.underlying51 rfl (by kernel_rfl)
  · exact ((((Below.refl w.heap.size w).alloc (Nat.le_refl _) _).alloc (by simp) _).trans (HB.out.mono (by simp; omega))).trans (below_setRow _ _ _ (by omega))

set_option maxHeartbeats 1000000 in
set_option maxRecDepth 100000 in
theorem cut_in (w : World) (v : Bool) (l : List Int) (n : Int) (hl : l.length = 16) (ho : Oct l) (h : rightB v l = true) (hn : 0 ≤ n) :
    Calls Tryz.prog 240 #[.agg (ipc v l).toArray, .int .i64 n] w (Cut w v l n) := by
  have hr := range_alloc (range_new w 27 (ipc v l)) (.cells noPf.toArray 51) (by simp)
  have Hr := Lib.hid hr
  have HC := Lib.hid (show cutB v l n = decide (n ≤ bitsOf v) by unfold cutB; rw [h, decide_eq_true hn, Bool.true_and, Bool.true_and])
  have HR := Lib.hid (right_is ((w.alloc (.cells (ipc v l).toArray 27)).alloc (.cells noPf.toArray 51)) v l hl ho)
  rw [h] at HR
  have hd : decide (n < 0) = false := by simpa using hn
  have hb8 : bitsOf v ≤ 128 := by unfold bitsOf; split <;> omega
  clear hr h
  go_enter Tryz.func240, Tryz.ntmps240
  go_wp2_with (refine ip_fetch rfl _ rfl w.heap.size 0 v l hl rfl Hr.out ?_)
  refine HR.out.mono ?_
  rintro e w1 ⟨rfl, hB⟩
  have HB := Lib.hid hB
  have Hz := Lib.hid ((Blk.new (w.alloc (.cells (ipc v l).toArray 27)) 51 noPf.toArray).below hB (by simp))
  rw [show (w.alloc (.cells (ipc v l).toArray 27)).heap.size = w.heap.size + 1 by simp] at Hz
  have Hr1 := Lib.hid (range_below Hr.out hB (by simp; omega))
  clear hB
  go_wp2_with (refine ip_fetch rfl _ rfl w.heap.size 0 v l hl rfl Hr1.out ?_)
  refine (bits_is w1 v l).mono ?_
  rintro e w2 ⟨rfl, hB2⟩
  have HB2 := Lib.hid hB2
  have hs1 : w.heap.size + 1 < w1.heap.size := by have := HB.out.size; simp at this; omega
  have Hz2 := Lib.hid (Hz.out.below hB2 hs1)
  have Hr2 := Lib.hid (range_below Hr1.out hB2 (by omega))
  have HB02 : Hid (Below w.heap.size w w2) := Lib.hid ((((((Below.refl w.heap.size w).alloc (Nat.le_refl _) _).alloc (by simp) _).trans (HB.out.mono (by simp; omega)))).trans (HB2.out.mono (by omega)))
  have hs2 : w.heap.size + 1 < w2.heap.size := by have := HB2.out.size; omega
  clear hB2 Hr1 Hz HB HB2 Hr
  by_cases hle : n ≤ bitsOf v
  · have HL := Lib.hid hle
    have hd2 : decide (n > bitsOf v) = false := by simpa using hle
    have hd3 : decide (bitsOf v < n) = false := by simpa using hle
    go_wp2_with (refine ip_fetch rfl _ rfl w.heap.size 0 v l hl rfl Hr2.out ?_)
    refine (fbits_is w2 v l n hl ho hn (by omega)).mono ?_
    rintro e w3 ⟨rfl, hB3⟩
    have HB3 := Lib.hid hB3
    have Hz3 := Lib.hid (Hz2.out.below hB3 hs2)
    clear hB3
    go_wp2_with (first
      | (refine pf_build rfl _ _ rfl v (firstBits l n) n (by rw [fb_len]; exact hl) rfl rfl ?_)
      | (refine pf_store rfl _ _ rfl (w.heap.size + 1) v (firstBits l n) n (by rw [fb_len]; exact hl) rfl rfl 51 noPf.toArray Hz3.out rfl ?_))
    refine bodyPost_ret (v := .tuple #[.agg (pfc v (firstBits l n) n).toArray, .int .i64 0]) ?_ rfl ⟨?_, by rw [HC.out, decide_eq_true HL.out]; rfl⟩
    · exact results_cell_slot rfl _ _ (w.heap.size + 1) 51 _ _ _ rfl rfl (Blk.setRow Hz3.out _) Tryz.underlying51 rfl (pfc_size v _ n (by rw [fb_len]; exact hl))
    · exact (HB02.out.trans (HB3.out.mono (by omega))).trans (below_setRow _ _ _ (by omega))
  · have HL := Lib.hid hle
    have hd2 : decide (n > bitsOf v) = true := by simpa using hle
    have hd3 : decide (bitsOf v < n) = true := by simpa using hle
    go_wp2_with (refine pf_store rfl _ _ rfl (w.heap.size + 1) false (List.replicate 16 0) 0 rfl rfl rfl 51 noPf.toArray Hz2.out rfl ?_)
    refine bodyPost_ret (v := .tuple #[.agg noPf.toArray, .int .i64 2]) ?_ rfl ⟨?_, by rw [HC.out, decide_eq_false (Int.not_le.2 HL.out)]; rfl⟩
    · exact results_cell_slot rfl _ _ (w.heap.size + 1) 51 _ _ _ rfl rfl (Blk.setRow Hz2.out _) Tryz.underlying51 rfl (by kernel_rfl)
    · exact HB02.out.trans (below_setRow _ _ _ (by omega))

theorem cut_is (w : World) (v : Bool) (l : List Int) (n : Int) (hl : l.length = 16) (ho : Oct l) :
    Calls Tryz.prog 240 #[.agg (ipc v l).toArray, .int .i64 n] w (Cut w v l n) := by
  cases h : rightB v l
  · exact cut_no w v l n hl ho h
  · rcases Int.lt_or_le n 0 with hn | hn
    · exact cut_low w v l n hl ho h hn
    · exact cut_in w v l n hl ho h hn
end Go.Proofs.YtdgoeibfggjbmaaGreatDoor
namespace Go.Proofs.YtdgoeibfggjbmaaGreatDoor
open Go.RowKit
set_option maxRecDepth 100000
set_option linter.unusedSimpArgs false
set_option linter.unusedVariables false

def pmL (p : Pm) : List (List Int) := [[0], be 1 p.kind, be 3 p.label] ++ (if p.kind = 6 then [p.ip.take (if p.v6 then 16 else 4)] else [])
theorem pmL_flat (p : Pm) (h0 : 0 ≤ p.kind) (h1 : p.kind ≤ 255) : (pmL p).flatten = pmW p := by
  unfold pmL pmW
  rw [be_num1 _ ⟨h0, by omega⟩]
  split <;> simp
/-- The box of what is said. -/
def PmS (w W : World) (p : Pm) : Prop := Below w.heap.size w W ∧ Blk W w.heap.size 29 (pmc p).toArray
theorem PmS.step {w W W' : World} {p : Pm} (h : PmS w W p) (hB : Below W.heap.size W W') : PmS w W' p := ⟨h.1.trans (hB.mono h.1.size), h.2.below hB h.2.lt⟩
def PmC (w W : World) (p : Pm) (v : Value) : Prop := PmS w W p ∧ OwnL w.heap.size W v [[0], be 1 p.kind, be 3 p.label]
theorem body_lit {lo : Nat} {w : World} (hlo : lo ≤ w.heap.size) : BodyT 38 lo (w.alloc (.cells #[.int .u8 0] 5)) (some ⟨w.heap.size, 0, none⟩) 1 [0] := by
  have hb : Byt (w.alloc (.cells #[.int .u8 0] 5)) w.heap.size 5 [0] := Blk.new w 5 #[.int .u8 0]
  exact hb.bodyT (fun x hx => by rw [List.mem_singleton] at hx; subst hx; omega) (by decide) hlo
theorem NumPost.body {w W : World} {n : Int} {s lo : Nat} {e : Ending} (h : NumPost w n s e W) (hlo : lo ≤ w.heap.size) : e = .returned (.slice (some ⟨w.heap.size, 0, none⟩) s s) ∧ BodyT 38 lo W (some ⟨w.heap.size, 0, none⟩) s (be s n) ∧ Below w.heap.size w W := by
  obtain ⟨rfl, hb, hB⟩ := h
  have := hb.bodyT (T0 := 38) (lo := lo) (be_oct _ _) (by decide) hlo
  rw [be_len] at this
  exact ⟨rfl, this, hB⟩

set_option maxHeartbeats 4000000 in
theorem pmsiParts_is (w : World) (p : Pm) (h0 : 0 ≤ p.kind) (h1 : p.kind ≤ 255) (hl0 : 0 ≤ p.label) (hl1 : p.label ≤ 16777215) (hip : p.ip.length = 16) (hoct : Oct p.ip) : Calls Tryz.prog 149 #[.agg (pmc p).toArray] w (PartsPost w (pmL p)) := by
  have HN1 := Lib.hid (fun W => numI_is W p.kind 1 h0 (by omega) (by omega) (by omega) (by omega))
  have HN3 := Lib.hid (fun W => numU_is W p.label 3 hl0 (by omega) (by omega) (by omega) (by omega))
  have HS0 : Hid (PmS w ((w.alloc (.cells (pmc p).toArray 29)).drew) p) := Lib.hid ⟨below_drewN ((Below.refl w.heap.size w).alloc (Nat.le_refl _) _) 1, Blk.new w 29 (pmc p).toArray⟩
  have HIp := Lib.hid hip
  have HOct := Lib.hid hoct
  clear h0 h1 hl0 hl1 hip hoct
  go_enter Tryz.func149, Tryz.ntmps149
  go_wp2_with fail
  go_cut [3] (fun s3 wx => PmC w wx p s3)
  case first =>
    refine wp_region_held_drew (S := fun W => PmS w W p) (by kernel_rfl) (HS0.out) (fun hS => ?_)
    refine wpAnyH_take (i := 1) (oi := ⟨some 5, _, _, _, _, _⟩) (v := ?_) rfl (by kernel_rfl) (by kernel_rfl) (by kernel_rfl) (fun _ _ _ h => h) (Or.inl ⟨by rfl, ?_⟩) hS ?_
    rotate_left
    · intro wq hq
      first | (go_simp; done) | (go_simp; rfl)
    try simp only [Act.put, List.setIfInBounds_toArray, List.set_cons_zero, List.set_cons_succ]
    refine wpAnyH_take (i := 2) (oi := ⟨some 6, _, _, _, _, _⟩) (v := ?_) rfl (by kernel_rfl) (by kernel_rfl) (by kernel_rfl) (fun _ _ _ h => h) (Or.inl ⟨by rfl, ?_⟩) hS ?_
    rotate_left
    · intro wq hq
      have hc : wq.cell? ⟨w.heap.size, 0, none⟩ = some (.int .i64 p.kind) := hq.2.cell 0
      first | (go_simp; done) | (go_simp; rfl)
    try simp only [Act.put, List.setIfInBounds_toArray, List.set_cons_zero, List.set_cons_succ]
    refine wpAnyH_take (i := 4) (oi := ⟨some 8, _, _, _, _, _⟩) (v := ?_) rfl (by kernel_rfl) (by kernel_rfl) (by kernel_rfl) (fun _ _ _ h => h) (Or.inl ⟨by rfl, ?_⟩) hS ?_
    rotate_left
    · intro wq hq
      first | (go_simp; done) | (go_simp; rfl)
    try simp only [Act.put, List.setIfInBounds_toArray, List.set_cons_zero, List.set_cons_succ]
    refine wpAnyH_take (i := 5) (oi := ⟨some 9, _, _, _, _, _⟩) (v := ?_) rfl (by kernel_rfl) (by kernel_rfl) (by kernel_rfl) (fun _ _ _ h => h) (Or.inl ⟨by rfl, ?_⟩) hS ?_
    rotate_left
    · intro wq hq
      have hc : wq.cell? ⟨w.heap.size, 1, none⟩ = some (.int .u32 p.label) := hq.2.cell 1
      first | (go_simp; done) | (go_simp; rfl)
    try simp only [Act.put, List.setIfInBounds_toArray, List.set_cons_zero, List.set_cons_succ]
    generalize (w.alloc (.cells (pmc p).toArray 29)).drew = W0 at *
    refine wpAnyH_ready (rs := [0, 3]) (by kernel_rfl) (by simp) ?_
    refine AllReadyH.cons (o := ⟨some 4, _, _, _, _, _⟩) rfl (fun K hK => ?_) (AllReadyH.cons (o := ⟨some 7, _, _, _, _, _⟩) rfl (fun K hK => ?_) AllReadyH.nil)
    · skip
      rw [if_pos (by rfl)]
      go_wp2
      have b0 := body_lit (w := W0) (lo := w.heap.size) hS.1.size
      have hal : Below W0.heap.size W0 (W0.alloc (.cells #[.int .u8 0] 5)) := (Below.refl _ _).alloc (Nat.le_refl _) _
      have hSn := hS.step hal
      clear hal hS
      refine hK.out _ _ (hSn) (fun hS => ?_)
      clear hK K
      try simp only [Act.put, List.setIfInBounds_toArray, List.set_cons_zero, List.set_cons_succ]
      clear hSn
      refine wpAnyH_ready (rs := [3]) (by kernel_rfl) (by simp) ?_
      refine AllReadyH.cons (o := ⟨some 7, _, _, _, _, _⟩) rfl (fun K hK => ?_) AllReadyH.nil
      rw [if_pos (by rfl)]
      go_wp2_with fail
      refine (HN1.out _).mono ?_
      intro e W2 hp
      obtain ⟨rfl, b1, hB⟩ := hp.body hS.1.size
      have hSn := hS.step hB
      have b0 := b0.below hB
      clear hp hB hS
      refine hK.out _ _ (hSn) (fun hS => ?_)
      clear hK K
      try simp only [Act.put, List.setIfInBounds_toArray, List.set_cons_zero, List.set_cons_succ]
      clear hSn
      refine wpAnyH_ready (rs := [6]) (by kernel_rfl) (by simp) ?_
      refine AllReadyH.cons (o := ⟨some 10, _, _, _, _, _⟩) rfl (fun K hK => ?_) AllReadyH.nil
      rw [if_pos (by rfl)]
      go_wp2_with fail
      refine (HN3.out _).mono ?_
      intro e W3 hp
      obtain ⟨rfl, b2, hB⟩ := hp.body hS.1.size
      have hSn := hS.step hB
      have b0 := b0.below hB
      have b1 := b1.below hB
      clear hp hB hS
      refine hK.out _ _ (hSn) (fun hS => ?_)
      clear hK K
      try simp only [Act.put, List.setIfInBounds_toArray, List.set_cons_zero, List.set_cons_succ]
      clear hSn
      refine wpAnyH_ready (rs := [7]) (by kernel_rfl) (by simp) ?_
      refine AllReadyH.cons (o := ⟨some 11, _, _, _, _, _⟩) rfl (fun K hK => ?_) AllReadyH.nil
      rw [if_pos (by rfl)]
      go_wp2
      have ho := own_ls (w := W3) hS.1.size [.slice (some ⟨_, 0, none⟩) 1 1, .slice (some ⟨_, 0, none⟩) 1 1, .slice (some ⟨_, 0, none⟩) 3 3] [[0], be 1 p.kind, be 3 p.label] rfl (by simp) (fun i hi => match i, hi with | 0, _ => ⟨_, _, _, rfl, b0⟩ | 1, _ => ⟨_, _, _, rfl, b1⟩ | 2, _ => ⟨_, _, _, rfl, b2⟩ | n + 3, h => absurd h (by simp))
      refine hK.out _ _ (hS.step ((Below.refl _ _).alloc (Nat.le_refl _) _)) (fun hS => ?_)
      clear hK K
      try simp only [Act.put, List.setIfInBounds_toArray, List.set_cons_zero, List.set_cons_succ]
      refine wpAnyH_take (i := 8) (oi := ⟨some 3, _, _, _, _, _⟩) (v := ?_) rfl (by kernel_rfl) (by kernel_rfl) (by kernel_rfl) (fun _ _ _ h => h) (Or.inl ⟨by rfl, ?_⟩) hS ?_
      rotate_left
      · intro wq hq
        first | (go_simp; done) | (go_simp; rfl)
      try simp only [Act.put, List.setIfInBounds_toArray, List.set_cons_zero, List.set_cons_succ]
      refine wpAnyH_done (by kernel_rfl) ?_ _
      go_wp2_with fail
      go_meet
      try simp only [World.size_alloc] at ho
      exact ⟨hS, ho⟩
    · skip
      rw [if_pos (by rfl)]
      go_wp2_with fail
      refine (HN1.out _).mono ?_
      intro e W2 hp
      obtain ⟨rfl, b1, hB⟩ := hp.body hS.1.size
      have hSn := hS.step hB
      clear hp hB hS
      refine hK.out _ _ (hSn) (fun hS => ?_)
      clear hK K
      try simp only [Act.put, List.setIfInBounds_toArray, List.set_cons_zero, List.set_cons_succ]
      clear hSn
      refine wpAnyH_ready (rs := [0, 6]) (by kernel_rfl) (by simp) ?_
      refine AllReadyH.cons (o := ⟨some 4, _, _, _, _, _⟩) rfl (fun K hK => ?_) (AllReadyH.cons (o := ⟨some 10, _, _, _, _, _⟩) rfl (fun K hK => ?_) AllReadyH.nil)
      · skip
        rw [if_pos (by rfl)]
        go_wp2
        have b0 := body_lit (w := W2) (lo := w.heap.size) hS.1.size
        have hal : Below W2.heap.size W2 (W2.alloc (.cells #[.int .u8 0] 5)) := (Below.refl _ _).alloc (Nat.le_refl _) _
        have hSn := hS.step hal
        have b1 := b1.below hal
        clear hal hS
        refine hK.out _ _ (hSn) (fun hS => ?_)
        clear hK K
        try simp only [Act.put, List.setIfInBounds_toArray, List.set_cons_zero, List.set_cons_succ]
        clear hSn
        refine wpAnyH_ready (rs := [6]) (by kernel_rfl) (by simp) ?_
        refine AllReadyH.cons (o := ⟨some 10, _, _, _, _, _⟩) rfl (fun K hK => ?_) AllReadyH.nil
        rw [if_pos (by rfl)]
        go_wp2_with fail
        refine (HN3.out _).mono ?_
        intro e W3 hp
        obtain ⟨rfl, b2, hB⟩ := hp.body hS.1.size
        have hSn := hS.step hB
        have b0 := b0.below hB
        have b1 := b1.below hB
        clear hp hB hS
        refine hK.out _ _ (hSn) (fun hS => ?_)
        clear hK K
        try simp only [Act.put, List.setIfInBounds_toArray, List.set_cons_zero, List.set_cons_succ]
        clear hSn
        refine wpAnyH_ready (rs := [7]) (by kernel_rfl) (by simp) ?_
        refine AllReadyH.cons (o := ⟨some 11, _, _, _, _, _⟩) rfl (fun K hK => ?_) AllReadyH.nil
        rw [if_pos (by rfl)]
        go_wp2
        have ho := own_ls (w := W3) hS.1.size [.slice (some ⟨_, 0, none⟩) 1 1, .slice (some ⟨_, 0, none⟩) 1 1, .slice (some ⟨_, 0, none⟩) 3 3] [[0], be 1 p.kind, be 3 p.label] rfl (by simp) (fun i hi => match i, hi with | 0, _ => ⟨_, _, _, rfl, b0⟩ | 1, _ => ⟨_, _, _, rfl, b1⟩ | 2, _ => ⟨_, _, _, rfl, b2⟩ | n + 3, h => absurd h (by simp))
        refine hK.out _ _ (hS.step ((Below.refl _ _).alloc (Nat.le_refl _) _)) (fun hS => ?_)
        clear hK K
        try simp only [Act.put, List.setIfInBounds_toArray, List.set_cons_zero, List.set_cons_succ]
        refine wpAnyH_take (i := 8) (oi := ⟨some 3, _, _, _, _, _⟩) (v := ?_) rfl (by kernel_rfl) (by kernel_rfl) (by kernel_rfl) (fun _ _ _ h => h) (Or.inl ⟨by rfl, ?_⟩) hS ?_
        rotate_left
        · intro wq hq
          first | (go_simp; done) | (go_simp; rfl)
        try simp only [Act.put, List.setIfInBounds_toArray, List.set_cons_zero, List.set_cons_succ]
        refine wpAnyH_done (by kernel_rfl) ?_ _
        go_wp2_with fail
        go_meet
        try simp only [World.size_alloc] at ho
        exact ⟨hS, ho⟩
      · skip
        rw [if_pos (by rfl)]
        go_wp2_with fail
        refine (HN3.out _).mono ?_
        intro e W3 hp
        obtain ⟨rfl, b2, hB⟩ := hp.body hS.1.size
        have hSn := hS.step hB
        have b1 := b1.below hB
        clear hp hB hS
        refine hK.out _ _ (hSn) (fun hS => ?_)
        clear hK K
        try simp only [Act.put, List.setIfInBounds_toArray, List.set_cons_zero, List.set_cons_succ]
        clear hSn
        refine wpAnyH_ready (rs := [0]) (by kernel_rfl) (by simp) ?_
        refine AllReadyH.cons (o := ⟨some 4, _, _, _, _, _⟩) rfl (fun K hK => ?_) AllReadyH.nil
        rw [if_pos (by rfl)]
        go_wp2
        have b0 := body_lit (w := W3) (lo := w.heap.size) hS.1.size
        have hal : Below W3.heap.size W3 (W3.alloc (.cells #[.int .u8 0] 5)) := (Below.refl _ _).alloc (Nat.le_refl _) _
        have hSn := hS.step hal
        have b1 := b1.below hal
        have b2 := b2.below hal
        clear hal hS
        refine hK.out _ _ (hSn) (fun hS => ?_)
        clear hK K
        try simp only [Act.put, List.setIfInBounds_toArray, List.set_cons_zero, List.set_cons_succ]
        clear hSn
        refine wpAnyH_ready (rs := [7]) (by kernel_rfl) (by simp) ?_
        refine AllReadyH.cons (o := ⟨some 11, _, _, _, _, _⟩) rfl (fun K hK => ?_) AllReadyH.nil
        rw [if_pos (by rfl)]
        go_wp2
        have ho := own_ls (w := (W3.alloc (.cells #[.int .u8 0] 5))) hS.1.size [.slice (some ⟨_, 0, none⟩) 1 1, .slice (some ⟨_, 0, none⟩) 1 1, .slice (some ⟨_, 0, none⟩) 3 3] [[0], be 1 p.kind, be 3 p.label] rfl (by simp) (fun i hi => match i, hi with | 0, _ => ⟨_, _, _, rfl, b0⟩ | 1, _ => ⟨_, _, _, rfl, b1⟩ | 2, _ => ⟨_, _, _, rfl, b2⟩ | n + 3, h => absurd h (by simp))
        refine hK.out _ _ (hS.step ((Below.refl _ _).alloc (Nat.le_refl _) _)) (fun hS => ?_)
        clear hK K
        try simp only [Act.put, List.setIfInBounds_toArray, List.set_cons_zero, List.set_cons_succ]
        refine wpAnyH_take (i := 8) (oi := ⟨some 3, _, _, _, _, _⟩) (v := ?_) rfl (by kernel_rfl) (by kernel_rfl) (by kernel_rfl) (fun _ _ _ h => h) (Or.inl ⟨by rfl, ?_⟩) hS ?_
        rotate_left
        · intro wq hq
          first | (go_simp; done) | (go_simp; rfl)
        try simp only [Act.put, List.setIfInBounds_toArray, List.set_cons_zero, List.set_cons_succ]
        refine wpAnyH_done (by kernel_rfl) ?_ _
        go_wp2_with fail
        go_meet
        try simp only [World.size_alloc] at ho
        exact ⟨hS, ho⟩
  case rest =>
    have HC := Lib.hid hcut
    clear hcut HN1 HN3 HS0
    have c0 : wc.cell? ⟨w.heap.size, 0, none⟩ = some (.int .i64 p.kind) := HC.out.1.2.cell 0
    by_cases h6 : p.kind = 6
    · have e6 : (p.kind == 6) = true := by rw [beq_iff_eq]; exact h6
      have HF : Hid (pmL p = [[0], be 1 p.kind, be 3 p.label] ++ [p.ip.take (if p.v6 then 16 else 4)]) := Lib.hid (by unfold pmL; rw [if_pos h6])
      have HRng : Hid (wc.rangeAt w.heap.size 2 (ipc p.v6 p.ip)) := Lib.hid (range_post (cs := [.int .i64 p.kind, .int .u32 p.label]) (ds := ipc p.v6 p.ip) (o := 0) (Blk.range HC.out.1.2))
      have HBt := Lib.hid (fun W => bits_is W p.v6 p.ip)
      have hbv : (p.v6 = true ∧ bitsOf p.v6 = 128) ∨ (p.v6 = false ∧ bitsOf p.v6 = 32) := by cases p.v6 <;> simp [bitsOf]
      have hsl : ∀ (h : Nat), h ≤ 16 → ∀ W, (Instr.sliceAt 25 (.pointer (some ⟨w.heap.size, 3, none⟩)) none (some (.int .i64 (h : Int))) none).run Tryz.prog W = .ok (.slice (some ⟨w.heap.size, 3, none⟩) h 16) W := fun h hh => slice_arr_h (P := Tryz.prog) (t := 25) (e := 5) (n := 16) Tryz.underlying25 (by kernel_rfl) w.heap.size 3 h hh (by omega) h rfl
      have HSl := Lib.hid hsl
      clear h6 hsl
      generalize hwz : wc = wz at *
      clear hwz
      go_wp2_with (refine ip_fetch rfl _ rfl w.heap.size 2 p.v6 p.ip HIp.out rfl HRng.out ?_)
      refine (HBt.out _).mono ?_
      rintro e W5 ⟨rfl, hB⟩
      have hS5 := HC.out.1.step hB
      have HO5 := Lib.hid (HC.out.2.below hB)
      have HS5 := Lib.hid hS5
      have hs5 := hS5.1.size
      clear HC HRng hB hS5 c0 e6
      have HBd : Hid (∀ h : Nat, h ≤ 16 → BodyT 38 w.heap.size W5 (some ⟨w.heap.size, 3, none⟩) h (p.ip.take h)) := Lib.hid fun h hh => ⟨fun x hx => HOct.out x (List.mem_of_mem_take hx), by rw [List.length_take, HIp.out]; omega, .inr ⟨w.heap.size, 3, _, 29, rfl, Nat.le_refl _, HS5.out.2, by decide, fun j hj => by
        have hj16 : j < p.ip.length := by rw [HIp.out]; omega
        have : (pmc p)[3 + j]? = some (.int .u8 (p.ip.getD j 0)) := by
          show (.int .i64 p.kind :: .int .u32 p.label :: ipc p.v6 p.ip)[3 + j]? = _
          rw [show 3 + j = j + 1 + 1 + 1 by omega, List.getElem?_cons_succ, List.getElem?_cons_succ]
          show (.bool p.v6 :: u8s p.ip)[j + 1]? = _
          rw [List.getElem?_cons_succ]
          simp [List.getD, hj16]
        rw [List.getElem?_toArray, this]
        simp [List.getD, hj16, hj]⟩⟩
      rcases hbv with ⟨e1, e2⟩ | ⟨e1, e2⟩
      · rw [e1] at HF
        rw [e2]
        have hs2 := HSl.out 16 (by omega)
        have hd2 := Lib.hid (HBd.out 16 (by omega))
        clear HSl HBd e1 e2
        go_wp2_with (at_builtin; refine app_l1 rfl _ _ rfl HO5.out hs5 (by simp) hd2.out rfl rfl ?_)
        intro v6 w6 ho6 hb6
        have HE : Hid (PartsPost w (pmL p) (.returned v6) w6) := Lib.hid ⟨_, rfl, by rw [HF.out]; exact ho6, HS5.out.1.trans hb6⟩
        clear ho6 hb6 hs2
        go_wp2
        go_ret
        exact HE.out
      · rw [e1] at HF
        rw [e2]
        have hs2 := HSl.out 4 (by omega)
        have hd2 := Lib.hid (HBd.out 4 (by omega))
        clear HSl HBd e1 e2
        go_wp2_with (at_builtin; refine app_l1 rfl _ _ rfl HO5.out hs5 (by simp) hd2.out rfl rfl ?_)
        intro v6 w6 ho6 hb6
        have HE : Hid (PartsPost w (pmL p) (.returned v6) w6) := Lib.hid ⟨_, rfl, by rw [HF.out]; exact ho6, HS5.out.1.trans hb6⟩
        clear ho6 hb6 hs2
        go_wp2
        go_ret
        exact HE.out
    · have e6 : (p.kind == 6) = false := by rw [beq_eq_false_iff_ne]; exact h6
      have HF : Hid (pmL p = [[0], be 1 p.kind, be 3 p.label]) := Lib.hid (by unfold pmL; rw [if_neg h6]; rfl)
      clear h6
      go_wp2
      go_ret
      exact ⟨_, rfl, by rw [HF.out]; exact HC.out.2, HC.out.1.1⟩
end Go.Proofs.YtdgoeibfggjbmaaGreatDoor
namespace Go.Proofs.YtdgoeibfggjbmaaGreatDoor
open Go.RowKit
set_option maxRecDepth 100000
set_option linter.unusedSimpArgs false
set_option linter.unusedVariables false

def MadePost (w : World) (f k : Int) (l : List Int) (e : Ending) (w' : World) : Prop :=
  ∃ A c, e = .returned (.agg #[.int .i64 (lfl f l), .int .i64 k, .slice A l.length c]) ∧ BodyT 67 w.heap.size w' A l.length l ∧ Below w.heap.size w w'
/-- The result's place, the bounds' box. -/
structure MdS (w W : World) (b : Nat) (k f cl : Int) : Prop where
  low : Below w.heap.size w W
  res : Blk W w.heap.size 67 #[.int .i64 0, .int .i64 0, .slice none 0 0]
  bd : Blk W b 217 #[.int .i64 k, .int .i64 f, .int .i64 cl]
theorem MdS.step {w W W' : World} {b : Nat} {k f cl : Int} (h : MdS w W b k f cl) (hB : Below W.heap.size W W') : MdS w W' b k f cl := ⟨h.low.trans (hB.mono h.low.size), h.res.below hB h.res.lt, h.bd.below hB h.bd.lt⟩
/-- The attribute stands in the block q. -/
structure MdC (w W : World) (s : Value) (f k : Int) (l : List Int) : Prop where
  ex : ∃ q A c, s = .pointer (some ⟨q, 0, none⟩) ∧ Blk W q 67 #[.int .i64 f, .int .i64 k, .slice A l.length c] ∧ BodyT 67 w.heap.size W A l.length l ∧ w.heap.size < q
  res : Blk W w.heap.size 67 #[.int .i64 0, .int .i64 0, .slice none 0 0]
  low : Below w.heap.size w W
theorem BodyT.row {lo : Nat} {w : World} {A : Option Addr} {n : Nat} {l : List Int} {q : Nat} {cs cs' : Array Value} (h : BodyT 67 lo w A n l) (hq : Blk w q 67 cs) : BodyT 67 lo (w.setRow q cs') A n l :=
  h.keep fun i c t hi _ ht => setRow_other w q i _ (row_ne hi hq ht)
theorem BodyT.cellr {lo : Nat} {w : World} {A : Option Addr} {n : Nat} {l : List Int} {q o : Nat} {cs : Array Value} {u : Value} (h : BodyT 67 lo w A n l) (hq : Blk w q 67 cs) : BodyT 67 lo (w.setCell ⟨q, o, none⟩ u) A n l :=
  h.keep fun i c t hi _ ht => Below.heap_setCell w ⟨q, o, none⟩ u i (row_ne hi hq ht)

theorem Blk.setRow_other5 {w : World} {g g' : Nat} {t : TypeId} {cs : Array Value} (h : Blk w g t cs) (hne : g ≠ g') (cs' : Array Value) : Blk (w.setRow g' cs') g t cs := (setRow_other w g' g _ hne).trans h
set_option maxHeartbeats 4000000 in
theorem made_is (w : World) (E : EnvK w) (k f cl : Int) (hb : bnd k = some (f, cl)) (hf : f = 64 ∨ f = 128 ∨ f = 192) (A : Option Addr) (n c : Nat) (ls : List (List Int)) (hr : RdL w w.heap.size A n ls) (hn : n ≤ 1000000) (hfl : ls.flatten.length ≤ 100000000) :
    Calls Tryz.prog 143 #[.int .i64 k, .slice A n c] w (MadePost w f k ls.flatten) := by
  have HBd : Hid (bndV k = .tuple #[.agg #[.int .i64 k, .int .i64 f, .int .i64 cl], .bool true]) := Lib.hid (by unfold bndV; rw [hb])
  have hal : Below w.heap.size w (w.alloc (.cells #[.int .i64 0, .int .i64 0, .slice none 0 0] 67)) := (Below.refl _ _).alloc (Nat.le_refl _) _
  have HB0 := Lib.hid hal
  have HE0 := Lib.hid (E.below hal)
  have HR0 := Lib.hid (Blk.new w 67 #[.int .i64 0, .int .i64 0, .slice none 0 0])
  have HL := Lib.hid hr
  have HOr : Hid (bits .or .i64 f 16 = f + 16) := Lib.hid (by rcases hf with rfl | rfl | rfl <;> decide)
  have HCh := Lib.hid (fun W (h : RdL W W.heap.size A n ls) => chain_is W A n c ls h hn hfl)
  generalize ls.flatten = l at *
  clear hb hal E hr hf hfl
  go_enter Tryz.func143, Tryz.ntmps143
  go_wp2_with fail
  refine (boundsOf_is _ HE0.out k).mono ?_
  rw [HBd.out]
  generalize hw0 : w.alloc (.cells #[.int .i64 0, .int .i64 0, .slice none 0 0] 67) = w0 at *
  have hs0 : w.heap.size < w0.heap.size := by rw [← hw0]; simp
  clear hw0
  rintro e w1 ⟨rfl, hB1⟩
  have hBw1 := HB0.out.trans (hB1.mono (Nat.le_of_lt hs0))
  have hs1 : w.heap.size < w1.heap.size := Nat.lt_of_lt_of_le hs0 hB1.size
  have hal2 : Below w1.heap.size w1 (w1.alloc (.cells #[.int .i64 k, .int .i64 f, .int .i64 cl] 217)) := (Below.refl _ _).alloc (Nat.le_refl _) _
  have HS1 : Hid (MdS w ((w1.alloc (.cells #[.int .i64 k, .int .i64 f, .int .i64 cl] 217)).drew) w1.heap.size k f cl) := Lib.hid (MdS.step ⟨hBw1.trans (hal2.mono hBw1.size), (HR0.out.below hB1 hs0).alloc _, Blk.new w1 217 _⟩ (below_drewN (Below.refl _ _) 1))
  have HS1n := Lib.hid hs1
  clear hB1 hBw1 hal2 HB0 HE0 HR0 HBd hs0
  go_wp2_with fail
  generalize (w1.alloc (.cells #[.int .i64 k, .int .i64 f, .int .i64 cl] 217)) = w2 at *
  generalize w1.heap.size = b at *
  go_cut [7] (fun s7 wx => MdC w wx s7 f k l)
  case first =>
    refine wp_region_held_drew (S := fun W => MdS w W b k f cl) (by kernel_rfl) (HS1.out) (fun hS => ?_)
    refine wpAnyH_take (i := 0) (oi := ⟨some 13, _, _, _, _, _⟩) (v := ?_) rfl (by kernel_rfl) (by kernel_rfl) (by kernel_rfl) (fun _ _ _ h => h) (Or.inl ⟨by rfl, ?_⟩) hS ?_
    rotate_left
    · intro wq hq
      first | (go_simp; done) | (go_simp; rfl)
    try simp only [Act.put, List.setIfInBounds_toArray, List.set_cons_zero, List.set_cons_succ]
    refine wpAnyH_take (i := 1) (oi := ⟨some 14, _, _, _, _, _⟩) (v := ?_) rfl (by kernel_rfl) (by kernel_rfl) (by kernel_rfl) (fun _ _ _ h => h) (Or.inl ⟨by rfl, ?_⟩) hS ?_
    rotate_left
    · intro wq hq
      have hc : wq.cell? ⟨b, 1, none⟩ = some (.int .i64 f) := hq.bd.cell 1
      first | (go_simp; done) | (go_simp; rfl)
    try simp only [Act.put, List.setIfInBounds_toArray, List.set_cons_zero, List.set_cons_succ]
    refine wpAnyH_take (i := 2) (oi := ⟨some 15, _, _, _, _, _⟩) (v := ?_) rfl (by kernel_rfl) (by kernel_rfl) (by kernel_rfl) (fun _ _ _ h => h) (Or.inl ⟨by rfl, ?_⟩) hS ?_
    rotate_left
    · intro wq hq
      first | (go_simp; done) | (go_simp; rfl)
    try simp only [Act.put, List.setIfInBounds_toArray, List.set_cons_zero, List.set_cons_succ]
    refine wpAnyH_take (i := 3) (oi := ⟨some 16, _, _, _, _, _⟩) (v := ?_) rfl (by kernel_rfl) (by kernel_rfl) (by kernel_rfl) (fun _ _ _ h => h) (Or.inl ⟨by rfl, ?_⟩) hS ?_
    rotate_left
    · intro wq hq
      first | (go_simp; done) | (go_simp; rfl)
    try simp only [Act.put, List.setIfInBounds_toArray, List.set_cons_zero, List.set_cons_succ]
    generalize w2.drew = W1 at *
    have hL1 := (HL.out.below hS.low).more hS.low.size
    refine wpAnyH_ready (rs := [4, 6]) (by kernel_rfl) (by simp) ?_
    refine AllReadyH.cons (o := ⟨some 17, _, _, _, _, _⟩) rfl (fun K hK => ?_) (AllReadyH.cons (o := ⟨some 7, _, _, _, _, _⟩) rfl (fun K hK => ?_) AllReadyH.nil)
    · rw [if_pos (by rfl)]
      go_wp2_with fail
      refine (HCh.out W1 hL1).mono ?_
      rintro e W2 ⟨v, rfl, ho, hB⟩
      obtain ⟨A2, c2, rfl, hbd⟩ := ho.bodyT (T0 := 67) (by decide)
      have hS2 := hS.step hB
      have hbd2 := hbd.low hS.low.size
      clear ho hbd hB hL1 hS
      refine hK.out _ _ (hS2) (fun hS => ?_)
      clear hK K
      try simp only [Act.put, List.setIfInBounds_toArray, List.set_cons_zero, List.set_cons_succ]
      clear hS2
      refine wpAnyH_take (i := 5) (oi := ⟨some 18, _, _, _, _, _⟩) (v := ?_) rfl (by kernel_rfl) (by kernel_rfl) (by kernel_rfl) (fun _ _ _ h => h) (Or.inl ⟨by rfl, ?_⟩) hS ?_
      rotate_left
      · intro wq hq
        first | (go_simp; done) | (go_simp; rfl)
      try simp only [Act.put, List.setIfInBounds_toArray, List.set_cons_zero, List.set_cons_succ]
      refine wpAnyH_ready (rs := [6]) (by kernel_rfl) (by simp) ?_
      refine AllReadyH.cons (o := ⟨some 7, _, _, _, _, _⟩) rfl (fun K hK => ?_) AllReadyH.nil
      rw [if_pos (by rfl)]
      go_wp2
      have hq1 := Blk.new W2 67 #[.int .i64 0, .int .i64 0, .slice none 0 0]
      have hal : Below W2.heap.size W2 (W2.alloc (.cells #[.int .i64 0, .int .i64 0, .slice none 0 0] 67)) := (Below.refl _ _).alloc (Nat.le_refl _) _
      have hS3 := hS.step hal
      have hbd3 := hbd2.below hal
      have hlt : w.heap.size < W2.heap.size := hS.res.lt
      have hbl : b < W2.heap.size := hS.bd.lt
      clear hal hS hbd2
      refine hK.out _ _ (hS3) (fun hS => ?_)
      clear hK K
      try simp only [Act.put, List.setIfInBounds_toArray, List.set_cons_zero, List.set_cons_succ]
      clear hS3
      refine wpAnyH_ready (rs := [7]) (by kernel_rfl) (by simp) ?_
      refine AllReadyH.cons (o := ⟨none, _, _, _, _, _⟩) rfl (fun K hK => ?_) AllReadyH.nil
      rw [if_pos (by rfl)]
      refine wp_store_row 67 _ _ rfl W2.heap.size #[.int .i64 f, .int .i64 k, .slice A2 l.length c2] rfl rfl 67 _ hq1 rsz rfl (by kernel_rfl) ?_
      have hr2 := Blk.setRow hq1 #[.int .i64 f, .int .i64 k, .slice A2 l.length c2]
      have hbd4 := hbd3.row hq1 (cs' := #[.int .i64 f, .int .i64 k, .slice A2 l.length c2])
      have hres := Blk.setRow_other5 hS.res (g' := W2.heap.size) (by omega) #[.int .i64 f, .int .i64 k, .slice A2 l.length c2]
      have hlow := hS.low.trans (below_setRow (W2.alloc (.cells #[.int .i64 0, .int .i64 0, .slice none 0 0] 67)) W2.heap.size #[.int .i64 f, .int .i64 k, .slice A2 l.length c2] (B := w.heap.size) (by omega))
      have hbb := Blk.setRow_other5 hS.bd (g' := W2.heap.size) (by omega) #[.int .i64 f, .int .i64 k, .slice A2 l.length c2]
      refine hK.out _ _ ⟨hlow, hres, hbb⟩ (fun hS => ?_)
      clear hK K
      try simp only [Act.put, List.setIfInBounds_toArray, List.set_cons_zero, List.set_cons_succ]
      refine wpAnyH_done (by kernel_rfl) ?_ _
      go_wp2_with fail
      go_meet
      exact ⟨⟨_, _, _, rfl, hr2, hbd4, by omega⟩, hres, hlow⟩
    · rw [if_pos (by rfl)]
      go_wp2
      have hq1 := Blk.new W1 67 #[.int .i64 0, .int .i64 0, .slice none 0 0]
      have hal : Below W1.heap.size W1 (W1.alloc (.cells #[.int .i64 0, .int .i64 0, .slice none 0 0] 67)) := (Below.refl _ _).alloc (Nat.le_refl _) _
      have hS3 := hS.step hal
      have hL2 := (hL1.below hal).more hal.size
      have hlt : w.heap.size < W1.heap.size := hS.res.lt
      have hbl : b < W1.heap.size := hS.bd.lt
      clear hal hS hL1
      refine hK.out _ _ (hS3) (fun hS => ?_)
      clear hK K
      try simp only [Act.put, List.setIfInBounds_toArray, List.set_cons_zero, List.set_cons_succ]
      clear hS3
      generalize (W1.alloc (.cells #[.int .i64 0, .int .i64 0, .slice none 0 0] 67)) = W2 at *
      refine wpAnyH_ready (rs := [4]) (by kernel_rfl) (by simp) ?_
      refine AllReadyH.cons (o := ⟨some 17, _, _, _, _, _⟩) rfl (fun K hK => ?_) AllReadyH.nil
      rw [if_pos (by rfl)]
      go_wp2_with fail
      refine (HCh.out W2 hL2).mono ?_
      rintro e W3 ⟨v, rfl, ho, hB⟩
      obtain ⟨A2, c2, rfl, hbd⟩ := ho.bodyT (T0 := 67) (by decide)
      have hS2 := hS.step hB
      have hbd3 := hbd.low hS.low.size
      have hq3 := hq1.below hB hq1.lt
      clear ho hbd hB hL2 hS hq1
      refine hK.out _ _ (hS2) (fun hS => ?_)
      clear hK K
      try simp only [Act.put, List.setIfInBounds_toArray, List.set_cons_zero, List.set_cons_succ]
      clear hS2
      refine wpAnyH_take (i := 5) (oi := ⟨some 18, _, _, _, _, _⟩) (v := ?_) rfl (by kernel_rfl) (by kernel_rfl) (by kernel_rfl) (fun _ _ _ h => h) (Or.inl ⟨by rfl, ?_⟩) hS ?_
      rotate_left
      · intro wq hq
        first | (go_simp; done) | (go_simp; rfl)
      try simp only [Act.put, List.setIfInBounds_toArray, List.set_cons_zero, List.set_cons_succ]
      refine wpAnyH_ready (rs := [7]) (by kernel_rfl) (by simp) ?_
      refine AllReadyH.cons (o := ⟨none, _, _, _, _, _⟩) rfl (fun K hK => ?_) AllReadyH.nil
      rw [if_pos (by rfl)]
      refine wp_store_row 67 _ _ rfl W1.heap.size #[.int .i64 f, .int .i64 k, .slice A2 l.length c2] rfl rfl 67 _ hq3 rsz rfl (by kernel_rfl) ?_
      have hr2 := Blk.setRow hq3 #[.int .i64 f, .int .i64 k, .slice A2 l.length c2]
      have hbd4 := hbd3.row hq3 (cs' := #[.int .i64 f, .int .i64 k, .slice A2 l.length c2])
      have hres := Blk.setRow_other5 hS.res (g' := W1.heap.size) (by omega) #[.int .i64 f, .int .i64 k, .slice A2 l.length c2]
      have hlow := hS.low.trans (below_setRow W3 W1.heap.size #[.int .i64 f, .int .i64 k, .slice A2 l.length c2] (B := w.heap.size) (by omega))
      have hbb := Blk.setRow_other5 hS.bd (g' := W1.heap.size) (by omega) #[.int .i64 f, .int .i64 k, .slice A2 l.length c2]
      refine hK.out _ _ ⟨hlow, hres, hbb⟩ (fun hS => ?_)
      clear hK K
      try simp only [Act.put, List.setIfInBounds_toArray, List.set_cons_zero, List.set_cons_succ]
      refine wpAnyH_done (by kernel_rfl) ?_ _
      go_wp2_with fail
      go_meet
      exact ⟨⟨_, _, _, rfl, hr2, hbd4, by omega⟩, hres, hlow⟩
  case rest =>
    obtain ⟨⟨q, A2, c2, rfl, hq, hbd, hlt⟩, hres, hlow⟩ := hcut
    have q0 : wc.cell? ⟨q, 0, none⟩ = some (.int .i64 f) := hq.cell 0
    have q1 : wc.cell? ⟨q, 1, none⟩ = some (.int .i64 k) := hq.cell 1
    have q2 : wc.cell? ⟨q, 2, none⟩ = some (.slice A2 l.length c2) := hq.cell 2
    have f0 := hq.frozen 0
    by_cases h255 : 255 < l.length
    · have hi : (l.length : Int) > 255 := by omega
      have HLf : Hid (lfl f l = f + 16) := Lib.hid (by unfold lfl; rw [if_pos h255])
      have hq2 := hq.set_ 0 (.int .i64 (f + 16))
      have hsc : (#[Value.int .i64 f, .int .i64 k, .slice A2 l.length c2]).setIfInBounds 0 (.int .i64 (f + 16)) = #[Value.int .i64 (f + 16), .int .i64 k, .slice A2 l.length c2] := rfl
      rw [hsc] at hq2
      have HW : Hid (Blk (wc.setCell ⟨q, 0, none⟩ (.int .i64 (f + 16))) w.heap.size 67 #[.int .i64 0, .int .i64 0, .slice none 0 0]) := Lib.hid (hres.far (p := ⟨q, 0, none⟩) (by show w.heap.size ≠ q; omega) _)
      have HBd2 := Lib.hid (((hbd.cellr (o := 0) (u := .int .i64 (f + 16)) hq)).row HW.out (cs' := #[.int .i64 (f + 16), .int .i64 k, .slice A2 l.length c2]))
      have HLow := Lib.hid ((hlow.setCell (p := ⟨q, 0, none⟩) (by show w.heap.size ≤ q; omega) (.int .i64 (f + 16))).trans (below_setRow _ w.heap.size #[.int .i64 (f + 16), .int .i64 k, .slice A2 l.length c2] (Nat.le_refl _)))
      have HQ2 := Lib.hid hq2
      have hor := HOr.out
      clear hq2 hsc hq hbd hres hlow h255
      go_wp2_with (first
        | (refine raw_fetch rfl _ rfl q 0 (f + 16) k A2 l.length c2 rfl (HQ2.out.cell 0) (HQ2.out.cell 1) (HQ2.out.cell 2) ?_)
        | (refine raw_store rfl _ _ rfl w.heap.size (f + 16) k A2 l.length c2 rfl rfl 67 _ HW.out rfl ?_))
      try simp only [Exit.inBlock, Exit.then]
      refine bodyPost_ret (results_cell_row rfl _ _ w.heap.size 67 _ (0, 0) _ rfl (Blk.setRow HW.out _) Tryz.underlying67 rfl rsz) rfl ?_
      exact ⟨A2, c2, by rw [HLf.out], HBd2.out, HLow.out⟩
    · have hi : ¬ (l.length : Int) > 255 := by omega
      have HLf : Hid (lfl f l = f) := Lib.hid (by unfold lfl; rw [if_neg h255])
      have HBd2 := Lib.hid (hbd.row hres (cs' := #[.int .i64 f, .int .i64 k, .slice A2 l.length c2]))
      have HLow := Lib.hid (hlow.trans (below_setRow wc w.heap.size #[.int .i64 f, .int .i64 k, .slice A2 l.length c2] (Nat.le_refl _)))
      have HW := Lib.hid hres
      have HQ := Lib.hid hq
      clear hq hbd hres hlow h255
      go_wp2_with (first
        | (refine raw_fetch rfl _ rfl q 0 f k A2 l.length c2 rfl (HQ.out.cell 0) (HQ.out.cell 1) (HQ.out.cell 2) ?_)
        | (refine raw_store rfl _ _ rfl w.heap.size f k A2 l.length c2 rfl rfl 67 _ HW.out rfl ?_))
      try simp only [Exit.inBlock, Exit.then]
      refine bodyPost_ret (results_cell_row rfl _ _ w.heap.size 67 _ (0, 0) _ rfl (Blk.setRow HW.out _) Tryz.underlying67 rfl rsz) rfl ?_
      exact ⟨A2, c2, by rw [HLf.out], HBd2.out, HLow.out⟩
end Go.Proofs.YtdgoeibfggjbmaaGreatDoor
namespace Go.Proofs.YtdgoeibfggjbmaaGreatDoor
open Go.RowKit
set_option maxRecDepth 100000
set_option linter.unusedSimpArgs false
set_option linter.unusedVariables false

theorem any_build5 {ops : Array Oper} {rest : List Oper} {o : Oper} {a : Act} {w : World} {Q : Exit → Act → World → Prop} (hgd : Region.wanted o (yielded ops a.tmps) = true) (ty : TypeId) (ho : o.op = .build ty #[]) (cs : List Value) (hb : Tryz.prog.built ty [] = some cs.toArray)
    (h : wpList Tryz.prog ops Q rest (a.put o.dst (.agg cs.toArray)) w) : wpList Tryz.prog ops Q (o :: rest) a w :=
  BigFrame.wpList_want hgd fun _ hK => by
    unfold Oper.wp execOp
    simp only [ho, Sem.run_bind, run_build w _ _ _ (show Tryz.prog.built ty ((#[] : Array (Nat × Operand)).map fun (i, x) => (i, a.eval x)).toList = some cs.toArray by simpa using hb), Result.andThen_ok]
    exact hK _ _ h
theorem built_ip0 : Tryz.prog.built 27 [] = some (ipc false z16).toArray := by kernel_rfl
def BoolPost (w : World) (b : Bool) (e : Ending) (w' : World) : Prop := e = .returned (.bool b) ∧ Below w.heap.size w w'

set_option maxHeartbeats 4000000 in
theorem isRightPmsi_is (w : World) (p : Pm) (hl0 : 0 ≤ p.label) (hl1 : p.label ≤ 4294967295) (hip : p.ip.length = 16) (hoct : Oct p.ip) : Calls Tryz.prog 195 #[.agg (pmc p).toArray] w (BoolPost w (rightPm p)) := by
  have HB0 : Hid (PmS w (w.alloc (.cells (pmc p).toArray 29)) p) := Lib.hid ⟨(Below.refl w.heap.size w).alloc (Nat.le_refl _) _, Blk.new w 29 (pmc p).toArray⟩
  have HIp := Lib.hid hip
  have HK := Lib.hid (fun W => isByte_is W p.kind)
  have HR := Lib.hid (fun W => right_is W p.v6 p.ip hip hoct)
  have HNe : Hid (∀ W, (binOp .neq 27 (.agg (ipc p.v6 p.ip).toArray) (.agg (ipc false z16).toArray)).run Tryz.prog W = .ok (.bool (!decide (p.v6 = false ∧ p.ip = z16))) W) := Lib.hid (fun W => ip_neq p.v6 false p.ip z16 hip z16_len hoct z16_oct _ rfl W)
  have HRt : Hid (rightPm p = (decide (0 ≤ p.kind ∧ p.kind ≤ 255) && (decide (p.label ≤ 16777215) && (rightB p.v6 p.ip && ((decide (p.kind = 6) || decide (p.v6 = false ∧ p.ip = z16)) && (decide (p.kind ≠ 0) || decide (p.label = 0))))))) := Lib.hid (by unfold rightPm; simp only [Bool.decide_and, Bool.and_assoc])
  clear hip hoct
  have c0 : (w.alloc (.cells (pmc p).toArray 29)).cell? ⟨w.heap.size, 0, none⟩ = some (.int .i64 p.kind) := HB0.out.2.cell 0
  have c1 : (w.alloc (.cells (pmc p).toArray 29)).cell? ⟨w.heap.size, 1, none⟩ = some (.int .u32 p.label) := HB0.out.2.cell 1
  cases hkb : decide (0 ≤ p.kind ∧ p.kind ≤ 255)
  · rw [hkb] at HK HRt
    clear hkb
    go_enter Tryz.func195, Tryz.ntmps195
    go_wp2_with fail
    refine (HK.out _).mono ?_
    rintro e w' ⟨rfl, rfl⟩
    go_wp2
    go_ret
    exact ⟨by rw [HRt.out]; rfl, HB0.out.1⟩
  · rw [hkb] at HK HRt
    clear hkb
    by_cases hlab : 16777215 < p.label
    · have e1 : p.label > 16777215 := hlab
      have HF : Hid (rightPm p = false) := Lib.hid (by rw [HRt.out, decide_eq_false (Int.not_le.2 hlab)]; rfl)
      go_enter Tryz.func195, Tryz.ntmps195
      go_wp2_with fail
      refine (HK.out _).mono ?_
      rintro e w' ⟨rfl, rfl⟩
      go_wp2
      go_ret
      exact ⟨by rw [HF.out]; rfl, HB0.out.1⟩
    · have e1 : decide (16777215 < p.label) = false := decide_eq_false hlab
      rw [decide_eq_true (Int.not_lt.1 hlab)] at HRt
      clear hlab
      have HRng : Hid ((w.alloc (.cells (pmc p).toArray 29)).rangeAt w.heap.size 2 (ipc p.v6 p.ip)) := Lib.hid (range_post (cs := [.int .i64 p.kind, .int .u32 p.label]) (ds := ipc p.v6 p.ip) (o := 0) (Blk.range HB0.out.2))
      cases hrb : rightB p.v6 p.ip
      · rw [hrb] at HR HRt
        clear hrb
        go_enter Tryz.func195, Tryz.ntmps195
        go_wp2_with fail
        refine (HK.out _).mono ?_
        rintro e w' ⟨rfl, rfl⟩
        go_wp2_with (refine ip_fetch rfl _ rfl w.heap.size 2 p.v6 p.ip HIp.out rfl HRng.out ?_)
        refine (HR.out _).mono ?_
        rintro e w2 ⟨rfl, hB⟩
        have HS := Lib.hid (HB0.out.step hB)
        clear hB
        go_wp2
        go_ret
        exact ⟨by rw [HRt.out]; rfl, HS.out.1⟩
      · rw [hrb] at HR HRt
        clear hrb
        by_cases h6 : p.kind = 6
        · have HF : Hid (rightPm p = true) := Lib.hid (by rw [HRt.out, h6]; rfl)
          have e6 : (p.kind != 6) = false := by rw [h6]; rfl
          have e0 : (p.kind != 0) = true := by rw [h6]; rfl
          clear h6
          go_enter Tryz.func195, Tryz.ntmps195
          go_wp2_with fail
          refine (HK.out _).mono ?_
          rintro e w' ⟨rfl, rfl⟩
          go_wp2_with (refine ip_fetch rfl _ rfl w.heap.size 2 p.v6 p.ip HIp.out rfl HRng.out ?_)
          refine (HR.out _).mono ?_
          rintro e w2 ⟨rfl, hB⟩
          have hS := HB0.out.step hB
          have d0 : w2.cell? ⟨w.heap.size, 0, none⟩ = some (.int .i64 p.kind) := hS.2.cell 0
          have HS := Lib.hid hS
          clear hB hS c0 c1
          go_wp2
          go_ret
          exact ⟨by rw [HF.out]; rfl, HS.out.1⟩
        · rw [decide_eq_false h6, Bool.false_or] at HRt
          have e6 : (p.kind != 6) = true := by rw [bne_iff_ne]; exact h6
          clear h6
          cases hz : decide (p.v6 = false ∧ p.ip = z16)
          · rw [hz] at HNe HRt
            clear hz
            have hne := HNe.out
            rw [Bool.not_false] at hne
            go_enter Tryz.func195, Tryz.ntmps195
            go_wp2_with fail
            refine (HK.out _).mono ?_
            rintro e w' ⟨rfl, rfl⟩
            go_wp2_with (refine ip_fetch rfl _ rfl w.heap.size 2 p.v6 p.ip HIp.out rfl HRng.out ?_)
            refine (HR.out _).mono ?_
            rintro e w2 ⟨rfl, hB⟩
            have hS := HB0.out.step hB
            have d0 : w2.cell? ⟨w.heap.size, 0, none⟩ = some (.int .i64 p.kind) := hS.2.cell 0
            have HR2 := Lib.hid (range_below HRng.out hB (by simp))
            have HS := Lib.hid hS
            clear hB hS c0 c1
            go_wp2_with (first | (refine ip_fetch rfl _ rfl w.heap.size 2 p.v6 p.ip HIp.out rfl HR2.out ?_) | (refine any_build5 rfl _ rfl (ipc false z16) built_ip0 ?_))
            go_ret
            exact ⟨by rw [HRt.out]; rfl, HS.out.1⟩
          · rw [hz] at HNe HRt
            clear hz
            have hne := HNe.out
            rw [Bool.not_true] at hne
            by_cases h0 : p.kind = 0
            · have e0 : (p.kind != 0) = false := by rw [h0]; rfl
              have HF : Hid (rightPm p = decide (p.label = 0)) := Lib.hid (by rw [HRt.out, decide_eq_false (fun h => h h0)]; simp)
              have HD : Hid ((p.label == 0) = decide (p.label = 0)) := Lib.hid (by rw [Bool.eq_iff_iff]; simp)
              clear h0
              go_enter Tryz.func195, Tryz.ntmps195
              go_wp2_with fail
              refine (HK.out _).mono ?_
              rintro e w' ⟨rfl, rfl⟩
              go_wp2_with (refine ip_fetch rfl _ rfl w.heap.size 2 p.v6 p.ip HIp.out rfl HRng.out ?_)
              refine (HR.out _).mono ?_
              rintro e w2 ⟨rfl, hB⟩
              have hS := HB0.out.step hB
              have d0 : w2.cell? ⟨w.heap.size, 0, none⟩ = some (.int .i64 p.kind) := hS.2.cell 0
              have d1 : w2.cell? ⟨w.heap.size, 1, none⟩ = some (.int .u32 p.label) := hS.2.cell 1
              have HR2 := Lib.hid (range_below HRng.out hB (by simp))
              have HS := Lib.hid hS
              clear hB hS c0 c1
              go_wp2_with (first | (refine ip_fetch rfl _ rfl w.heap.size 2 p.v6 p.ip HIp.out rfl HR2.out ?_) | (refine any_build5 rfl _ rfl (ipc false z16) built_ip0 ?_))
              go_ret
              exact ⟨by rw [HF.out, ← HD.out]; rfl, HS.out.1⟩
            · have e0 : (p.kind != 0) = true := by rw [bne_iff_ne]; exact h0
              have HF : Hid (rightPm p = true) := Lib.hid (by rw [HRt.out, decide_eq_true h0]; simp)
              clear h0
              go_enter Tryz.func195, Tryz.ntmps195
              go_wp2_with fail
              refine (HK.out _).mono ?_
              rintro e w' ⟨rfl, rfl⟩
              go_wp2_with (refine ip_fetch rfl _ rfl w.heap.size 2 p.v6 p.ip HIp.out rfl HRng.out ?_)
              refine (HR.out _).mono ?_
              rintro e w2 ⟨rfl, hB⟩
              have hS := HB0.out.step hB
              have d0 : w2.cell? ⟨w.heap.size, 0, none⟩ = some (.int .i64 p.kind) := hS.2.cell 0
              have HR2 := Lib.hid (range_below HRng.out hB (by simp))
              have HS := Lib.hid hS
              clear hB hS c0 c1
              go_wp2_with (first | (refine ip_fetch rfl _ rfl w.heap.size 2 p.v6 p.ip HIp.out rfl HR2.out ?_) | (refine any_build5 rfl _ rfl (ipc false z16) built_ip0 ?_))
              go_ret
              exact ⟨by rw [HF.out]; rfl, HS.out.1⟩

/-- The box of attributes. -/
structure AtS (w W : World) (a : Att) (vp vc vm : Value) : Prop where
  low : Below w.heap.size w W
  bx : Blk W w.heap.size 31 (attV a vp vc vm).toArray
theorem AtS.step {w W W' : World} {a : Att} {vp vc vm : Value} (h : AtS w W a vp vc vm) (hB : Below W.heap.size W W') : AtS w W' a vp vc vm := ⟨h.low.trans (hB.mono h.low.size), h.bx.below hB h.bx.lt⟩
set_option maxHeartbeats 4000000 in
theorem isRight_is (w : World) (a : Att) (hf : AtFits a) (vp vc vm : Value) : Calls Tryz.prog 142 #[.agg (attV a vp vc vm).toArray] w (BoolPost w (rightAt a)) := by
  have HB0 : Hid (AtS w (w.alloc (.cells (attV a vp vc vm).toArray 31)) a vp vc vm) := Lib.hid ⟨(Below.refl w.heap.size w).alloc (Nat.le_refl _) _, Blk.new w 31 (attV a vp vc vm).toArray⟩
  have HO := Lib.hid (fun W => isOrigin_is W a.origin)
  have HP := Lib.hid (fun W => isRightPmsi_is W a.pm hf.label.1 hf.label.2 hf.ip hf.oct)
  have HIp := Lib.hid hf.ip
  have HRt : Hid (rightAt a = (decide (0 ≤ a.origin ∧ a.origin ≤ 2) && (rightPm a.pm && (a.hasMed || decide (a.med = 0))))) := Lib.hid (by unfold rightAt; simp only [Bool.decide_and, Bool.and_assoc])
  have HRng := Lib.hid (att_pm HB0.out.bx)
  obtain ⟨c0, _, c2, c3, _, _, _, _⟩ := att_cells HB0.out.bx
  clear hf
  generalize hz : attV a vp vc vm = z at *
  clear hz
  cases ho : decide (0 ≤ a.origin ∧ a.origin ≤ 2)
  · rw [ho] at HO HRt
    clear ho
    go_enter Tryz.func142, Tryz.ntmps142
    go_wp2_with fail
    refine (HO.out _).mono ?_
    rintro e w' ⟨rfl, rfl⟩
    go_wp2
    go_ret
    exact ⟨by rw [HRt.out]; rfl, HB0.out.low⟩
  · rw [ho] at HO HRt
    clear ho
    have key : ∀ (hm mz : Bool), a.hasMed = hm → (a.med == 0) = mz → Calls Tryz.prog 142 #[.agg z.toArray] w (BoolPost w (rightAt a)) := by
      intro hm mz h1 h2
      have HF : Hid (rightAt a = (rightPm a.pm && (hm || mz))) := Lib.hid (by
        rw [HRt.out, h1, ← h2, show decide (a.med = 0) = (a.med == 0) by rw [Bool.eq_iff_iff]; simp]
        rfl)
      rw [h1] at c2
      cases hp : rightPm a.pm
      · rw [hp] at HP HF
        clear hp h1 h2
        go_enter Tryz.func142, Tryz.ntmps142
        go_wp2_with fail
        refine (HO.out _).mono ?_
        rintro e w' ⟨rfl, rfl⟩
        go_wp2_with (refine pm_fetch rfl _ rfl w.heap.size 8 a.pm HIp.out rfl HRng.out ?_)
        refine (HP.out _).mono ?_
        rintro e w2 ⟨rfl, hB⟩
        have HS := Lib.hid (HB0.out.step hB)
        clear hB
        go_wp2
        go_ret
        exact ⟨by rw [HF.out]; rfl, HS.out.low⟩
      · rw [hp] at HP HF
        clear hp
        cases hm
        · clear h1
          go_enter Tryz.func142, Tryz.ntmps142
          go_wp2_with fail
          refine (HO.out _).mono ?_
          rintro e w' ⟨rfl, rfl⟩
          go_wp2_with (refine pm_fetch rfl _ rfl w.heap.size 8 a.pm HIp.out rfl HRng.out ?_)
          refine (HP.out _).mono ?_
          rintro e w2 ⟨rfl, hB⟩
          have d2 : w2.cell? ⟨w.heap.size, 2, none⟩ = some (.bool false) := (hB.cell (p := ⟨w.heap.size, 2, none⟩) (by simp)).trans c2
          have d3 : w2.cell? ⟨w.heap.size, 3, none⟩ = some (.int .u32 a.med) := (hB.cell (p := ⟨w.heap.size, 3, none⟩) (by simp)).trans c3
          have HS := Lib.hid (HB0.out.step hB)
          clear hB c0 c2 c3
          go_wp2
          go_ret
          exact ⟨by rw [HF.out]; rfl, HS.out.low⟩
        · clear h1 h2
          go_enter Tryz.func142, Tryz.ntmps142
          go_wp2_with fail
          refine (HO.out _).mono ?_
          rintro e w' ⟨rfl, rfl⟩
          go_wp2_with (refine pm_fetch rfl _ rfl w.heap.size 8 a.pm HIp.out rfl HRng.out ?_)
          refine (HP.out _).mono ?_
          rintro e w2 ⟨rfl, hB⟩
          have d2 : w2.cell? ⟨w.heap.size, 2, none⟩ = some (.bool true) := (hB.cell (p := ⟨w.heap.size, 2, none⟩) (by simp)).trans c2
          have HS := Lib.hid (HB0.out.step hB)
          clear hB c0 c2 c3
          go_wp2
          go_ret
          exact ⟨by rw [HF.out]; rfl, HS.out.low⟩
    exact key _ _ rfl rfl
end Go.Proofs.YtdgoeibfggjbmaaGreatDoor
namespace Go.Proofs.YtdgoeibfggjbmaaGreatDoor
open Go.RowKit
set_option maxRecDepth 100000
set_option linter.unusedSimpArgs false
set_option linter.unusedVariables false

theorem att_fetch5 {ops : Array Oper} {rest : List Oper} {op : Oper} {a : Act} {w : World} {Q : Exit → Act → World → Prop} (hw : Region.wanted op (yielded ops a.tmps) = true) (x : Operand) (ho : op.op = .load 31 x)
    (g : Nat) (cs : List Value) (hl : cs.length = 27) (hx : a.eval x = .pointer (some ⟨g, 0, none⟩)) (hc : w.rangeAt g 0 cs) (h : wpList Tryz.prog ops Q rest (a.put op.dst (.agg cs.toArray)) w) : wpList Tryz.prog ops Q (op :: rest) a w :=
  BigFrame.wpList_want hw fun _ hK => wp_load_mid 31 x ho g 0 hx cs _ hc Tryz.underlying31 rfl (by rw [asz, hl]) (hK _ _ h)
theorem fill_raw1 (f k : Int) (A : Option Addr) (n c : Nat) : Instr.fill (fun i => some (i * 3, 3)) ((Array.range (1 * 3)).map ((Value.agg #[Value.int IntKind.i64 0, Value.int IntKind.i64 0, Value.slice none 0 0]).cells[· % (Value.agg #[Value.int IntKind.i64 0, Value.int IntKind.i64 0, Value.slice none 0 0]).cells.size]!)) [(0, Value.agg #[.int .i64 f, .int .i64 k, .slice A n c])] = some #[.int .i64 f, .int .i64 k, .slice A n c] := by kernel_rfl
theorem fill_raw2 (f k f2 k2 : Int) (A A2 : Option Addr) (n c n2 c2 : Nat) : Instr.fill (fun i => some (i * 3, 3)) ((Array.range (2 * 3)).map ((Value.agg #[Value.int IntKind.i64 0, Value.int IntKind.i64 0, Value.slice none 0 0]).cells[· % (Value.agg #[Value.int IntKind.i64 0, Value.int IntKind.i64 0, Value.slice none 0 0]).cells.size]!)) [(0, Value.agg #[.int .i64 f, .int .i64 k, .slice A n c]), (1, Value.agg #[.int .i64 f2, .int .i64 k2, .slice A2 n2 c2])] = some #[.int .i64 f, .int .i64 k, .slice A n c, .int .i64 f2, .int .i64 k2, .slice A2 n2 c2] := by kernel_rfl
theorem one_raw {ops : Array Oper} {rest : List Oper} {o : Oper} {a : Act} {w : World} {Q : Exit → Act → World → Prop} (hg : o.guard = none) (x : Operand) (ho : o.op = .buildSlice 64 1 #[(0, x)]) (f k : Int) (A : Option Addr) (n c : Nat) (hx : a.eval x = .agg #[.int .i64 f, .int .i64 k, .slice A n c])
    (h : wpList Tryz.prog ops Q rest (a.put o.dst (.slice (some ⟨w.heap.size, 0, none⟩) 1 1)) (w.alloc (.cells #[.int .i64 f, .int .i64 k, .slice A n c] 67))) : wpList Tryz.prog ops Q (o :: rest) a w := by
  refine wpList_plain hg fun _ hK => ?_
  obtain ⟨i, hi, hz0, hz1, hz2⟩ := info_parts info_raw
  refine wp_buildSlice 64 67 1 _ ho _ i _ Tryz.underlying64 hi hz0 (by rw [hz1]; decide) (by rw [hz1]; decide) ?_ (hK _ _ h)
  have he : (#[(0, x)].map fun (i, x) => (i, a.eval x)).toList = [(0, .agg #[.int .i64 f, .int .i64 k, .slice A n c])] := by simp [hx]
  rw [he, hz1]
  exact fill_raw1 f k A n c
theorem two_raws {o : Oper} {a : Act} {w : World} {K : Act → World → Prop} {Q : Exit → Act → World → Prop} (x y : Operand) (ho : o.op = .buildSlice 64 2 #[(0, x), (1, y)]) (f k f2 k2 : Int) (A A2 : Option Addr) (n c n2 c2 : Nat)
    (hx : a.eval x = .agg #[.int .i64 f, .int .i64 k, .slice A n c]) (hy : a.eval y = .agg #[.int .i64 f2, .int .i64 k2, .slice A2 n2 c2])
    (h : K (a.put o.dst (.slice (some ⟨w.heap.size, 0, none⟩) 2 2)) (w.alloc (.cells #[.int .i64 f, .int .i64 k, .slice A n c, .int .i64 f2, .int .i64 k2, .slice A2 n2 c2] 67))) : o.wp Tryz.prog a w K Q := by
  obtain ⟨i, hi, hz0, hz1, hz2⟩ := info_parts info_raw
  refine wp_buildSlice 64 67 2 _ ho _ i _ Tryz.underlying64 hi hz0 (by rw [hz1]; decide) (by rw [hz1]; decide) ?_ h
  have he : (#[(0, x), (1, y)].map fun (i, x) => (i, a.eval x)).toList = [(0, .agg #[.int .i64 f, .int .i64 k, .slice A n c]), (1, .agg #[.int .i64 f2, .int .i64 k2, .slice A2 n2 c2])] := by simp [hx, hy]
  rw [he, hz1]
  exact fill_raw2 f k f2 k2 A A2 n c n2 c2
theorem own_w2 {lo : Nat} {w : World} (hlo : lo ≤ w.heap.size) {f k f2 k2 : Int} {A A2 : Option Addr} {n c n2 c2 : Nat} {l l2 : List Int} (h1 : BodyT 67 lo w A n l) (h2 : BodyT 67 lo w A2 n2 l2) :
    OwnW lo (w.alloc (.cells #[.int .i64 f, .int .i64 k, .slice A n c, .int .i64 f2, .int .i64 k2, .slice A2 n2 c2] 67)) (.slice (some ⟨w.heap.size, 0, none⟩) 2 2) [(f, k, l), (f2, k2, l2)] := by
  have hal : Below w.heap.size w (w.alloc (.cells #[.int .i64 f, .int .i64 k, .slice A n c, .int .i64 f2, .int .i64 k2, .slice A2 n2 c2] 67)) := (Below.refl _ _).alloc (Nat.le_refl _) _
  exact ⟨[.int .i64 f, .int .i64 k, .slice A n c] ++ [.int .i64 f2, .int .i64 k2, .slice A2 n2 c2], ⟨rfl, .inr ⟨w.heap.size, 2, _, rfl, hlo, Blk.new w 67 _, Nat.le_refl _, by unfold maxLen; omega, rfl, rfl⟩⟩, (Rs.one (h1.below hal)).app (Rs.one (h2.below hal))⟩
theorem rdl_one {lo : Nat} {w : World} {A : Option Addr} {n c : Nat} {l : List Int} (h : BodyT 38 lo w A n l) : RdL (w.alloc (.cells #[.slice A n c] 38)) (w.alloc (.cells #[.slice A n c] 38)).heap.size (some ⟨w.heap.size, 0, none⟩) 1 [l] := by
  have hal : Below w.heap.size w (w.alloc (.cells #[.slice A n c] 38)) := (Below.refl _ _).alloc (Nat.le_refl _) _
  refine ⟨rfl, fun _ => ⟨w.heap.size, 0, rfl, by simp, fun i hi => ?_⟩⟩
  obtain rfl : i = 0 := by simp at hi; omega
  exact ⟨A, n, c, (Blk.new w 38 #[.slice A n c]).cell 0, (h.below hal).rd⟩

/-- The memory of Write: the attributes' box, the table, what is written so far. -/
structure WrC (w W : World) (z : List Value) (v : Value) (T : List Raw) (m : Nat) : Prop where
  low : Below w.heap.size w W
  bx : Blk W w.heap.size 31 z.toArray
  env : EnvK W
  own : OwnW (w.heap.size + 1) W v T
  len : T.length ≤ m
structure WrB (w W : World) (z : List Value) : Prop where
  low : Below w.heap.size w W
  bx : Blk W w.heap.size 31 z.toArray
  env : EnvK W
theorem WrB.step {w W W' : World} {z : List Value} (h : WrB w W z) (hB : Below W.heap.size W W') : WrB w W' z := ⟨h.low.trans (hB.mono h.low.size), h.bx.below hB h.bx.lt, h.env.below hB⟩
theorem WrC.step {w W W' : World} {z : List Value} {v : Value} {T : List Raw} {m : Nat} (h : WrC w W z v T m) (hB : Below W.heap.size W W') : WrC w W' z v T m := ⟨h.low.trans (hB.mono h.low.size), h.bx.below hB h.bx.lt, h.env.below hB, h.own.below hB, h.len⟩
theorem WrC.lt {w W : World} {z : List Value} {v : Value} {T : List Raw} {m : Nat} (h : WrC w W z v T m) : w.heap.size < W.heap.size := h.bx.lt
theorem WrC.app {w W W' : World} {z : List Value} {v v' : Value} {T : List Raw} {m : Nat} {r : Raw} (h : WrC w W z v T m) (hp : 0 < w.heap.size) (ho : OwnW (w.heap.size + 1) W' v' (T ++ [r])) (hB : Below (w.heap.size + 1) W W') : WrC w W' z v' (T ++ [r]) (m + 1) :=
  ⟨h.low.trans (hB.mono (by omega)), h.bx.below hB (by omega), h.env.low hB (by omega), ho, by have := h.len; simp; omega⟩
theorem WrC.none_ {w W : World} {z : List Value} {v : Value} {T : List Raw} {m : Nat} (h : WrC w W z v T m) (r : Raw) : WrC w W z v (T ++ opt false r) (m + 1) := ⟨h.low, h.bx, h.env, by simpa [opt] using h.own, by have := h.len; simp [opt]; omega⟩
def WritePost (w : World) (a : Att) (e : Ending) (w' : World) : Prop :=
  Below w.heap.size w w' ∧ if writeE a = 0 then ∃ v, e = .returned (.tuple #[v, .int .i64 0]) ∧ OwnW w.heap.size w' v (writeR a) else e = .returned (.tuple #[.slice none 0 0, .int .i64 (writeE a)])

set_option maxHeartbeats 4000000 in
theorem write_bad (w : World) (a : Att) (hf : AtFits a) (vp vc vm : Value) (hr : rightAt a = false) : Calls Tryz.prog 90 #[.agg (attV a vp vc vm).toArray] w (WritePost w a) := by
  have hbx := Blk.new w 31 (attV a vp vc vm).toArray
  have HRng := Lib.hid (Blk.range hbx)
  have HZ := Lib.hid (attV_len a vp vc vm hf.ip)
  have HI := Lib.hid (fun W => isRight_is W a hf vp vc vm)
  have HB0 : Hid (Below w.heap.size w (w.alloc (.cells (attV a vp vc vm).toArray 31))) := Lib.hid ((Below.refl w.heap.size w).alloc (Nat.le_refl _) _)
  have HF : Hid (writeE a = 2) := Lib.hid (by unfold writeE; rw [if_pos hr])
  rw [hr] at HI
  generalize hz : attV a vp vc vm = z at *
  clear hz hbx hf hr
  go_enter Tryz.func90, Tryz.ntmps90
  go_wp2_with (refine att_fetch5 rfl _ rfl w.heap.size z HZ.out rfl HRng.out ?_)
  refine (HI.out _).mono ?_
  rintro e w2 ⟨rfl, hB⟩
  have HB := Lib.hid (HB0.out.trans (hB.mono HB0.out.size))
  clear hB
  go_wp2
  go_ret2
  exact ⟨HB.out, by rw [HF.out]; rfl⟩
set_option maxHeartbeats 4000000 in
theorem write_long (w : World) (a : Att) (hf : AtFits a) (Ap Ac Am : Option Addr) (cp cc cm : Nat) (hr : rightAt a = true) (hl : 255 < a.path.length ∨ 255 < a.clus.length ∨ 255 < a.comms.length) :
    Calls Tryz.prog 90 #[.agg (attV a (.slice Ap a.path.length cp) (.slice Ac a.clus.length cc) (.slice Am a.comms.length cm)).toArray] w (WritePost w a) := by
  have hbx := Blk.new w 31 (attV a (.slice Ap a.path.length cp) (.slice Ac a.clus.length cc) (.slice Am a.comms.length cm)).toArray
  have HRng := Lib.hid (Blk.range hbx)
  have HC := Lib.hid (fun W (h : Blk W w.heap.size 31 (attV a (.slice Ap a.path.length cp) (.slice Ac a.clus.length cc) (.slice Am a.comms.length cm)).toArray) => att_cells h)
  have HZ := Lib.hid (attV_len a (.slice Ap a.path.length cp) (.slice Ac a.clus.length cc) (.slice Am a.comms.length cm) hf.ip)
  have HI := Lib.hid (fun W => isRight_is W a hf (.slice Ap a.path.length cp) (.slice Ac a.clus.length cc) (.slice Am a.comms.length cm))
  have HB0 : Hid (Below w.heap.size w (w.alloc (.cells (attV a (.slice Ap a.path.length cp) (.slice Ac a.clus.length cc) (.slice Am a.comms.length cm)).toArray 31))) := Lib.hid ((Below.refl w.heap.size w).alloc (Nat.le_refl _) _)
  have HF : Hid (writeE a = 5) := Lib.hid (by unfold writeE; rw [if_neg (by rw [hr]; decide), if_pos hl])
  rw [hr] at HI
  generalize hz : attV a (.slice Ap a.path.length cp) (.slice Ac a.clus.length cc) (.slice Am a.comms.length cm) = z at *
  have HBx := Lib.hid hbx
  have hl' : (255 < (a.path.length : Int)) ∨ (¬ (255 < (a.path.length : Int)) ∧ 255 < (a.clus.length : Int)) ∨ (¬ (255 < (a.path.length : Int)) ∧ ¬ (255 < (a.clus.length : Int)) ∧ 255 < (a.comms.length : Int)) := by omega
  clear hz hbx hf hr hl
  have step : ∀ (_ : True), (∀ w2, Below (w.alloc (.cells z.toArray 31)).heap.size (w.alloc (.cells z.toArray 31)) w2 → Blk w2 w.heap.size 31 z.toArray) := fun _ w2 hB => HBx.out.below hB (by simp)
  have HSt := Lib.hid step
  clear step
  rcases hl' with h1 | ⟨h1, h2⟩ | ⟨h1, h2, h3⟩
  · have t1 : decide (255 < (a.path.length : Int)) = true := decide_eq_true h1
    go_enter Tryz.func90, Tryz.ntmps90
    go_wp2_with (refine att_fetch5 rfl _ rfl w.heap.size z HZ.out rfl HRng.out ?_)
    refine (HI.out _).mono ?_
    rintro e w2 ⟨rfl, hB⟩
    have HB := Lib.hid (HB0.out.trans (hB.mono HB0.out.size))
    obtain ⟨_, d1, _, _, _, _, d6, d7⟩ := HC.out w2 (HSt.out trivial w2 hB)
    clear hB
    go_wp2
    go_ret2
    exact ⟨HB.out, by rw [HF.out]; rfl⟩
  · have t1 : decide (255 < (a.path.length : Int)) = false := decide_eq_false h1
    have t2 : decide (255 < (a.clus.length : Int)) = true := decide_eq_true h2
    go_enter Tryz.func90, Tryz.ntmps90
    go_wp2_with (refine att_fetch5 rfl _ rfl w.heap.size z HZ.out rfl HRng.out ?_)
    refine (HI.out _).mono ?_
    rintro e w2 ⟨rfl, hB⟩
    have HB := Lib.hid (HB0.out.trans (hB.mono HB0.out.size))
    obtain ⟨_, d1, _, _, _, _, d6, d7⟩ := HC.out w2 (HSt.out trivial w2 hB)
    clear hB
    go_wp2
    go_ret2
    exact ⟨HB.out, by rw [HF.out]; rfl⟩
  · have t1 : decide (255 < (a.path.length : Int)) = false := decide_eq_false h1
    have t2 : decide (255 < (a.clus.length : Int)) = false := decide_eq_false h2
    have t3 : decide (255 < (a.comms.length : Int)) = true := decide_eq_true h3
    go_enter Tryz.func90, Tryz.ntmps90
    go_wp2_with (refine att_fetch5 rfl _ rfl w.heap.size z HZ.out rfl HRng.out ?_)
    refine (HI.out _).mono ?_
    rintro e w2 ⟨rfl, hB⟩
    have HB := Lib.hid (HB0.out.trans (hB.mono HB0.out.size))
    obtain ⟨_, d1, _, _, _, _, d6, d7⟩ := HC.out w2 (HSt.out trivial w2 hB)
    clear hB
    go_wp2
    go_ret2
    exact ⟨HB.out, by rw [HF.out]; rfl⟩
end Go.Proofs.YtdgoeibfggjbmaaGreatDoor
namespace Go.Proofs.YtdgoeibfggjbmaaGreatDoor
open Go.RowKit
set_option maxRecDepth 100000
set_option linter.unusedSimpArgs false
set_option linter.unusedVariables false

theorem below_drew5 (W : World) : Below W.heap.size W W.drew := below_drewN (Below.refl _ _) 1
theorem below_one5 (W : World) (o : Obj) : Below W.heap.size W (W.alloc o) := (Below.refl _ _).alloc (Nat.le_refl _) _
theorem pmW_len (p : Pm) (h : p.ip.length = 16) : (pmW p).length ≤ 100000000 := by unfold pmW; split <;> simp [be_len, h] <;> omega
def pathL (l : List Int) : List (List Int) := if l = [] then [] else [2, (l.length : Int)] :: enc4 l
theorem pathL_flat (l : List Int) : (pathL l).flatten = pathW l := by
  unfold pathL pathW
  split
  · rfl
  · rw [List.flatten_cons, enc4_flat]
theorem pathL_len (l : List Int) (h : l.length ≤ 255) : (pathL l).length ≤ 1000 := by unfold pathL; split <;> simp [enc4_len] <;> omega
theorem pathW_len (l : List Int) (h : l.length ≤ 255) : (pathW l).length ≤ 2000 := by unfold pathW; split <;> simp [encN_len] <;> omega
theorem pathParts_is (w : World) (A : Option Addr) (c : Nat) (l : List Int) (hr : RdN w w.heap.size A l.length l) (hU : ∀ x ∈ l, 0 ≤ x ∧ x ≤ 4294967295) (hn : l.length ≤ 255) : Calls Tryz.prog 145 #[.slice A l.length c] w (PartsPost w (pathL l)) := by
  unfold pathL
  split
  · rename_i h
    subst h
    exact pathParts_nil w A c
  · rename_i h
    exact pathParts_go w A l.length c l hr hU hn (List.length_pos_iff.2 h)
theorem made_as (w : World) (E : EnvK w) (k f cl : Int) (hb : bnd k = some (f, cl)) (hf : f = 64 ∨ f = 128 ∨ f = 192) (A : Option Addr) (n c : Nat) (ls : List (List Int)) (hr : RdL w w.heap.size A n ls) (hn : n ≤ 1000000) (v : List Int) (hv : ls.flatten = v) (hl : v.length ≤ 100000000) :
    Calls Tryz.prog 143 #[.int .i64 k, .slice A n c] w (MadePost w f k v) := by
  subst hv
  exact made_is w E k f cl hb hf A n c ls hr hn hl

set_option maxHeartbeats 32000000 in
set_option maxRecDepth 100000 in
theorem write_go (w : World) (E : EnvK w) (a : Att) (hf : AtFits a) (Ap Ac Am : Option Addr) (cp cc cm : Nat) (hp : RdN w w.heap.size Ap a.path.length a.path) (hc : RdN w w.heap.size Ac a.clus.length a.clus) (hm : RdC w w.heap.size Am a.comms.length a.comms)
    (hr : rightAt a = true) (h1 : a.path.length ≤ 255) (h2 : a.clus.length ≤ 255) (h3 : a.comms.length ≤ 255) :
    Calls Tryz.prog 90 #[.agg (attV a (.slice Ap a.path.length cp) (.slice Ac a.clus.length cc) (.slice Am a.comms.length cm)).toArray] w (WritePost w a) := by
  have hbx := Blk.new w 31 (attV a (.slice Ap a.path.length cp) (.slice Ac a.clus.length cc) (.slice Am a.comms.length cm)).toArray
  have HRng := Lib.hid (Blk.range hbx)
  have HC := Lib.hid (fun W (h : Blk W w.heap.size 31 (attV a (.slice Ap a.path.length cp) (.slice Ac a.clus.length cc) (.slice Am a.comms.length cm)).toArray) => att_cells h)
  have HPm := Lib.hid (fun W (h : Blk W w.heap.size 31 (attV a (.slice Ap a.path.length cp) (.slice Ac a.clus.length cc) (.slice Am a.comms.length cm)).toArray) => att_pm h)
  have HZ := Lib.hid (attV_len a (.slice Ap a.path.length cp) (.slice Ac a.clus.length cc) (.slice Am a.comms.length cm) hf.ip)
  have HI := Lib.hid (fun W => isRight_is W a hf (.slice Ap a.path.length cp) (.slice Ac a.clus.length cc) (.slice Am a.comms.length cm))
  have HF : Hid (writeE a = 0) := Lib.hid (by unfold writeE; rw [if_neg (by rw [hr]; decide), if_neg (by omega)])
  have HR := Lib.hid (right_parts hr)
  have HQ := Lib.hid (pm_parts hr)
  have HT := Lib.hid hf
  rw [hr] at HI
  generalize hz : attV a (.slice Ap a.path.length cp) (.slice Ac a.clus.length cc) (.slice Am a.comms.length cm) = z at *
  clear hz
  have HB0 : Hid (WrB w (w.alloc (.cells z.toArray 31)) z) := Lib.hid (by
    have hal : Below w.heap.size w (w.alloc (.cells z.toArray 31)) := (Below.refl w.heap.size w).alloc (Nat.le_refl _) _
    exact ⟨hal, hbx, E.below hal⟩)
  have HP := Lib.hid hp
  have HCl := Lib.hid hc
  have HCm := Lib.hid hm
  have HPos := Lib.hid E.lt
  have HW : Hid (((((([rawW 64 1 [a.origin], rawW 64 2 (pathW a.path)] ++ opt a.hasMed (rawW 128 4 (be 4 a.med))) ++ [rawW 64 5 (be 4 a.pref)]) ++ opt (decide (a.orr ≠ 0)) (rawW 128 9 (be 4 a.orr))) ++ opt (decide (a.clus ≠ [])) (rawW 128 10 (encN a.clus))) ++ opt (decide (a.comms ≠ [])) (rawW 192 16 a.comms.flatten)) ++ opt (decide (a.pm.kind ≠ 0)) (rawW 192 22 (pmW a.pm)) = writeR a) := Lib.hid (by unfold writeR; simp only [List.append_assoc])
  obtain ⟨n6, hn6⟩ : ∃ n, n = a.clus.length := ⟨_, rfl⟩
  obtain ⟨n7, hn7⟩ : ∃ n, n = a.comms.length := ⟨_, rfl⟩
  obtain ⟨cf, hcf⟩ : ∃ n, n = a.comms.flatten := ⟨_, rfl⟩
  have HCfl : Hid (cf.length ≤ 100000000) := Lib.hid (by rw [hcf, (cmms_enc a.comms HT.out.comms).2]; omega)
  rw [← hn6, ← hn7] at HC
  rw [← hn6] at HCl h2
  rw [← hn7] at HCm h3
  rw [← hcf] at HW
  have HN6 := Lib.hid hn6
  have HN7 := Lib.hid hn7
  have HCf := Lib.hid hcf
  clear hn6 hn7 hcf
  have t1 : decide (255 < (a.path.length : Int)) = false := decide_eq_false (by omega)
  have t2 : decide (255 < (n6 : Int)) = false := decide_eq_false (by omega)
  have t3 : decide (255 < (n7 : Int)) = false := decide_eq_false (by omega)
  clear hbx hf hr E hp hc hm
  go_enter Tryz.func90, Tryz.ntmps90
  go_wp2_with (refine att_fetch5 rfl _ rfl w.heap.size z HZ.out rfl HRng.out ?_)
  refine (HI.out _).mono ?_
  rintro e w2 ⟨rfl, hB⟩
  have HB := Lib.hid (HB0.out.step hB)
  obtain ⟨d0, d1, d2, d3, d4, d5, d6, d7⟩ := HC.out w2 HB.out.bx
  clear hB HB0 HRng HI
  go_wp2_with fail
  clear d0 d1 d2 d3 d4 d5 d6 d7 t1 t2 t3
  refine wp_region_held_drew (S := fun W => WrB w W z) (by kernel_rfl) (HB.out.step (below_drew5 w2)) (fun hS => ?_)
  refine wpAnyH_take (i := 0) (oi := ⟨some 24, _, _, _, _, _⟩) (v := ?_) rfl (by kernel_rfl) (by kernel_rfl) (by kernel_rfl) (fun _ _ _ h => h) (Or.inl ⟨by rfl, ?_⟩) hS ?_
  rotate_left
  · intro wq hq
    first | (go_simp; done) | (go_simp; rfl)
  try simp only [Act.put, List.setIfInBounds_toArray, List.set_cons_zero, List.set_cons_succ]
  refine wpAnyH_take (i := 1) (oi := ⟨some 25, _, _, _, _, _⟩) (v := ?_) rfl (by kernel_rfl) (by kernel_rfl) (by kernel_rfl) (fun _ _ _ h => h) (Or.inl ⟨by rfl, ?_⟩) hS ?_
  rotate_left
  · intro wq hq
    obtain ⟨d0, _⟩ := HC.out wq hq.bx
    first | (go_simp; done) | (go_simp; rfl)
  try simp only [Act.put, List.setIfInBounds_toArray, List.set_cons_zero, List.set_cons_succ]
  refine wpAnyH_take (i := 5) (oi := ⟨some 29, _, _, _, _, _⟩) (v := ?_) rfl (by kernel_rfl) (by kernel_rfl) (by kernel_rfl) (fun _ _ _ h => h) (Or.inl ⟨by rfl, ?_⟩) hS ?_
  rotate_left
  · intro wq hq
    first | (go_simp; done) | (go_simp; rfl)
  try simp only [Act.put, List.setIfInBounds_toArray, List.set_cons_zero, List.set_cons_succ]
  refine wpAnyH_take (i := 6) (oi := ⟨some 30, _, _, _, _, _⟩) (v := ?_) rfl (by kernel_rfl) (by kernel_rfl) (by kernel_rfl) (fun _ _ _ h => h) (Or.inl ⟨by rfl, ?_⟩) hS ?_
  rotate_left
  · intro wq hq
    obtain ⟨_, d1, _⟩ := HC.out wq hq.bx
    first | (go_simp; done) | (go_simp; rfl)
  try simp only [Act.put, List.setIfInBounds_toArray, List.set_cons_zero, List.set_cons_succ]
  generalize w2.drew = W0 at *
  clear HB
  refine wpAnyH_ready (rs := [2]) (by kernel_rfl) (by simp) ?_
  refine AllReadyH.cons (o := ⟨some 26, _, _, _, _, _⟩) rfl (fun K hK => ?_) AllReadyH.nil
  rw [if_pos (by rfl)]
  go_wp2_with fail
  refine (numI_is W0 a.origin 1 HR.out.1 (by omega) (by omega) (by have := HR.out.2.1; omega) (by have := HR.out.2.1; omega)).mono ?_
  intro e W1 hp
  obtain ⟨rfl, b1, hB⟩ := hp.body (lo := w.heap.size + 1) hS.bx.lt
  have hSn := hS.step hB
  clear hp hB hS
  refine hK.out _ _ (hSn) (fun hS => ?_)
  clear hK K
  try simp only [Act.put, List.setIfInBounds_toArray, List.set_cons_zero, List.set_cons_succ]
  clear hSn
  refine wpAnyH_ready (rs := [3]) (by kernel_rfl) (by simp) ?_
  refine AllReadyH.cons (o := ⟨some 27, _, _, _, _, _⟩) rfl (fun K hK => ?_) AllReadyH.nil
  rw [if_pos (by rfl)]
  go_wp2
  have hl1 := rdl_one (c := 1) b1
  have hSn := hS.step (below_one5 W1 (.cells #[.slice (some ⟨W0.heap.size, 0, none⟩) 1 1] 38))
  clear hS b1
  refine hK.out _ _ (hSn) (fun hS => ?_)
  clear hK K
  try simp only [Act.put, List.setIfInBounds_toArray, List.set_cons_zero, List.set_cons_succ]
  clear hSn
  generalize (W1.alloc (.cells #[.slice (some ⟨W0.heap.size, 0, none⟩) 1 1] 38)) = W2 at *
  refine wpAnyH_ready (rs := [4]) (by kernel_rfl) (by simp) ?_
  refine AllReadyH.cons (o := ⟨some 28, _, _, _, _, _⟩) rfl (fun K hK => ?_) AllReadyH.nil
  rw [if_pos (by rfl)]
  go_wp2_with fail
  refine (made_as W2 hS.env 1 64 2 rfl (by omega) _ 1 1 _ hl1 (by omega) [a.origin] (by rw [be_num1 _ ⟨HR.out.1, by have := HR.out.2.1; omega⟩]; rfl) (by simp)).mono ?_
  rintro e W3 ⟨A1, c1, rfl, b1, hB⟩
  have b1' := b1.low (lo' := w.heap.size + 1) hS.bx.lt
  have hSn := hS.step hB
  clear hB hS hl1 b1
  refine hK.out _ _ (hSn) (fun hS => ?_)
  clear hK K
  try simp only [Act.put, List.setIfInBounds_toArray, List.set_cons_zero, List.set_cons_succ]
  clear hSn
  refine wpAnyH_ready (rs := [7]) (by kernel_rfl) (by simp) ?_
  refine AllReadyH.cons (o := ⟨some 31, _, _, _, _, _⟩) rfl (fun K hK => ?_) AllReadyH.nil
  rw [if_pos (by rfl)]
  go_wp2_with fail
  refine (pathParts_is W3 Ap cp a.path ((HP.out.below hS.low).more hS.low.size) HT.out.path h1).mono ?_
  rintro e W4 ⟨v2, rfl, ho, hB⟩
  obtain ⟨A2, c2, rfl, hl2⟩ := ho.rd
  have b1 := b1'.below hB
  have hSn := hS.step hB
  clear hB hS b1' ho
  refine hK.out _ _ (hSn) (fun hS => ?_)
  clear hK K
  try simp only [Act.put, List.setIfInBounds_toArray, List.set_cons_zero, List.set_cons_succ]
  clear hSn
  refine wpAnyH_ready (rs := [8]) (by kernel_rfl) (by simp) ?_
  refine AllReadyH.cons (o := ⟨some 32, _, _, _, _, _⟩) rfl (fun K hK => ?_) AllReadyH.nil
  rw [if_pos (by rfl)]
  go_wp2_with fail
  refine (made_as W4 hS.env 2 64 2 rfl (by omega) _ _ c2 _ hl2 (by have := pathL_len a.path h1; omega) (pathW a.path) (pathL_flat _) (by have := pathW_len a.path h1; omega)).mono ?_
  rintro e W5 ⟨A3, c3, rfl, b2, hB⟩
  have b2' := b2.low (lo' := w.heap.size + 1) hS.bx.lt
  have b1' := b1.below hB
  have hSn := hS.step hB
  clear hB hS hl2 b1 b2
  refine hK.out _ _ (hSn) (fun hS => ?_)
  clear hK K
  try simp only [Act.put, List.setIfInBounds_toArray, List.set_cons_zero, List.set_cons_succ]
  clear hSn
  refine wpAnyH_ready (rs := [9]) (by kernel_rfl) (by simp) ?_
  refine AllReadyH.cons (o := ⟨some 33, _, _, _, _, _⟩) rfl (fun K hK => ?_) AllReadyH.nil
  rw [if_pos (by rfl)]
  refine two_raws _ _ rfl (lfl 64 [a.origin]) 1 (lfl 64 (pathW a.path)) 2 A1 A3 [a.origin].length c1 (pathW a.path).length c3 rfl rfl ?_
  have hw2 := own_w2 (f := lfl 64 [a.origin]) (k := 1) (f2 := lfl 64 (pathW a.path)) (k2 := 2) (c := c1) (c2 := c3) hS.bx.lt b1' b2'
  have hSn := hS.step (below_one5 W5 (.cells #[.int .i64 (lfl 64 [a.origin]), .int .i64 1, .slice A1 [a.origin].length c1, .int .i64 (lfl 64 (pathW a.path)), .int .i64 2, .slice A3 (pathW a.path).length c3] 67))
  clear hS b1' b2'
  refine hK.out _ _ (hSn) (fun hS => ?_)
  clear hK K
  try simp only [Act.put, List.setIfInBounds_toArray, List.set_cons_zero, List.set_cons_succ]
  clear hSn
  refine wpAnyH_take (i := 10) (oi := ⟨some 4, _, _, _, _, _⟩) (v := ?_) rfl (by kernel_rfl) (by kernel_rfl) (by kernel_rfl) (fun _ _ _ h => h) (Or.inl ⟨by rfl, ?_⟩) hS ?_
  rotate_left
  · intro wq hq
    first | (go_simp; done) | (go_simp; rfl)
  try simp only [Act.put, List.setIfInBounds_toArray, List.set_cons_zero, List.set_cons_succ]
  refine wpAnyH_done (by kernel_rfl) ?_ _
  have HS : Hid (WrC w (W5.alloc (.cells #[.int .i64 (lfl 64 [a.origin]), .int .i64 1, .slice A1 [a.origin].length c1, .int .i64 (lfl 64 (pathW a.path)), .int .i64 2, .slice A3 (pathW a.path).length c3] 67)) z (.slice (some ⟨W5.heap.size, 0, none⟩) 2 2) [rawW 64 1 [a.origin], rawW 64 2 (pathW a.path)] 2) := Lib.hid ⟨hS.low, hS.bx, hS.env, hw2, Nat.le_refl _⟩
  clear hw2 hS
  generalize (W5.alloc (.cells #[.int .i64 (lfl 64 [a.origin]), .int .i64 1, .slice A1 [a.origin].length c1, .int .i64 (lfl 64 (pathW a.path)), .int .i64 2, .slice A3 (pathW a.path).length c3] 67)) = V0 at *
  generalize Value.slice (some ⟨W5.heap.size, 0, none⟩) 2 2 = s0 at *
  generalize [rawW 64 1 [a.origin], rawW 64 2 (pathW a.path)] = T0 at *
  obtain ⟨d0, d1, d2, d3, d4, d5, d6, d7⟩ := HC.out V0 HS.out.bx
  have d8 : V0.cell? ⟨w.heap.size, 8, none⟩ = some (.int .i64 a.pm.kind) := HPm.out V0 HS.out.bx 0 _ rfl
  go_upto_if 35 with fail
  go_cut [4] (fun s4 wx => WrC w wx z s4 (T0 ++ opt a.hasMed (rawW 128 4 (be 4 a.med))) 3)
  case first =>
    rcases (show a.hasMed = true ∨ a.hasMed = false by cases a.hasMed <;> simp) with hb | hb
    · skip
      have HO : Hid (T0 ++ opt a.hasMed (rawW 128 4 (be 4 a.med)) = T0 ++ [rawW 128 4 (be 4 a.med)]) := Lib.hid (by rw [hb]; rfl)
      rw [hb]
      clear d2 hb
      go_wp2_with fail
      refine (numU_is V0 a.med 4 HT.out.med.1 (by omega) (by omega) (by have := HT.out.med.2; omega) HT.out.med.2).mono ?_
      intro e X1 hp
      obtain ⟨rfl, b1, hB⟩ := hp.body (lo := w.heap.size + 1) HS.out.bx.lt
      have HS1 := Lib.hid ((HS.out.step hB).step (below_one5 X1 (.cells #[.slice (some ⟨V0.heap.size, 0, none⟩) 4 4] 38)))
      have HL1 := Lib.hid (rdl_one (c := 4) b1)
      clear hp hB b1
      go_wp2_with fail
      refine (made_as _ HS1.out.env 4 128 2 rfl (by omega) _ 1 1 _ HL1.out (by omega) (be 4 a.med) (by simp) (by simp [be_len])).mono ?_
      generalize (X1.alloc (.cells #[.slice (some ⟨V0.heap.size, 0, none⟩) 4 4] 38)) = X2 at *
      rintro e X3 ⟨A3, c3, rfl, b3, hB⟩
      have HBd := Lib.hid (b3.low (lo' := w.heap.size + 1) HS1.out.bx.lt)
      have HS2 := Lib.hid (HS1.out.step hB)
      have hs2 : w.heap.size + 1 ≤ X3.heap.size := HS2.out.bx.lt
      have HLn := Lib.hid HS2.out.len
      clear hB b3 HS1 HL1
      go_wp2_with (first | (refine one_raw rfl _ rfl (lfl 128 (be 4 a.med)) 4 A3 (be 4 a.med).length c3 rfl ?_) | (at_builtin; refine app_w rfl _ _ rfl HS2.out.own hs2 (by have := HLn.out; omega) HBd.out rfl rfl ?_))
      intro v4 X4 ho hb4
      have HS4 := Lib.hid (HS2.out.app (r := rawW 128 4 (be 4 a.med)) HPos.out ho hb4)
      clear ho hb4 HBd hs2 HLn
      go_wp2_with fail
      go_meet
      have hq := HS4.out
      exact ⟨hq.low, hq.bx, hq.env, (by rw [HO.out]; exact hq.own), (by rw [HO.out]; exact Nat.le_trans hq.len (by omega))⟩
    · skip
      have HO : Hid (T0 ++ opt a.hasMed (rawW 128 4 (be 4 a.med)) = T0 ++ opt false (rawW 128 4 (be 4 a.med))) := Lib.hid (by rw [hb])
      rw [hb]
      clear d2 hb
      go_wp2_with fail
      go_meet
      have hq := HS.out.none_ (rawW 128 4 (be 4 a.med))
      exact ⟨hq.low, hq.bx, hq.env, (by rw [HO.out]; exact hq.own), (by rw [HO.out]; exact Nat.le_trans hq.len (by omega))⟩
  case rest =>
    have HS := Lib.hid hcut
    clear hcut
    generalize hwc : wc = V1 at *
    clear hwc
    generalize hT1 : T0 ++ opt a.hasMed (rawW 128 4 (be 4 a.med)) = T1 at *
    clear hT1
    obtain ⟨d0, d1, d2, d3, d4, d5, d6, d7⟩ := HC.out V1 HS.out.bx
    clear d0 d1 d2 d3 d5 d6 d7
    go_wp2_with fail
    refine (numU_is V1 a.pref 4 HT.out.pref.1 (by omega) (by omega) (by have := HT.out.pref.2; omega) HT.out.pref.2).mono ?_
    intro e X1 hp
    obtain ⟨rfl, b1, hB⟩ := hp.body (lo := w.heap.size + 1) HS.out.bx.lt
    have HS1 := Lib.hid ((HS.out.step hB).step (below_one5 X1 (.cells #[.slice (some ⟨V1.heap.size, 0, none⟩) 4 4] 38)))
    have HL1 := Lib.hid (rdl_one (c := 4) b1)
    clear hp hB b1
    go_wp2_with fail
    refine (made_as _ HS1.out.env 5 64 2 rfl (by omega) _ 1 1 _ HL1.out (by omega) (be 4 a.pref) (by simp) (by simp [be_len])).mono ?_
    generalize (X1.alloc (.cells #[.slice (some ⟨V1.heap.size, 0, none⟩) 4 4] 38)) = X2 at *
    rintro e X3 ⟨A3, c3, rfl, b3, hB⟩
    have HBd := Lib.hid (b3.low (lo' := w.heap.size + 1) HS1.out.bx.lt)
    have HS2 := Lib.hid (HS1.out.step hB)
    have hs2 : w.heap.size + 1 ≤ X3.heap.size := HS2.out.bx.lt
    have HLn := Lib.hid HS2.out.len
    clear hB b3 HS1 HL1
    go_wp2_with (first | (refine one_raw rfl _ rfl (lfl 64 (be 4 a.pref)) 5 A3 (be 4 a.pref).length c3 rfl ?_) | (at_builtin; refine app_w rfl _ _ rfl HS2.out.own hs2 (by have := HLn.out; omega) HBd.out rfl rfl ?_))
    intro v4 X4 ho hb4
    have HS4 := Lib.hid (HS2.out.app (r := rawW 64 5 (be 4 a.pref)) HPos.out ho hb4)
    clear ho hb4 HBd hs2 HLn
    clear HS HS2 d4
    have HS := HS4
    clear HS4
    generalize hT2 : T1 ++ [rawW 64 5 (be 4 a.pref)] = T2 at *
    clear hT2
    obtain ⟨d0, d1, d2, d3, d4, d5, d6, d7⟩ := HC.out X4 HS.out.bx
    have d8 : X4.cell? ⟨w.heap.size, 8, none⟩ = some (.int .i64 a.pm.kind) := HPm.out X4 HS.out.bx 0 _ rfl
    go_upto_if 54 with fail
    go_cut [4] (fun s4 wx => WrC w wx z s4 (T2 ++ opt (decide (a.orr ≠ 0)) (rawW 128 9 (be 4 a.orr))) 7)
    case first =>
      by_cases hb : a.orr ≠ 0
      · skip
        have HO : Hid (T2 ++ opt (decide (a.orr ≠ 0)) (rawW 128 9 (be 4 a.orr)) = T2 ++ [rawW 128 9 (be 4 a.orr)]) := Lib.hid (by rw [decide_eq_true hb]; rfl)
        have hb2 : (a.orr != 0) = true := by rw [bne_iff_ne]; exact hb
        clear hb
        go_wp2_with fail
        refine (numU_is X4 a.orr 4 HT.out.orr.1 (by omega) (by omega) (by have := HT.out.orr.2; omega) HT.out.orr.2).mono ?_
        intro e X1 hp
        obtain ⟨rfl, b1, hB⟩ := hp.body (lo := w.heap.size + 1) HS.out.bx.lt
        have HS1 := Lib.hid ((HS.out.step hB).step (below_one5 X1 (.cells #[.slice (some ⟨X4.heap.size, 0, none⟩) 4 4] 38)))
        have HL1 := Lib.hid (rdl_one (c := 4) b1)
        clear hp hB b1
        go_wp2_with fail
        refine (made_as _ HS1.out.env 9 128 2 rfl (by omega) _ 1 1 _ HL1.out (by omega) (be 4 a.orr) (by simp) (by simp [be_len])).mono ?_
        generalize (X1.alloc (.cells #[.slice (some ⟨X4.heap.size, 0, none⟩) 4 4] 38)) = X2 at *
        rintro e X3 ⟨A3, c3, rfl, b3, hB⟩
        have HBd := Lib.hid (b3.low (lo' := w.heap.size + 1) HS1.out.bx.lt)
        have HS2 := Lib.hid (HS1.out.step hB)
        have hs2 : w.heap.size + 1 ≤ X3.heap.size := HS2.out.bx.lt
        have HLn := Lib.hid HS2.out.len
        clear hB b3 HS1 HL1
        go_wp2_with (first | (refine one_raw rfl _ rfl (lfl 128 (be 4 a.orr)) 9 A3 (be 4 a.orr).length c3 rfl ?_) | (at_builtin; refine app_w rfl _ _ rfl HS2.out.own hs2 (by have := HLn.out; omega) HBd.out rfl rfl ?_))
        intro v4 X4 ho hb4
        have HS4 := Lib.hid (HS2.out.app (r := rawW 128 9 (be 4 a.orr)) HPos.out ho hb4)
        clear ho hb4 HBd hs2 HLn
        go_wp2_with fail
        go_meet
        have hq := HS4.out
        exact ⟨hq.low, hq.bx, hq.env, (by rw [HO.out]; exact hq.own), (by rw [HO.out]; exact Nat.le_trans hq.len (by omega))⟩
      · skip
        have HO : Hid (T2 ++ opt (decide (a.orr ≠ 0)) (rawW 128 9 (be 4 a.orr)) = T2 ++ opt false (rawW 128 9 (be 4 a.orr))) := Lib.hid (by rw [decide_eq_false hb])
        have hb2 : (a.orr != 0) = false := by rw [bne_eq_false_iff_eq]; exact Decidable.not_not.1 hb
        clear hb
        go_wp2_with fail
        go_meet
        have hq := HS.out.none_ (rawW 128 9 (be 4 a.orr))
        exact ⟨hq.low, hq.bx, hq.env, (by rw [HO.out]; exact hq.own), (by rw [HO.out]; exact Nat.le_trans hq.len (by omega))⟩
    case rest =>
      have HS := Lib.hid hcut
      clear hcut
      generalize hwc : wc = V3 at *
      clear hwc
      generalize hT3 : T2 ++ opt (decide (a.orr ≠ 0)) (rawW 128 9 (be 4 a.orr)) = T3 at *
      clear hT3
      obtain ⟨d0, d1, d2, d3, d4, d5, d6, d7⟩ := HC.out V3 HS.out.bx
      have d8 : V3.cell? ⟨w.heap.size, 8, none⟩ = some (.int .i64 a.pm.kind) := HPm.out V3 HS.out.bx 0 _ rfl
      go_upto_if 66 with fail
      go_cut [4] (fun s4 wx => WrC w wx z s4 (T3 ++ opt (decide (a.clus ≠ [])) (rawW 128 10 (encN a.clus))) 9)
      case first =>
        by_cases hb : a.clus ≠ []
        · skip
          have HO : Hid (T3 ++ opt (decide (a.clus ≠ [])) (rawW 128 10 (encN a.clus)) = T3 ++ [rawW 128 10 (encN a.clus)]) := Lib.hid (by rw [decide_eq_true hb]; rfl)
          have hb2 : 0 < n6 := by rw [HN6.out]; exact List.length_pos_iff.2 hb
          have hb3 : (0 : Int) < (n6 : Int) := by omega
          clear hb
          go_wp2_with fail
          refine (encNums_is V3 Ac n6 cc a.clus ((HCl.out.below HS.out.low).more HS.out.low.size) HT.out.clus h2).mono ?_
          rintro e X2 ⟨v2, rfl, ho, hB⟩
          obtain ⟨A2, c2, rfl, hl2⟩ := ho.rd
          have HS1 := Lib.hid (HS.out.step hB)
          have HL1 := Lib.hid hl2
          clear ho hB hl2
          go_wp2_with fail
          refine (made_as _ HS1.out.env 10 128 2 rfl (by omega) _ _ c2 _ HL1.out (by rw [enc4_len]; have := HN6.out; omega) (encN a.clus) (enc4_flat _) (by rw [encN_len]; have := HN6.out; omega)).mono ?_
          rintro e X3 ⟨A3, c3, rfl, b3, hB⟩
          have HBd := Lib.hid (b3.low (lo' := w.heap.size + 1) HS1.out.bx.lt)
          have HS2 := Lib.hid (HS1.out.step hB)
          have hs2 : w.heap.size + 1 ≤ X3.heap.size := HS2.out.bx.lt
          have HLn := Lib.hid HS2.out.len
          clear hB b3 HS1 HL1
          go_wp2_with (first | (refine one_raw rfl _ rfl (lfl 128 (encN a.clus)) 10 A3 (encN a.clus).length c3 rfl ?_) | (at_builtin; refine app_w rfl _ _ rfl HS2.out.own hs2 (by have := HLn.out; omega) HBd.out rfl rfl ?_))
          intro v4 X4 ho hb4
          have HS4 := Lib.hid (HS2.out.app (r := rawW 128 10 (encN a.clus)) HPos.out ho hb4)
          clear ho hb4 HBd hs2 HLn
          go_wp2_with fail
          go_meet
          have hq := HS4.out
          exact ⟨hq.low, hq.bx, hq.env, (by rw [HO.out]; exact hq.own), (by rw [HO.out]; exact Nat.le_trans hq.len (by omega))⟩
        · skip
          have hb1 : a.clus = [] := Decidable.not_not.1 hb
          have HO : Hid (T3 ++ opt (decide (a.clus ≠ [])) (rawW 128 10 (encN a.clus)) = T3 ++ opt false (rawW 128 10 (encN a.clus))) := Lib.hid (by rw [decide_eq_false hb])
          obtain rfl : n6 = 0 := by rw [HN6.out, hb1]; rfl
          clear hb hb1
          go_wp2_with fail
          go_meet
          have hq := HS.out.none_ (rawW 128 10 (encN a.clus))
          exact ⟨hq.low, hq.bx, hq.env, (by rw [HO.out]; exact hq.own), (by rw [HO.out]; exact Nat.le_trans hq.len (by omega))⟩
      case rest =>
        have HS := Lib.hid hcut
        clear hcut
        generalize hwc : wc = V4 at *
        clear hwc
        generalize hT4 : T3 ++ opt (decide (a.clus ≠ [])) (rawW 128 10 (encN a.clus)) = T4 at *
        clear hT4
        obtain ⟨d0, d1, d2, d3, d4, d5, d6, d7⟩ := HC.out V4 HS.out.bx
        have d8 : V4.cell? ⟨w.heap.size, 8, none⟩ = some (.int .i64 a.pm.kind) := HPm.out V4 HS.out.bx 0 _ rfl
        go_upto_if 77 with fail
        go_cut [4] (fun s4 wx => WrC w wx z s4 (T4 ++ opt (decide (a.comms ≠ [])) (rawW 192 16 (cf))) 11)
        case first =>
          by_cases hb : a.comms ≠ []
          · skip
            have HO : Hid (T4 ++ opt (decide (a.comms ≠ [])) (rawW 192 16 (cf)) = T4 ++ [rawW 192 16 (cf)]) := Lib.hid (by rw [decide_eq_true hb]; rfl)
            have hb2 : 0 < n7 := by rw [HN7.out]; exact List.length_pos_iff.2 hb
            have hb3 : (0 : Int) < (n7 : Int) := by omega
            clear hb
            go_wp2_with fail
            refine (commParts_is V4 Am n7 cm a.comms ((HCm.out.below HS.out.low).more HS.out.low.size) h3).mono ?_
            rintro e X2 ⟨v2, rfl, ho, hB⟩
            obtain ⟨A2, c2, rfl, hl2⟩ := ho.rd
            have HS1 := Lib.hid (HS.out.step hB)
            have HL1 := Lib.hid hl2
            clear ho hB hl2
            go_wp2_with fail
            refine (made_as _ HS1.out.env 16 192 2 rfl (by omega) _ _ c2 _ HL1.out (by have := HN7.out; omega) (cf) HCf.out.symm HCfl.out).mono ?_
            rintro e X3 ⟨A3, c3, rfl, b3, hB⟩
            have HBd := Lib.hid (b3.low (lo' := w.heap.size + 1) HS1.out.bx.lt)
            have HS2 := Lib.hid (HS1.out.step hB)
            have hs2 : w.heap.size + 1 ≤ X3.heap.size := HS2.out.bx.lt
            have HLn := Lib.hid HS2.out.len
            clear hB b3 HS1 HL1
            go_wp2_with (first | (refine one_raw rfl _ rfl (lfl 192 (cf)) 16 A3 (cf).length c3 rfl ?_) | (at_builtin; refine app_w rfl _ _ rfl HS2.out.own hs2 (by have := HLn.out; omega) HBd.out rfl rfl ?_))
            intro v4 X4 ho hb4
            have HS4 := Lib.hid (HS2.out.app (r := rawW 192 16 (cf)) HPos.out ho hb4)
            clear ho hb4 HBd hs2 HLn
            go_wp2_with fail
            go_meet
            have hq := HS4.out
            exact ⟨hq.low, hq.bx, hq.env, (by rw [HO.out]; exact hq.own), (by rw [HO.out]; exact Nat.le_trans hq.len (by omega))⟩
          · skip
            have hb1 : a.comms = [] := Decidable.not_not.1 hb
            have HO : Hid (T4 ++ opt (decide (a.comms ≠ [])) (rawW 192 16 (cf)) = T4 ++ opt false (rawW 192 16 (cf))) := Lib.hid (by rw [decide_eq_false hb])
            obtain rfl : n7 = 0 := by rw [HN7.out, hb1]; rfl
            clear hb hb1
            go_wp2_with fail
            go_meet
            have hq := HS.out.none_ (rawW 192 16 (cf))
            exact ⟨hq.low, hq.bx, hq.env, (by rw [HO.out]; exact hq.own), (by rw [HO.out]; exact Nat.le_trans hq.len (by omega))⟩
        case rest =>
          have HS := Lib.hid hcut
          clear hcut
          generalize hwc : wc = V5 at *
          clear hwc
          generalize hT5 : T4 ++ opt (decide (a.comms ≠ [])) (rawW 192 16 cf) = T5 at *
          clear hT5
          obtain ⟨d0, d1, d2, d3, d4, d5, d6, d7⟩ := HC.out V5 HS.out.bx
          have d8 : V5.cell? ⟨w.heap.size, 8, none⟩ = some (.int .i64 a.pm.kind) := HPm.out V5 HS.out.bx 0 _ rfl
          go_upto_if 88 with fail
          go_cut [4] (fun s4 wx => WrC w wx z s4 (T5 ++ opt (decide (a.pm.kind ≠ 0)) (rawW 192 22 (pmW a.pm))) 13)
          case first =>
            by_cases hb : a.pm.kind ≠ 0
            · skip
              have HO : Hid (T5 ++ opt (decide (a.pm.kind ≠ 0)) (rawW 192 22 (pmW a.pm)) = T5 ++ [rawW 192 22 (pmW a.pm)]) := Lib.hid (by rw [decide_eq_true hb]; rfl)
              have hb2 : (a.pm.kind != 0) = true := by rw [bne_iff_ne]; exact hb
              have HPr := Lib.hid (HPm.out V5 HS.out.bx)
              clear hb
              go_wp2_with (refine pm_fetch rfl _ rfl w.heap.size 8 a.pm HT.out.ip rfl HPr.out ?_)
              refine (pmsiParts_is V5 a.pm HQ.out.1 HQ.out.2.1 HT.out.label.1 HQ.out.2.2.1 HT.out.ip HT.out.oct).mono ?_
              rintro e X2 ⟨v2, rfl, ho, hB⟩
              obtain ⟨A2, c2, rfl, hl2⟩ := ho.rd
              have HS1 := Lib.hid (HS.out.step hB)
              have HL1 := Lib.hid hl2
              clear ho hB hl2
              go_wp2_with fail
              refine (made_as _ HS1.out.env 22 192 2 rfl (by omega) _ _ c2 _ HL1.out (by unfold pmL; split <;> simp) (pmW a.pm) (pmL_flat a.pm HQ.out.1 HQ.out.2.1) (pmW_len a.pm HT.out.ip)).mono ?_
              rintro e X3 ⟨A3, c3, rfl, b3, hB⟩
              have HBd := Lib.hid (b3.low (lo' := w.heap.size + 1) HS1.out.bx.lt)
              have HS2 := Lib.hid (HS1.out.step hB)
              have hs2 : w.heap.size + 1 ≤ X3.heap.size := HS2.out.bx.lt
              have HLn := Lib.hid HS2.out.len
              clear hB b3 HS1 HL1
              go_wp2_with (first | (refine one_raw rfl _ rfl (lfl 192 (pmW a.pm)) 22 A3 (pmW a.pm).length c3 rfl ?_) | (at_builtin; refine app_w rfl _ _ rfl HS2.out.own hs2 (by have := HLn.out; omega) HBd.out rfl rfl ?_))
              intro v4 X4 ho hb4
              have HS4 := Lib.hid (HS2.out.app (r := rawW 192 22 (pmW a.pm)) HPos.out ho hb4)
              clear ho hb4 HBd hs2 HLn
              go_wp2_with fail
              go_meet
              have hq := HS4.out
              exact ⟨hq.low, hq.bx, hq.env, (by rw [HO.out]; exact hq.own), (by rw [HO.out]; exact Nat.le_trans hq.len (by omega))⟩
            · skip
              have HO : Hid (T5 ++ opt (decide (a.pm.kind ≠ 0)) (rawW 192 22 (pmW a.pm)) = T5 ++ opt false (rawW 192 22 (pmW a.pm))) := Lib.hid (by rw [decide_eq_false hb])
              have hb2 : (a.pm.kind != 0) = false := by rw [bne_eq_false_iff_eq]; exact Decidable.not_not.1 hb
              clear hb
              go_wp2_with fail
              go_meet
              have hq := HS.out.none_ (rawW 192 22 (pmW a.pm))
              exact ⟨hq.low, hq.bx, hq.env, (by rw [HO.out]; exact hq.own), (by rw [HO.out]; exact Nat.le_trans hq.len (by omega))⟩
          case rest =>
            have HS := Lib.hid hcut
            clear hcut
            generalize hwc : wc = V6 at *
            clear hwc
            have HE : Hid (WritePost w a (.returned (.tuple #[u4, .int .i64 0])) V6) := Lib.hid ⟨HS.out.low, by rw [if_pos HF.out]; exact ⟨_, rfl, by have := HS.out.own.low (Nat.le_succ _); rwa [HW.out] at this⟩⟩
            go_wp2
            go_ret2
            exact HE.out

end Go.Proofs.YtdgoeibfggjbmaaGreatDoor
namespace Go.Proofs.YtdgoeibfggjbmaaGreatDoor
open Go.RowKit
set_option maxRecDepth 100000
set_option linter.unusedSimpArgs false
set_option linter.unusedVariables false

theorem enc_of (f k : Int) (v : List Int) (hf : f = 64 ∨ f = 128 ∨ f = 192) (hk : 0 ≤ k ∧ k ≤ 255) (hv : v.length < 65536) : encE (rawW f k v) = 0 := by
  unfold encE rawW lfl
  simp only
  by_cases h : 255 < v.length
  · rw [if_pos h]
    have hl : lsz (f + 16) = 2 := by rcases hf with rfl | rfl | rfl <;> decide
    rw [hl, if_pos (by omega), if_pos (by omega)]
  · rw [if_neg h]
    have hl : lsz f = 1 := by rcases hf with rfl | rfl | rfl <;> decide
    rw [hl, if_pos (by omega), if_pos (by omega)]
theorem write_enc {a : Att} (hf : AtFits a) (h1 : a.path.length ≤ 255) (h2 : a.clus.length ≤ 255) (h3 : a.comms.length ≤ 255) : ∀ r ∈ writeR a, encE r = 0 := by
  intro r hm
  unfold writeR at hm
  simp only [List.mem_append, List.mem_cons, List.mem_nil_iff, or_false] at hm
  rcases hm with (rfl | rfl) | hm | rfl | hm | hm | hm | hm
  · exact enc_of 64 1 _ (by omega) (by omega) (by simp)
  · exact enc_of 64 2 _ (by omega) (by omega) (by have := pathW_len a.path h1; omega)
  · obtain ⟨_, rfl⟩ := mem_opt hm
    exact enc_of 128 4 _ (by omega) (by omega) (by rw [be_len]; omega)
  · exact enc_of 64 5 _ (by omega) (by omega) (by rw [be_len]; omega)
  · obtain ⟨_, rfl⟩ := mem_opt hm
    exact enc_of 128 9 _ (by omega) (by omega) (by rw [be_len]; omega)
  · obtain ⟨_, rfl⟩ := mem_opt hm
    exact enc_of 128 10 _ (by omega) (by omega) (by rw [encN_len]; omega)
  · obtain ⟨_, rfl⟩ := mem_opt hm
    exact enc_of 192 16 _ (by omega) (by omega) (by rw [(cmms_enc _ hf.comms).2]; omega)
  · obtain ⟨_, rfl⟩ := mem_opt hm
    refine enc_of 192 22 _ (by omega) (by omega) ?_
    have h16 := hf.ip
    unfold pmW
    split <;> simp [be_len, h16] <;> omega
theorem opt_len {α : Type} (b : Bool) (x : α) : (opt b x).length ≤ 1 := by unfold opt; split <;> simp
theorem write_len (a : Att) : (writeR a).length ≤ 8 := by
  unfold writeR
  simp only [List.length_append, List.length_cons, List.length_nil]
  have := opt_len a.hasMed (rawW 128 4 (be 4 a.med))
  have := opt_len (decide (a.orr ≠ 0)) (rawW 128 9 (be 4 a.orr))
  have := opt_len (decide (a.clus ≠ [])) (rawW 128 10 (encN a.clus))
  have := opt_len (decide (a.comms ≠ [])) (rawW 192 16 a.comms.flatten)
  have := opt_len (decide (a.pm.kind ≠ 0)) (rawW 192 22 (pmW a.pm))
  omega
theorem joinB_len : ∀ (rs : List Raw), (∀ r ∈ rs, encE r = 0) → (joinB rs).length ≤ rs.length * 65539
  | [], _ => by simp [joinB]
  | r :: rs, h => by
    have e : joinB (r :: rs) = encB r ++ joinB rs := rfl
    rw [e, List.length_append, List.length_cons]
    have h1 := encB_len r (h r (List.mem_cons_self ..))
    have h2 := joinB_len rs (fun x hx => h x (List.mem_cons_of_mem _ hx))
    omega
theorem joinE_zero {rs : List Raw} (h : ∀ r ∈ rs, encE r = 0) : joinE rs = 0 := joinE_no fun j hj => h _ (List.getElem_mem hj)
theorem enc_val {r : Raw} (h : encE r = 0) : r.2.2.length ≤ 65535 := by
  unfold encE at h
  split at h
  · split at h
    · rename_i hl
      rcases lsz_pow r.1 with e | e <;> rw [e] at hl <;> omega
    · cases h
  · cases h
theorem write_is (w : World) (E : EnvK w) (a : Att) (hf : AtFits a) (cs : List Value) (h : RdAt w w.heap.size cs a) : Calls Tryz.prog 90 #[.agg cs.toArray] w (WritePost w a) := by
  obtain ⟨Ap, cp, Ac, cc, Am, cm, rfl, p1, p2, p3⟩ := h.ex
  cases hr : rightAt a
  · exact write_bad w a hf _ _ _ hr
  · by_cases hl : 255 < a.path.length ∨ 255 < a.clus.length ∨ 255 < a.comms.length
    · exact write_long w a hf Ap Ac Am cp cc cm hr hl
    · exact write_go w E a hf Ap Ac Am cp cc cm p1 p2 p3 hr (by omega) (by omega) (by omega)
theorem writeE_parts {a : Att} (h : writeE a = 0) : rightAt a = true ∧ a.path.length ≤ 255 ∧ a.clus.length ≤ 255 ∧ a.comms.length ≤ 255 := by
  unfold writeE at h
  cases hr : rightAt a
  · rw [if_pos hr] at h; cases h
  · rw [if_neg (by rw [hr]; decide)] at h
    split at h
    · cases h
    · exact ⟨rfl, by omega, by omega, by omega⟩
theorem att_store5 {ops : Array Oper} {rest : List Oper} {o : Oper} {a : Act} {w : World} {Q : Exit → Act → World → Prop} (hgd : o.guard = none) (x y : Operand) (ho : o.op = .store 31 x y) (g : Nat) (cs : List Value) (hl : cs.length = 27) (h1 : ∀ v ∈ cs, v.oneCell' = true)
    (hx : a.eval x = .pointer (some ⟨g, 0, none⟩)) (hy : a.eval y = .agg cs.toArray) (t : TypeId) (old : Array Value) (hg : Blk w g t old) (hold : old.size = 27)
    (h : wpList Tryz.prog ops Q rest (a.put o.dst undef) (w.setRow g cs.toArray)) : wpList Tryz.prog ops Q (o :: rest) a w :=
  wpList_store_row hgd 31 x y ho g _ hx hy t old hg (by rw [asz]; simp [hl]) (by rw [hold]; simp [hl]) (all_oneCell_toArray h1) h
theorem fault_store5 {ops : Array Oper} {rest : List Oper} {o : Oper} {a : Act} {w : World} {Q : Exit → Act → World → Prop} (hgd : o.guard = none) (x y : Operand) (ho : o.op = .store 56 x y) (g : Nat) (c s : Int) (A : Option Addr) (n cp : Nat)
    (hx : a.eval x = .pointer (some ⟨g, 0, none⟩)) (hy : a.eval y = .agg #[.int .i64 c, .int .i64 s, .slice A n cp]) (t : TypeId) (old : Array Value) (hg : Blk w g t old) (hold : old.size = 3)
    (h : wpList Tryz.prog ops Q rest (a.put o.dst undef) (w.setRow g #[.int .i64 c, .int .i64 s, .slice A n cp])) : wpList Tryz.prog ops Q (o :: rest) a w :=
  wpList_store_row hgd 56 x y ho g _ hx hy t old hg (by rw [fsz]; rfl) (by rw [hold]; rfl) (by kernel_rfl) h
end Go.Proofs.YtdgoeibfggjbmaaGreatDoor
namespace Go.Proofs.YtdgoeibfggjbmaaGreatDoor
open Go.RowKit Go.ChangeShapes Go.WideShapes Go.ChangeAt Go.Deep Go.Joins
set_option maxRecDepth 100000
set_option linter.unusedVariables false

section
variable {H : Type} {enc : TypeId × Value → H} {W : World}
theorem lt_of_cell5 {w : World} {a : Addr} {v : Value} (h : w.cell? a = some v) : a.block < w.heap.size := by
  rcases Nat.lt_or_ge a.block w.heap.size with h1 | h1
  · exact h1
  · simp [World.cell?, Array.getElem?_eq_none h1] at h
theorem trod_u8s5 {P : Program} {t e : TypeId} {n fuel : Nat} {cs : List Value} {x : DataW H × List MemPlace} (ht : P.underlying t = some (.array n e)) (he : P.underlying e = some (.int .u8)) (hce : P.cellsOf e = 1) (hct : P.cellsOf t = n)
    (h : DataW.trod enc P W 0 (fun _ => true) true fuel t cs = some x) : ∃ l, cs = u8s l ∧ l.length = n ∧ Oct l := by
  obtain ⟨xs, m, hf, hx, hl, hxl, hat⟩ := DataW.trod_array ht h
  rw [hct] at hl
  have each : ∀ i, i < n → ∃ z : Int, cs[i]? = some (.int .u8 z) ∧ 0 ≤ z ∧ z < 256 := by
    intro i hi
    have h1 := hat i hi
    rw [List.getElem?_eq_getElem (by omega)] at h1
    rw [hce, Nat.mul_one] at h1
    obtain ⟨z, hz, _, hw⟩ := DataW.trod_int he h1
    refine ⟨z, ?_, ?_⟩
    · have h2 : ((cs.drop i).take 1)[0]? = some (.int .u8 z) := by rw [hz]; rfl
      simpa using h2
    · simp [Lit.wf, IntKind.min, IntKind.max, IntKind.signed, IntKind.bits] at hw
      omega
  refine ⟨cs.map fun v => match v with | .int _ z => z | _ => 0, ?_, by simp [hl], ?_⟩
  · apply List.ext_getElem?
    intro i
    rcases Nat.lt_or_ge i n with hi | hi
    · obtain ⟨z, hz, _⟩ := each i hi
      simp [u8s, hz]
    · rw [List.getElem?_eq_none (by omega), List.getElem?_eq_none (by simp [u8s]; omega)]
  · intro z hz
    obtain ⟨v, hv, rfl⟩ := List.mem_map.1 hz
    obtain ⟨i, hi, hiv⟩ := List.mem_iff_getElem.1 hv
    obtain ⟨z, hz, h0, h1⟩ := each i (by omega)
    rw [List.getElem?_eq_getElem hi, hiv] at hz
    cases hz
    exact ⟨h0, h1⟩
theorem trod_u325 {fuel : Nat} {cs : List Value} {x : DataW H × List MemPlace} (h : DataW.trod enc Tryz.prog W 0 (fun _ => true) true fuel 23 cs = some x) : ∃ n, cs = [.int .u32 n] ∧ 0 ≤ n ∧ n ≤ 4294967295 := by
  obtain ⟨n, e, _, hw⟩ := DataW.trod_int Tryz.underlying23 h
  refine ⟨n, e, ?_⟩
  simp [Lit.wf, IntKind.min, IntKind.max, IntKind.signed, IntKind.bits] at hw
  exact ⟨by omega, by omega⟩
theorem trod_i645 {fuel : Nat} {cs : List Value} {x : DataW H × List MemPlace} (h : DataW.trod enc Tryz.prog W 0 (fun _ => true) true fuel 3 cs = some x) : ∃ n, cs = [.int .i64 n] := by
  obtain ⟨n, e, _, hw⟩ := DataW.trod_int Tryz.underlying3 h
  exact ⟨n, e⟩
theorem part_of5 {P : Program} {fs : Array Field} {cs : List Value} {xs : List (DataW H × List MemPlace)} {n : Nat} (hl : xs.length = fs.size) (h : ∀ (i : Nat) (f : Field), fs[i]? = some f → DataW.trod enc P W 0 (fun _ => true) true n f.type ((cs.drop f.offset).take (P.cellsOf f.type)) = xs[i]?)
    (i : Nat) (f : Field) (hf : fs[i]? = some f) : ∃ y ∈ xs, DataW.trod enc P W 0 (fun _ => true) true n f.type ((cs.drop f.offset).take (P.cellsOf f.type)) = some y := by
  have hi := (Array.getElem?_eq_some_iff.1 hf).1
  exact ⟨xs[i], List.getElem_mem _, by rw [h i f hf, List.getElem?_eq_getElem]⟩
theorem drop_split5 (cs : List Value) (o n : Nat) : cs.drop o = (cs.drop o).take n ++ cs.drop (o + n) := by rw [← List.drop_drop, List.take_append_drop]
theorem trod_ip5 {fuel : Nat} {cs : List Value} {x : DataW H × List MemPlace} (h : DataW.trod enc Tryz.prog W 0 (fun _ => true) true fuel 27 cs = some x) : ∃ v l, cs = ipc v l ∧ l.length = 16 ∧ Oct l := by
  obtain ⟨xs, n, _, _, hl, hxl, hat⟩ := DataW.trod_struct Tryz.underlying27 h
  have hl : cs.length = 17 := hl.trans (by kernel_rfl)
  obtain ⟨_, _, h0⟩ := part_of5 hxl hat 0 _ rfl
  obtain ⟨_, _, h1⟩ := part_of5 hxl hat 1 _ rfl
  obtain ⟨v, e0, _⟩ := DataW.trod_bool Tryz.underlying4 h0
  obtain ⟨l, e1, hll, ho⟩ := trod_u8s5 Tryz.underlying25 Tryz.underlying5 (by kernel_rfl) (by kernel_rfl) h1
  have e0 : (cs.drop 0).take 1 = [.bool v] := e0
  have e1 : (cs.drop 1).take 16 = u8s l := e1
  refine ⟨v, l, ?_, hll, ho⟩
  have a0 := drop_split5 cs 0 1
  have a1 := drop_split5 cs 1 16
  rw [e0] at a0
  have z : cs.drop (1 + 16) = [] := List.drop_of_length_le (by omega)
  rw [e1, z, List.append_nil] at a1
  rw [List.drop_zero, Nat.zero_add, a1] at a0
  exact a0
theorem trod_pm5 {fuel : Nat} {cs : List Value} {x : DataW H × List MemPlace} (h : DataW.trod enc Tryz.prog W 0 (fun _ => true) true fuel 29 cs = some x) : ∃ p : Pm, cs = pmc p ∧ (0 ≤ p.label ∧ p.label ≤ 4294967295) ∧ p.ip.length = 16 ∧ Oct p.ip := by
  obtain ⟨xs, m, _, _, hl, hxl, hat⟩ := DataW.trod_struct Tryz.underlying29 h
  have hl : cs.length = 19 := hl.trans (by kernel_rfl)
  obtain ⟨_, _, h0⟩ := part_of5 hxl hat 0 _ rfl
  obtain ⟨_, _, h1⟩ := part_of5 hxl hat 1 _ rfl
  obtain ⟨_, _, h2⟩ := part_of5 hxl hat 2 _ rfl
  obtain ⟨k, e0⟩ := trod_i645 h0
  obtain ⟨lb, e1, hlb⟩ := trod_u325 h1
  obtain ⟨v, l, e2, hll, ho⟩ := trod_ip5 h2
  have e0 : (cs.drop 0).take 1 = [.int .i64 k] := e0
  have e1 : (cs.drop 1).take 1 = [.int .u32 lb] := e1
  have e2 : (cs.drop 2).take 17 = ipc v l := e2
  refine ⟨⟨k, lb, v, l⟩, ?_, hlb, hll, ho⟩
  have a0 := drop_split5 cs 0 1
  have a1 := drop_split5 cs 1 1
  have a2 := drop_split5 cs 2 17
  have z : cs.drop (2 + 17) = [] := List.drop_of_length_le (by omega)
  rw [e0] at a0
  rw [e1] at a1
  rw [e2, z, List.append_nil] at a2
  rw [List.drop_zero] at a0
  rw [a0]
  show _ ++ cs.drop 1 = _
  rw [a1]
  show _ ++ (_ ++ cs.drop 2) = _
  rw [a2]
  rfl
end
end Go.Proofs.YtdgoeibfggjbmaaGreatDoor
namespace Go.Proofs.YtdgoeibfggjbmaaGreatDoor
open Go.RowKit
set_option maxRecDepth 100000
set_option linter.unusedSimpArgs false
set_option linter.unusedVariables false

/-- A cursor; its bytes lie at A0. -/
structure IsCurX (A0 : Option Addr) (c0 : Nat) (w : World) (g : Nat) (l : List Int) (at_ : Nat) (err : Int) : Prop extends IsCurT 212 w g l at_ err where
  fix : w.cell? ⟨g, 0, none⟩ = some (.slice A0 l.length c0)
section
variable {A0 : Option Addr} {c0 : Nat} {w w' : World} {g : Nat} {l : List Int} {at_ k : Nat} {err e0 : Int}
theorem IsCurX.keep (h : IsCurX A0 c0 w g l at_ err) (hk : Below (g + 1) w w') : IsCurX A0 c0 w' g l at_ err := ⟨h.toIsCurT.keep hk, (hk.cell (p := ⟨g, 0, none⟩) (Nat.lt_succ_self _)).trans h.fix⟩
theorem IsCurX.drewN (h : IsCurX A0 c0 w g l at_ err) (k : Nat) : IsCurX A0 c0 (w.drewN k) g l at_ err := h.keep (below_drewN (Below.refl _ _) k)
theorem IsCurX.set1 (h : IsCurX A0 c0 w g l at_ err) (hk : k ≤ l.length) : IsCurX A0 c0 (w.setCell ⟨g, 1, none⟩ (.int .i64 k)) g l k err := ⟨h.toIsCurT.set1 hk, (World.cell?_setCell_other _ _ _ _ (by simp)).trans h.fix⟩
theorem IsCurX.set2 (h : IsCurX A0 c0 w g l at_ err) : IsCurX A0 c0 (w.setCell ⟨g, 2, none⟩ (.int .i64 e0)) g l at_ e0 := ⟨h.toIsCurT.set2, (World.cell?_setCell_other _ _ _ _ (by simp)).trans h.fix⟩
/-- What is written elsewhere leaves it. -/
theorem IsCurX.far {b : Nat} (h : IsCurX A0 c0 w g l at_ err) (hk : ∀ i, i ≠ b → w'.heap[i]? = w.heap[i]?) (hg : g ≠ b) (hA : 0 < l.length → ∀ a, A0 = some a → a.block ≠ b) : IsCurX A0 c0 w' g l at_ err := by
  obtain ⟨A, c, h0, h1, h2⟩ := h.ex
  have e0 : w.cell? ⟨g, 0, none⟩ = some (.slice A l.length c) := Blk.cell h0 0
  have e1 := h.fix
  rw [e0] at e1
  injection e1 with e1
  injection e1 with e2 _ e3
  subst e2 e3
  refine ⟨⟨⟨A, c, (hk g hg).trans h0, ⟨h1.len, h1.oct, fun hn => ?_⟩, h2⟩, h.le, h.sm⟩, (World.cell?_of_block (hk g hg)).trans h.fix⟩
  obtain ⟨b', off, e, hlt, hc⟩ := h1.at_ hn
  exact ⟨b', off, e, hlt, fun i hi => (World.cell?_of_block (hk b' (hA hn _ e))).trans (hc i hi)⟩
end
/-- Passed: the next k bytes; the place moves on. -/
def PassOkX (A0 : Option Addr) (c0 : Nat) (w : World) (g : Nat) (l : List Int) (at_ k : Nat) (e : Ending) (w' : World) : Prop :=
  ∃ A c, e = .returned (.slice A k c) ∧ Rd w' g A k ((l.drop at_).take k) ∧ IsCurX A0 c0 w' g l (at_ + k) 0 ∧ w.grownBy w' (some g)

theorem pass_okX {A0 : Option Addr} {c0 : Nat} (w : World) (g : Nat) (l : List Int) (at_ k : Nat) (h : IsCurX A0 c0 w g l at_ 0) (hk : at_ + k ≤ l.length) :
    Calls Tryz.prog 165 #[.pointer (some ⟨g, 0, none⟩), .int .i64 k] w (PassOkX A0 c0 w g l at_ k) := by
  obtain ⟨A, c, h0, h1, h2⟩ := h.ex
  refine (pass_raw w g A l.length c at_ k h0 hk h2 h.sm).mono ?_
  rintro e w' ⟨rfl, k1, k2, rfl⟩
  have hc : IsCurX A0 c0 (((w.drewN k1).setCell ⟨g, 1, none⟩ (.int .i64 ((at_ + k : Nat) : Int))).drewN k2) g l (at_ + k) 0 := ((h.drewN k1).set1 hk).drewN k2
  refine ⟨_, _, rfl, ?_, hc, only_drewN (only_setCell (only_drewN (only_refl w _) k1) (.inl rfl) _) k2⟩
  refine (h1.cut hk h2).keep fun p hp => ?_
  exact World.cell?_setCell_other _ _ _ _ (fun e => by subst e; exact absurd hp (Nat.lt_irrefl _))

/-- Not passed: the cursor's error is e1 from now on, nothing is told. -/
def PassNoX (A0 : Option Addr) (c0 : Nat) (w : World) (g : Nat) (l : List Int) (at_ : Nat) (e1 : Int) (e : Ending) (w' : World) : Prop :=
  e = .returned (.slice none 0 0) ∧ IsCurX A0 c0 w' g l at_ e1 ∧ w.grownBy w' (some g)

set_option maxHeartbeats 400000 in
theorem pass_negX {A0 : Option Addr} {c0 : Nat} (w : World) (g : Nat) (l : List Int) (at_ : Nat) (k : Int) (h : IsCurX A0 c0 w g l at_ 0) (hk : k < 0) :
    Calls Tryz.prog 165 #[.pointer (some ⟨g, 0, none⟩), .int .i64 k] w (PassNoX A0 c0 w g l at_ 2) := by
  obtain ⟨A, c, h0, h1, h2⟩ := h.ex
  have c2 : (w.setCell ⟨g, 2, none⟩ (.int .i64 2)).cell? ⟨g, 2, none⟩ = some (.int .i64 2) := Blk.cell (Blk.set_ h0 2 _) 2
  have H := Lib.hid h
  have H0 := Lib.hid h0
  clear h h0 h1 h2
  go_enter Tryz.func165, Tryz.ntmps165
  go_wp2_with fail
  refine (fail_first w g A _ c at_ 2 H0.out).mono ?_
  rintro e w' ⟨rfl, rfl⟩
  go_wp2
  go_ret
  exact ⟨rfl, H.out.set2, only_setCell (only_refl w _) (.inl rfl) _⟩

set_option maxHeartbeats 400000 in
theorem pass_longX {A0 : Option Addr} {c0 : Nat} (w : World) (g : Nat) (l : List Int) (at_ : Nat) (k : Int) (h : IsCurX A0 c0 w g l at_ 0) (hk : (l.length : Int) - at_ < k) :
    Calls Tryz.prog 165 #[.pointer (some ⟨g, 0, none⟩), .int .i64 k] w (PassNoX A0 c0 w g l at_ 3) := by
  obtain ⟨A, c, h0, h1, h2⟩ := h.ex
  have c2 : ∀ n, ((w.drewN n).setCell ⟨g, 2, none⟩ (.int .i64 3)).cell? ⟨g, 2, none⟩ = some (.int .i64 3) := fun n => Blk.cell (Blk.set_ (w := w.drewN n) h0 2 _) 2
  have H := Lib.hid h
  have H0 := Lib.hid h0
  have hle := h.le
  have hsm := h.sm
  have hpos : 0 ≤ k := by omega
  clear h h0 h1 h2
  go_enter Tryz.func165, Tryz.ntmps165
  go_wp2_with fail
  refine (left_is w g A _ c at_ 0 H0.out (by omega) (by omega) hsm).mono ?_
  rintro e w' ⟨rfl, k1, rfl⟩
  go_wp2_with fail
  refine (fail_first (w.drewN k1) g A _ c at_ 3 H0.out).mono ?_
  rintro e w' ⟨rfl, rfl⟩
  go_wp2
  go_ret
  exact ⟨rfl, (H.out.drewN k1).set2, only_setCell (only_drewN (only_refl w _) k1) (.inl rfl) _⟩

set_option maxHeartbeats 400000 in
theorem pass_lateX {A0 : Option Addr} {c0 : Nat} (w : World) (g : Nat) (l : List Int) (at_ : Nat) (k err : Int) (h : IsCurX A0 c0 w g l at_ err) (hne : (err == 0) = false) :
    Calls Tryz.prog 165 #[.pointer (some ⟨g, 0, none⟩), .int .i64 k] w (PassNoX A0 c0 w g l at_ err) := by
  obtain ⟨A, c, h0, h1, h2⟩ := h.ex
  have c2 : w.cell? ⟨g, 2, none⟩ = some (.int .i64 err) := Blk.cell h0 2
  have H := Lib.hid h
  have H0 := Lib.hid h0
  have hle := h.le
  have hsm := h.sm
  have hne' : (err != 0) = true := by simpa using hne
  clear h h0 h1 h2
  by_cases hk : k < 0
  · go_enter Tryz.func165, Tryz.ntmps165
    go_wp2_with fail
    refine (fail_later w g A _ c at_ err 2 H0.out hne).mono ?_
    rintro e w' ⟨rfl, rfl⟩
    go_wp2
    go_ret
    exact ⟨rfl, H.out, only_refl w _⟩
  · have hpos : 0 ≤ k := by omega
    by_cases hl : (l.length : Int) - at_ < k
    · go_enter Tryz.func165, Tryz.ntmps165
      go_wp2_with fail
      refine (left_is w g A _ c at_ err H0.out (by omega) (by omega) hsm).mono ?_
      rintro e w' ⟨rfl, k1, rfl⟩
      go_wp2_with fail
      refine (fail_later (w.drewN k1) g A _ c at_ err 3 H0.out hne).mono ?_
      rintro e w' ⟨rfl, rfl⟩
      go_wp2
      go_ret
      exact ⟨rfl, H.out.drewN k1, only_drewN (only_refl w _) k1⟩
    · go_enter Tryz.func165, Tryz.ntmps165
      go_wp2_with fail
      refine (left_is w g A _ c at_ err H0.out (by omega) (by omega) hsm).mono ?_
      rintro e w' ⟨rfl, k1, rfl⟩
      go_wp2
      go_ret
      exact ⟨rfl, H.out.drewN k1, only_drewN (only_refl w _) k1⟩

/-- What pass comes to, in one word. -/
def PassedX (A0 : Option Addr) (c0 : Nat) (w : World) (g : Nat) (l : List Int) (at_ : Nat) (err k : Int) (e : Ending) (w' : World) : Prop :=
  ∃ A c, e = .returned (.slice A (stepTook l at_ err k).length c) ∧ Rd w' g A (stepTook l at_ err k).length (stepTook l at_ err k) ∧ IsCurX A0 c0 w' g l (stepAt l at_ err k) (stepErr l at_ err k) ∧ w.grownBy w' (some g)

theorem pass_isX {A0 : Option Addr} {c0 : Nat} (w : World) (g : Nat) (l : List Int) (at_ : Nat) (err k : Int) (h : IsCurX A0 c0 w g l at_ err) :
    Calls Tryz.prog 165 #[.pointer (some ⟨g, 0, none⟩), .int .i64 k] w (PassedX A0 c0 w g l at_ err k) := by
  have hle := h.le
  by_cases he : err = 0
  · subst he
    by_cases hk : k < 0
    · have e1 : stepTook l at_ 0 k = [] := by unfold stepTook; rw [if_neg (by omega)]
      have e2 : stepAt l at_ 0 k = at_ := by unfold stepAt; rw [if_neg (by omega)]
      have e3 : stepErr l at_ 0 k = 2 := by unfold stepErr; rw [if_pos rfl, if_pos hk]
      refine (pass_negX w g l at_ k h hk).mono ?_
      rintro e w' ⟨rfl, hc, ho⟩
      exact ⟨none, 0, by rw [e1]; rfl, by rw [e1]; exact Rd.nil_ _, by rw [e2, e3]; exact hc, ho⟩
    · by_cases hl : (l.length : Int) - at_ < k
      · have e1 : stepTook l at_ 0 k = [] := by unfold stepTook; rw [if_neg (by omega)]
        have e2 : stepAt l at_ 0 k = at_ := by unfold stepAt; rw [if_neg (by omega)]
        have e3 : stepErr l at_ 0 k = 3 := by unfold stepErr; rw [if_pos rfl, if_neg hk, if_pos hl]
        refine (pass_longX w g l at_ k h hl).mono ?_
        rintro e w' ⟨rfl, hc, ho⟩
        exact ⟨none, 0, by rw [e1]; rfl, by rw [e1]; exact Rd.nil_ _, by rw [e2, e3]; exact hc, ho⟩
      · obtain ⟨m, rfl⟩ : ∃ m : Nat, k = m := ⟨k.toNat, by omega⟩
        have e1 : stepTook l at_ 0 m = (l.drop at_).take m := by unfold stepTook; rw [if_pos (by omega)]; rfl
        have e2 : stepAt l at_ 0 m = at_ + m := by unfold stepAt; rw [if_pos (by omega)]; rfl
        have e3 : stepErr l at_ 0 m = 0 := by unfold stepErr; rw [if_pos rfl, if_neg hk, if_neg hl]
        have e4 : (stepTook l at_ 0 m).length = m := by rw [e1]; simp; omega
        refine (pass_okX w g l at_ m h (by omega)).mono ?_
        rintro e w' ⟨A, c, rfl, hr, hc, ho⟩
        exact ⟨A, c, by rw [e4], by rw [e4, e1]; exact hr, by rw [e2, e3]; exact hc, ho⟩
  · have e1 : stepTook l at_ err k = [] := by unfold stepTook; rw [if_neg (by omega)]
    have e2 : stepAt l at_ err k = at_ := by unfold stepAt; rw [if_neg (by omega)]
    have e3 : stepErr l at_ err k = err := by unfold stepErr; rw [if_neg he]
    refine (pass_lateX w g l at_ k err h (by simpa using he)).mono ?_
    rintro e w' ⟨rfl, hc, ho⟩
    exact ⟨none, 0, by rw [e1]; rfl, by rw [e1]; exact Rd.nil_ _, by rw [e2, e3]; exact hc, ho⟩

def TookX (A0 : Option Addr) (c0 : Nat) (w : World) (g : Nat) (l : List Int) (at_ : Nat) (err k : Int) (e : Ending) (w' : World) : Prop :=
  ∃ A, e = .returned (.slice A (stepTook l at_ err k).length (stepTook l at_ err k).length) ∧ New 5 w w' A (stepTook l at_ err k).length (stepTook l at_ err k) ∧
    IsCurX A0 c0 w' g l (stepAt l at_ err k) (stepErr l at_ err k) ∧ w.grownBy w' (some g)

theorem take_isX {A0 : Option Addr} {c0 : Nat} (w : World) (g : Nat) (l : List Int) (at_ : Nat) (err k : Int) (h : IsCurX A0 c0 w g l at_ err) :
    Calls Tryz.prog 114 #[.pointer (some ⟨g, 0, none⟩), .int .i64 k] w (TookX A0 c0 w g l at_ err k) := by
  have hsm := h.sm
  have H := Lib.hid h
  have hlen := stepTook_len l at_ err k
  unfold TookX
  have H0 := Lib.hid (pass_isX w g l at_ err k h)
  unfold PassedX at H0
  generalize stepTook l at_ err k = xs at *
  generalize stepAt l at_ err k = at1 at *
  generalize stepErr l at_ err k = err1 at *
  clear h
  go_enter Tryz.func114, Tryz.ntmps114
  go_wp2_with fail
  refine H0.out.mono ?_
  rintro e w1 ⟨A, c, rfl, hr, hc, ho⟩
  have H1 := Lib.hid hr
  have H2 := Lib.hid hc
  have H3 := Lib.hid ho
  clear hr hc ho
  go_wp2_with fail
  refine (copied_is w1 A _ c xs (H1.out.more (Nat.le_of_lt H2.out.lt)) (by omega)).mono ?_
  rintro e w2 ⟨A2, rfl, hn, hb⟩
  have H4 := Lib.hid hn
  have H5 := Lib.hid hb
  clear hn hb
  go_wp2
  go_ret
  exact ⟨A2, rfl, H4.out.from_ H3.out.size, H2.out.keep (H5.out.mono H2.out.lt), only_trans H3.out (only_of_below H5.out _)⟩

def NumdX (A0 : Option Addr) (c0 : Nat) (w : World) (g : Nat) (l : List Int) (at_ : Nat) (err k : Int) (e : Ending) (w' : World) : Prop :=
  e = .returned (.int .u64 (numVal l at_ err k)) ∧ IsCurX A0 c0 w' g l (numAt l at_ err k) (numErr l at_ err k) ∧ w.grownBy w' (some g)

set_option maxHeartbeats 400000 in
theorem num_badX {A0 : Option Addr} {c0 : Nat} (w : World) (g : Nat) (l : List Int) (at_ : Nat) (err k : Int) (h : IsCurX A0 c0 w g l at_ err) (hk : ¬ numOk k) :
    Calls Tryz.prog 113 #[.pointer (some ⟨g, 0, none⟩), .int .i64 k] w (NumdX A0 c0 w g l at_ err k) := by
  unfold NumdX numVal numAt numErr
  simp only [if_neg hk]
  have hk' : k < 1 ∨ 8 < k := by unfold numOk at hk; omega
  have H := Lib.hid h
  obtain ⟨A, c, h0, _, _⟩ := h.ex
  have H0 := Lib.hid h0
  clear h h0 hk
  have H1 := Lib.hid hk'
  clear hk'
  by_cases he : err = 0
  · subst he
    go_enter Tryz.func113, Tryz.ntmps113
    go_wp2_with fail
    refine (isSize_no k w H1.out).mono ?_
    rintro e w' ⟨rfl, rfl⟩
    go_wp2_with fail
    refine (fail_first w g A _ c at_ 2 H0.out).mono ?_
    rintro e w' ⟨rfl, rfl⟩
    go_wp2
    go_ret
    exact ⟨rfl, H.out.set2, only_setCell (only_refl w _) (.inl rfl) _⟩
  · have he' : (err == 0) = false := by simpa using he
    simp only [if_neg he]
    go_enter Tryz.func113, Tryz.ntmps113
    go_wp2_with fail
    refine (isSize_no k w H1.out).mono ?_
    rintro e w' ⟨rfl, rfl⟩
    go_wp2_with fail
    refine (fail_later w g A _ c at_ err 2 H0.out he').mono ?_
    rintro e w' ⟨rfl, rfl⟩
    go_wp2
    go_ret
    exact ⟨rfl, H.out, only_refl w _⟩

set_option maxHeartbeats 1000000 in
theorem num_okX {A0 : Option Addr} {c0 : Nat} (w : World) (g : Nat) (l : List Int) (at_ : Nat) (err k : Int) (h : IsCurX A0 c0 w g l at_ err) (hk : numOk k) :
    Calls Tryz.prog 113 #[.pointer (some ⟨g, 0, none⟩), .int .i64 k] w (NumdX A0 c0 w g l at_ err k) := by
  unfold NumdX numVal numAt numErr
  simp only [if_pos hk]
  have hlen : (stepTook l at_ err k).length ≤ 8 := by
    unfold numOk at hk
    unfold stepTook
    split
    · simp; omega
    · simp
  have H0 := Lib.hid (pass_isX w g l at_ err k h)
  unfold PassedX at H0
  generalize stepTook l at_ err k = xs at *
  generalize stepAt l at_ err k = at1 at *
  generalize stepErr l at_ err k = err1 at *
  obtain ⟨hk1, hk8⟩ := hk
  clear h
  go_enter Tryz.func113, Tryz.ntmps113
  go_wp2_with fail
  refine (isSize_yes k w hk1 hk8).mono ?_
  rintro e w' ⟨rfl, rfl⟩
  go_wp2_with fail
  refine H0.out.mono ?_
  rintro e w1 ⟨A, c, rfl, hr, hc, ho⟩
  have hoct := hr.oct
  have H1 := Lib.hid hr
  have H2 := Lib.hid hc
  have H3 := Lib.hid ho
  have HO := Lib.hid hoct
  clear hr hc ho hoct
  go_wp2
  go_loop [5, 7, 23] (fun s _ i => ∃ m : Nat, m ≤ xs.length ∧ i = .int .i64 m ∧ s = .int .u64 (numOf (xs.take m))) (fun _ _ i => xs.length - (intOf i).toNat)
  case atStart => exact ⟨0, Nat.zero_le _, rfl, rfl⟩
  case round =>
    obtain ⟨m, hm, rfl, rfl⟩ := hrel
    by_cases hlt : m < xs.length
    · obtain ⟨b, off, rfl, hb, hcell⟩ := H1.out.at_ (by omega)
      have hcm := hcell m hlt
      have HS := Lib.hid (numOf_step xs m hlt hlen HO.out)
      clear hcell
      go_wp2
      refine ⟨⟨m + 1, by omega, by go_num, by rw [HS.out]⟩, by simp [intOf]; omega⟩
    · obtain rfl : m = xs.length := by omega
      rw [List.take_length]
      go_wp2
      go_ret
      exact ⟨rfl, H2.out, H3.out⟩

theorem num_isX {A0 : Option Addr} {c0 : Nat} (w : World) (g : Nat) (l : List Int) (at_ : Nat) (err k : Int) (h : IsCurX A0 c0 w g l at_ err) :
    Calls Tryz.prog 113 #[.pointer (some ⟨g, 0, none⟩), .int .i64 k] w (NumdX A0 c0 w g l at_ err k) := by
  by_cases hk : numOk k
  · exact num_okX w g l at_ err k h hk
  · exact num_badX w g l at_ err k h hk

/-- A new cursor. -/
def NewCurX (w : World) (l : List Int) (e : Ending) (w' : World) : Prop :=
  ∃ g A0 c0, e = .returned (.pointer (some ⟨g, 0, none⟩)) ∧ w.heap.size ≤ g ∧ IsCurX A0 c0 w' g l 0 0 ∧ (0 < l.length → ∀ a, A0 = some a → w.heap.size ≤ a.block) ∧ Below w.heap.size w w'
theorem new_isX (w : World) (A : Option Addr) (n c : Nat) (l : List Int) (hr : Rd w w.heap.size A n l) (hm : n ≤ 281474976710656) :
    Calls Tryz.prog 111 #[.slice A n c] w (NewCurX w l) := by
  have H := Lib.hid hr
  clear hr
  go_enter Tryz.func111, Tryz.ntmps111
  go_wp2_with fail
  refine (copied_is w A n c l H.out hm).mono ?_
  rintro e w1 ⟨A1, rfl, hn, hb⟩
  have H1 := Lib.hid hn
  have H2 := Lib.hid hb
  clear hn hb
  go_wp2
  go_ret
  refine ⟨w1.heap.size, A1, n, rfl, H2.out.size, ⟨isCur_new H1.out hm, ?_⟩, ?_, H2.out.alloc H2.out.size _⟩
  · have := (Blk.new w1 212 #[.slice A1 n n, .int .i64 0, .int .i64 0]).cell 0
    rw [H1.out.2.1]
    exact this
  · intro hpos a ha
    rcases H1.out.2.2 with h | ⟨g, hg, hlo, _⟩
    · have := H1.out.2.1; omega
    · rw [hg] at ha; injection ha with ha; subst ha; exact hlo
end Go.Proofs.YtdgoeibfggjbmaaGreatDoor
namespace Go.Proofs.YtdgoeibfggjbmaaGreatDoor
open Go.RowKit
set_option maxRecDepth 100000
set_option linter.unusedSimpArgs false
set_option linter.unusedVariables false

abbrev I64 (n : Int) : Prop := -9223372036854775808 ≤ n ∧ n < 9223372036854775808
theorem i64_wf {n : Int} (h : I64 n) : (Lit.int .i64 n).wf = true := by
  simp [Lit.wf, IntKind.min, IntKind.max, IntKind.signed, IntKind.bits]; omega
theorem pf_lits (v : Bool) (l : List Int) (n : Int) (hl : l.length = 16) (ho : Oct l) (hn : I64 n) : Tryz.prog.keyLits 4 51 (pfc v l n) = some (.bool v :: (l.map (Lit.int .u8) ++ [.int .i64 n])) := by
  have h := ip_lits v l hl ho
  have hc1 : Tryz.prog.cellsOf 51 = 18 := by kernel_rfl
  have hc2 : Tryz.prog.cellsOf 27 = 17 := by kernel_rfl
  have hc3 : Tryz.prog.cellsOf 3 = 1 := by kernel_rfl
  unfold Program.keyLits
  rw [Tryz.underlying51]
  have hb : Tryz.prog.keyLits 3 3 [Value.int .i64 n] = some [Lit.int .i64 n] := by
    unfold Program.keyLits
    rw [Tryz.underlying3]
    simp [i64_wf hn]
  have ht : (pfc v l n).take 17 = ipc v l := by show (ipc v l ++ [Value.int .i64 n]).take 17 = _; rw [List.take_append_of_le_length (by simp [hl])]; exact List.take_of_length_le (by simp [hl])
  have hd : ((pfc v l n).drop 17).take 1 = [Value.int .i64 n] := by
    show ((ipc v l ++ [Value.int .i64 n]).drop 17).take 1 = _
    rw [show 17 = (ipc v l).length by simp [hl], List.drop_left]; rfl
  have hlen : (pfc v l n).length = 18 := by simp [hl]
  simp only [hc1, hlen, hc2, hc3, List.mapM_cons, List.mapM_nil, List.drop_zero, ht, hd, h, hb]
  simp [ht, hd, h, hb, hc2, hc3]
theorem pf_formed (v : Bool) (l : List Int) (n : Int) (hl : l.length = 16) : (Value.agg (pfc v l n).toArray).formed Tryz.prog 51 = true := by
  have hc1 : Tryz.prog.cellsOf 51 = 18 := by kernel_rfl
  simp [Value.formed, Tryz.underlying51, hc1, hl]
theorem pf_inj {v v' : Bool} {l l' : List Int} {n n' : Int} (hl : l.length = 16) (hl' : l'.length = 16) :
    (Lit.bool v :: (l.map (Lit.int .u8) ++ [Lit.int .i64 n]) = Lit.bool v' :: (l'.map (Lit.int .u8) ++ [Lit.int .i64 n'])) ↔ (v = v' ∧ l = l' ∧ n = n') := by
  constructor
  · intro h
    simp only [List.cons.injEq, Lit.bool.injEq] at h
    obtain ⟨h1, h2⟩ := List.append_inj h.2 (by simp [hl, hl'])
    simp at h2
    exact ⟨h.1, lits_inj h1, h2⟩
  · rintro ⟨rfl, rfl, rfl⟩; rfl
theorem pf_eql (v v' : Bool) (l l' : List Int) (n n' : Int) (hl : l.length = 16) (hl' : l'.length = 16) (ho : Oct l) (ho' : Oct l') (hn : I64 n) (hn' : I64 n') (b : Bool) (hb : decide (v = v' ∧ l = l' ∧ n = n') = b) (w : World) :
    (binOp .eql 51 (.agg (pfc v l n).toArray) (.agg (pfc v' l' n').toArray)).run Tryz.prog w = .ok (.bool b) w := by
  refine run_eql_key 4 4 4 (by kernel_rfl) (by omega) _ _ _ _ (pf_formed v l n hl) (pf_formed v' l' n' hl') (pf_lits v l n hl ho hn) (pf_lits v' l' n' hl' ho' hn') b ?_ w
  subst hb
  rw [decide_eq_true_eq, pf_inj hl hl']
theorem pf_fetch {ops : Array Oper} {rest : List Oper} {op : Oper} {a : Act} {w : World} {Q : Exit → Act → World → Prop} (hw : Region.wanted op (yielded ops a.tmps) = true) (x : Operand) (ho : op.op = .load 51 x) (b : Nat) (v : Bool) (l : List Int) (n : Int) (hl : l.length = 16)
    (hx : a.eval x = .pointer (some ⟨b, 0, none⟩)) (hc : w.rangeAt b 0 (pfc v l n)) (h : wpList Tryz.prog ops Q rest (a.put op.dst (.agg (pfc v l n).toArray)) w) : wpList Tryz.prog ops Q (op :: rest) a w :=
  BigFrame.wpList_want hw fun _ hK => wp_load_mid 51 x ho b 0 hx (pfc v l n) _ hc Tryz.underlying51 rfl (by simpa using pfc_size v l n hl) (hK _ _ h)

def hasB (v : Bool) (l : List Int) (n : Int) (v' : Bool) (l' : List Int) : Bool := cutB v' l' n && decide (v' = v ∧ firstBits l' n = l)

set_option maxHeartbeats 1000000 in
set_option maxRecDepth 100000 in
theorem has_is (w : World) (v : Bool) (l : List Int) (n : Int) (v' : Bool) (l' : List Int) (hl : l.length = 16) (ho : Oct l) (hl' : l'.length = 16) (ho' : Oct l') (hn : I64 n) :
    Calls Tryz.prog 233 #[.agg (pfc v l n).toArray, .agg (ipc v' l').toArray] w fun e w' => e = .returned (.bool (hasB v l n v' l')) ∧ Below w.heap.size w w' := by
  have hp := range_alloc (range_new w 51 (pfc v l n)) (.cells (ipc v' l').toArray 27) (by simp)
  have ha := range_new (w.alloc (.cells (pfc v l n).toArray 51)) 27 (ipc v' l')
  rw [show (w.alloc (.cells (pfc v l n).toArray 51)).heap.size = w.heap.size + 1 by simp] at ha
  have hc := (range_post (cs := ipc v l) (ds := [Value.int .i64 n]) hp) 0 _ rfl
  rw [show 0 + (ipc v l).length + 0 = 17 by simp [hl]] at hc
  have Hp := Lib.hid hp
  have Ha := Lib.hid ha
  clear hp ha
  go_enter Tryz.func233, Tryz.ntmps233
  go_wp2_with (refine ip_fetch rfl _ rfl (w.heap.size + 1) 0 v' l' hl' rfl Ha.out ?_)
  refine (cut_is _ v' l' n hl' ho').mono ?_
  rintro e w1 ⟨hB, he⟩
  have Hp1 := Lib.hid (range_below Hp.out hB (by simp; omega))
  have HB : Hid (Below w.heap.size w w1) := Lib.hid ((((Below.refl w.heap.size w).alloc (Nat.le_refl _) _).alloc (by simp) _).trans (hB.mono (by simp; omega)))
  have hs1 : w.heap.size < w1.heap.size := by have := hB.size; simp at this; omega
  clear hB Hp Ha hc
  cases hcut : cutB v' l' n
  · rw [hcut] at he
    subst he
    have HR := Lib.hid (show hasB v l n v' l' = false by unfold hasB; rw [hcut]; rfl)
    clear hcut
    go_wp2_with (first | (refine pf_store rfl _ _ rfl w1.heap.size false (List.replicate 16 0) 0 rfl rfl rfl 51 noPf.toArray (Blk.new w1 51 noPf.toArray) rfl ?_))
    go_ret
    exact ⟨by rw [HR.out]; rfl, (HB.out.alloc (Nat.le_of_lt hs1) _).trans (below_setRow _ _ _ (Nat.le_of_lt hs1))⟩
  · rw [hcut] at he
    subst he
    have hr0 : hasB v l n v' l' = decide (v' = v ∧ firstBits l' n = l) := by unfold hasB; rw [hcut, Bool.true_and]
    have hE : ∀ W, (binOp .eql 51 (.agg (pfc v' (firstBits l' n) n).toArray) (.agg (pfc v l n).toArray)).run Tryz.prog W = .ok (.bool (hasB v l n v' l')) W :=
      pf_eql v' v (firstBits l' n) l n n (by rw [fb_len]; exact hl') hl (fb_oct l' n ho') ho hn hn _ (by rw [hr0]; simp)
    have hfl : (firstBits l' n).length = 16 := by rw [fb_len]; exact hl'
    have HF := Lib.hid hfl
    have Hn1 : Hid (((w1.alloc (.cells noPf.toArray 51)).setRow w1.heap.size (pfc v' (firstBits l' n) n).toArray).rangeAt w1.heap.size 0 (pfc v' (firstBits l' n) n)) := Lib.hid (Blk.range (Blk.setRow (Blk.new w1 51 noPf.toArray) _))
    have Hn2 : Hid (((w1.alloc (.cells noPf.toArray 51)).setRow w1.heap.size (pfc v' (firstBits l' n) n).toArray).rangeAt w.heap.size 0 (pfc v l n)) :=
      Lib.hid (range_below (range_alloc Hp1.out _ hs1) (below_setRow _ w1.heap.size _ (Nat.le_refl _)) hs1)
    clear hcut hr0 hfl Hp1
    generalize hr : hasB v l n v' l' = r at *
    have HRR := Lib.hid hr
    clear hr
    generalize firstBits l' n = f at *
    go_wp2_with (first
      | (refine pf_store rfl _ _ rfl w1.heap.size v' f n HF.out rfl rfl 51 noPf.toArray (Blk.new w1 51 noPf.toArray) rfl ?_)
      | (refine pf_fetch rfl _ rfl w1.heap.size v' f n HF.out rfl Hn1.out ?_)
      | (refine pf_fetch rfl _ rfl w.heap.size v l n hl rfl Hn2.out ?_))
    go_ret
    exact ⟨by rw [HRR.out]; rfl, (HB.out.alloc (Nat.le_of_lt hs1) _).trans (below_setRow _ _ _ (Nat.le_of_lt hs1))⟩

def rightPfB (v : Bool) (l : List Int) (n : Int) : Bool := hasB v l n v l
set_option maxHeartbeats 1000000 in
set_option maxRecDepth 100000 in
theorem rpf_is (w : World) (v : Bool) (l : List Int) (n : Int) (hl : l.length = 16) (ho : Oct l) (hn : I64 n) :
    Calls Tryz.prog 219 #[.agg (pfc v l n).toArray] w fun e w' => e = .returned (.bool (rightPfB v l n)) ∧ Below w.heap.size w w' := by
  have hp := range_new w 51 (pfc v l n)
  have Hp := Lib.hid hp
  have Ha := Lib.hid (range_pre (cs := ipc v l) (ds := [Value.int .i64 n]) hp)
  clear hp
  go_enter Tryz.func219, Tryz.ntmps219
  go_wp2_with (first
    | (refine pf_fetch rfl _ rfl w.heap.size v l n hl rfl Hp.out ?_)
    | (refine ip_fetch rfl _ rfl w.heap.size 0 v l hl rfl Ha.out ?_))
  refine (has_is _ v l n v l hl ho hl ho hn).mono ?_
  rintro e w1 ⟨rfl, hB⟩
  have HB := Lib.hid hB
  clear hB
  go_wp2
  go_ret
  exact ⟨rfl, ((Below.refl w.heap.size w).alloc (Nat.le_refl _) _).trans (HB.out.mono (by simp))⟩
end Go.Proofs.YtdgoeibfggjbmaaGreatDoor
namespace Go.Proofs.YtdgoeibfggjbmaaGreatDoor
open Go.RowKit
set_option maxRecDepth 100000
set_option linter.unusedSimpArgs false
set_option linter.unusedVariables false

/-- A route. -/
structure Rt where
  k : Int
  rd : List Int
  es : List Int
  tg : Int
  mc : List Int
  v6 : Bool
  pl : List Int
  pn : Int
  gv : Bool
  gl : List Int
  lb : Int
  l2 : Int
/-- Its cells. -/
def rtc (r : Rt) : List Value := .int .i64 r.k :: (u8s r.rd ++ (u8s r.es ++ (.int .u32 r.tg :: (u8s r.mc ++ (pfc r.v6 r.pl r.pn ++ (ipc r.gv r.gl ++ [.int .u32 r.lb, .int .u32 r.l2]))))))
abbrev U32 (n : Int) : Prop := 0 ≤ n ∧ n < 4294967296
/-- It is one that a variable can hold. -/
structure RtOk (r : Rt) : Prop where
  k : I64 r.k
  rd : r.rd.length = 8
  ord : Oct r.rd
  es : r.es.length = 10
  oes : Oct r.es
  tg : U32 r.tg
  mc : r.mc.length = 6
  omc : Oct r.mc
  pl : r.pl.length = 16
  opl : Oct r.pl
  pn : I64 r.pn
  gl : r.gl.length = 16
  ogl : Oct r.gl
  lb : U32 r.lb
  l2 : U32 r.l2
theorem u8s_len (l : List Int) : (u8s l).length = l.length := by simp
theorem ipc_len (v : Bool) (l : List Int) : (ipc v l).length = l.length + 1 := by simp
theorem pfc_len (v : Bool) (l : List Int) (n : Int) : (pfc v l n).length = l.length + 2 := by simp
theorem rtc_len {r : Rt} (h : RtOk r) : (rtc r).length = 63 := by
  simp only [rtc, List.length_cons, List.length_append, u8s_len, ipc_len, pfc_len, h.rd, h.es, h.mc, h.pl, h.gl, List.length_nil]
theorem one_u8s (l : List Int) : ∀ v ∈ u8s l, v.oneCell' = true := fun v hv => by
  obtain ⟨x, _, rfl⟩ := List.mem_map.1 hv
  rfl
theorem one_ipcN (v : Bool) (l : List Int) : ∀ x ∈ ipc v l, x.oneCell' = true := fun x hx => by
  rcases List.mem_cons.1 hx with rfl | hx
  · rfl
  · exact one_u8s l x hx
theorem pfc_app (v : Bool) (l : List Int) (n : Int) : pfc v l n = ipc v l ++ [.int .i64 n] := rfl
theorem one_pfc (v : Bool) (l : List Int) (n : Int) : ∀ x ∈ pfc v l n, x.oneCell' = true := fun x hx => by
  rw [pfc_app] at hx
  rcases List.mem_append.1 hx with hx | hx
  · exact one_ipcN v l x hx
  · rw [List.mem_singleton] at hx; subst hx; rfl
theorem rtc_one (r : Rt) : ∀ v ∈ rtc r, v.oneCell' = true := by
  intro v hv
  simp only [rtc, List.mem_cons, List.mem_append, List.mem_nil_iff, or_false] at hv
  rcases hv with rfl | hv | hv | rfl | hv | hv | hv | rfl | rfl
  · rfl
  · exact one_u8s _ v hv
  · exact one_u8s _ v hv
  · rfl
  · exact one_u8s _ v hv
  · exact one_pfc r.v6 r.pl r.pn v (by simpa using hv)
  · exact one_ipcN r.gv r.gl v (by simpa using hv)
  · rfl
  · rfl

/-! The places of its fields. -/
section
variable (r : Rt)
def preEs : List Value := .int .i64 r.k :: u8s r.rd
def preTg : List Value := preEs r ++ u8s r.es
def preMc : List Value := preTg r ++ [.int .u32 r.tg]
def prePf : List Value := preMc r ++ u8s r.mc
def preGw : List Value := prePf r ++ pfc r.v6 r.pl r.pn
def preLb : List Value := preGw r ++ ipc r.gv r.gl
def postLb : List Value := [.int .u32 r.l2]
def postGw : List Value := [.int .u32 r.lb, .int .u32 r.l2]
def postPf : List Value := ipc r.gv r.gl ++ postGw r
def postMc : List Value := pfc r.v6 r.pl r.pn ++ postPf r
def postTg : List Value := u8s r.mc ++ postMc r
def postEs : List Value := .int .u32 r.tg :: postTg r
def postRd : List Value := u8s r.es ++ postEs r
theorem rtc_rd : rtc r = [.int .i64 r.k] ++ (u8s r.rd ++ postRd r) := rfl
theorem rtc_es : rtc r = preEs r ++ (u8s r.es ++ postEs r) := rfl
theorem rtc_tg : rtc r = preTg r ++ ([.int .u32 r.tg] ++ postTg r) := by rw [rtc_es, preTg, List.append_assoc]; rfl
theorem rtc_mc : rtc r = preMc r ++ (u8s r.mc ++ postMc r) := by rw [rtc_tg, preMc, List.append_assoc]; rfl
theorem rtc_pf : rtc r = prePf r ++ (pfc r.v6 r.pl r.pn ++ postPf r) := by rw [rtc_mc, prePf, List.append_assoc]; rfl
theorem rtc_ip : rtc r = prePf r ++ (ipc r.v6 r.pl ++ (.int .i64 r.pn :: postPf r)) := by rw [rtc_pf, pfc_app, List.append_assoc]; rfl
theorem rtc_pn : rtc r = (prePf r ++ ipc r.v6 r.pl) ++ ([.int .i64 r.pn] ++ postPf r) := by rw [rtc_ip, List.append_assoc]; rfl
theorem rtc_gw : rtc r = preGw r ++ (ipc r.gv r.gl ++ postGw r) := by rw [rtc_pf, preGw, List.append_assoc]; rfl
theorem rtc_lb : rtc r = preLb r ++ ([.int .u32 r.lb] ++ postLb r) := by rw [rtc_gw, preLb, List.append_assoc]; rfl
theorem rtc_l2 : rtc r = (preLb r ++ [Value.int .u32 r.lb]) ++ ([.int .u32 r.l2] ++ []) := by rw [rtc_lb, List.append_assoc]; rfl
variable {r} (h : RtOk r)
include h
theorem preEs_len : (preEs r).length = 9 := by simp only [preEs, List.length_cons, u8s_len, h.rd]
theorem preTg_len : (preTg r).length = 19 := by rw [preTg, List.length_append, preEs_len h, u8s_len, h.es]
theorem preMc_len : (preMc r).length = 20 := by rw [preMc, List.length_append, preTg_len h]; rfl
theorem prePf_len : (prePf r).length = 26 := by rw [prePf, List.length_append, preMc_len h, u8s_len, h.mc]
theorem prePn_len : (prePf r ++ ipc r.v6 r.pl).length = 43 := by rw [List.length_append, prePf_len h, ipc_len, h.pl]
theorem preGw_len : (preGw r).length = 44 := by rw [preGw, List.length_append, prePf_len h, pfc_len, h.pl]
theorem preLb_len : (preLb r).length = 61 := by rw [preLb, List.length_append, preGw_len h, ipc_len, h.gl]
theorem preL2_len : (preLb r ++ [Value.int .u32 r.lb]).length = 62 := by rw [List.length_append, preLb_len h]; rfl
end

theorem cut_mid (pre mid post : List Value) (o n : Nat) (ho : pre.length = o) (hn : mid.length = n) : ((pre ++ (mid ++ post)).drop o).take n = mid := by
  subst ho hn
  rw [List.drop_left, List.take_left]

/-! Routes compared. -/
theorem u32_wf {n : Int} (h : U32 n) : (Lit.int .u32 n).wf = true := by
  simp [Lit.wf, IntKind.min, IntKind.max, IntKind.signed, IntKind.bits]; omega
theorem ip_lits4 (v : Bool) (l : List Int) (hl : l.length = 16) (ho : Oct l) : Tryz.prog.keyLits 4 27 (ipc v l) = some (.bool v :: l.map (Lit.int .u8)) := by
  have h := keyLits_u8s (P := Tryz.prog) 1 (t := 25) (e := 5) (n := 16) Tryz.underlying25 Tryz.underlying5 (by kernel_rfl) (by kernel_rfl) l hl ho
  have hc1 : Tryz.prog.cellsOf 27 = 17 := by kernel_rfl
  have hc2 : Tryz.prog.cellsOf 25 = 16 := by kernel_rfl
  have hc3 : Tryz.prog.cellsOf 4 = 1 := by kernel_rfl
  unfold Program.keyLits
  rw [Tryz.underlying27]
  have hb : Tryz.prog.keyLits 3 4 [Value.bool v] = some [Lit.bool v] := by
    unfold Program.keyLits
    rw [Tryz.underlying4]
  have ht : (u8s l).take 16 = u8s l := List.take_of_length_le (by simp [hl])
  simp [hc1, hc2, hc3, hl, hb, ht, h]
def rtl (r : Rt) : List Lit := .int .i64 r.k :: (r.rd.map (Lit.int .u8) ++ (r.es.map (Lit.int .u8) ++ (.int .u32 r.tg :: (r.mc.map (Lit.int .u8) ++ ((.bool r.v6 :: (r.pl.map (Lit.int .u8) ++ [.int .i64 r.pn])) ++ ((.bool r.gv :: r.gl.map (Lit.int .u8)) ++ [.int .u32 r.lb, .int .u32 r.l2]))))))
set_option maxHeartbeats 1000000 in
theorem rt_lits (r : Rt) (h : RtOk r) : Tryz.prog.keyLits 5 53 (rtc r) = some (rtl r) := by
  have c1 : Tryz.prog.cellsOf 53 = 63 := by kernel_rfl
  have c2 : Tryz.prog.cellsOf 3 = 1 := by kernel_rfl
  have c3 : Tryz.prog.cellsOf 45 = 8 := by kernel_rfl
  have c4 : Tryz.prog.cellsOf 47 = 10 := by kernel_rfl
  have c5 : Tryz.prog.cellsOf 23 = 1 := by kernel_rfl
  have c6 : Tryz.prog.cellsOf 49 = 6 := by kernel_rfl
  have c7 : Tryz.prog.cellsOf 51 = 18 := by kernel_rfl
  have c8 : Tryz.prog.cellsOf 27 = 17 := by kernel_rfl
  have k1 : Tryz.prog.keyLits 4 3 [Value.int .i64 r.k] = some [Lit.int .i64 r.k] := by
    unfold Program.keyLits
    rw [Tryz.underlying3]
    simp [i64_wf h.k]
  have k2 : Tryz.prog.keyLits 4 45 (u8s r.rd) = some (r.rd.map (Lit.int .u8)) := keyLits_u8s (P := Tryz.prog) 2 (t := 45) (e := 5) (n := 8) Tryz.underlying45 Tryz.underlying5 (by kernel_rfl) (by kernel_rfl) r.rd h.rd h.ord
  have k3 : Tryz.prog.keyLits 4 47 (u8s r.es) = some (r.es.map (Lit.int .u8)) := keyLits_u8s (P := Tryz.prog) 2 (t := 47) (e := 5) (n := 10) Tryz.underlying47 Tryz.underlying5 (by kernel_rfl) (by kernel_rfl) r.es h.es h.oes
  have ku : ∀ n, U32 n → Tryz.prog.keyLits 4 23 [Value.int .u32 n] = some [Lit.int .u32 n] := fun n hn => by
    unfold Program.keyLits
    rw [Tryz.underlying23]
    simp [u32_wf hn]
  have k5 : Tryz.prog.keyLits 4 49 (u8s r.mc) = some (r.mc.map (Lit.int .u8)) := keyLits_u8s (P := Tryz.prog) 2 (t := 49) (e := 5) (n := 6) Tryz.underlying49 Tryz.underlying5 (by kernel_rfl) (by kernel_rfl) r.mc h.mc h.omc
  have k6 := pf_lits r.v6 r.pl r.pn h.pl h.opl h.pn
  have k7 : Tryz.prog.keyLits 4 27 (ipc r.gv r.gl) = some (.bool r.gv :: r.gl.map (Lit.int .u8)) := ip_lits4 r.gv r.gl h.gl h.ogl
  have d1 : (rtc r).take 1 = [Value.int .i64 r.k] := rfl
  have d2 : ((rtc r).drop 1).take 8 = u8s r.rd := by rw [rtc_rd]; exact cut_mid _ _ _ _ _ rfl (by simp [h.rd])
  have d3 : ((rtc r).drop 9).take 10 = u8s r.es := by rw [rtc_es]; exact cut_mid _ _ _ _ _ (preEs_len h) (by simp [h.es])
  have d4 : ((rtc r).drop 19).take 1 = [Value.int .u32 r.tg] := by rw [rtc_tg]; exact cut_mid _ _ _ _ _ (preTg_len h) rfl
  have d5 : ((rtc r).drop 20).take 6 = u8s r.mc := by rw [rtc_mc]; exact cut_mid _ _ _ _ _ (preMc_len h) (by simp [h.mc])
  have d6 : ((rtc r).drop 26).take 18 = pfc r.v6 r.pl r.pn := by rw [rtc_pf]; exact cut_mid _ _ _ _ _ (prePf_len h) (by simp [h.pl])
  have d7 : ((rtc r).drop 44).take 17 = ipc r.gv r.gl := by rw [rtc_gw]; exact cut_mid _ _ _ _ _ (preGw_len h) (by simp [h.gl])
  have d8 : ((rtc r).drop 61).take 1 = [Value.int .u32 r.lb] := by rw [rtc_lb]; exact cut_mid _ _ _ _ _ (preLb_len h) rfl
  have d9 : ((rtc r).drop 62).take 1 = [Value.int .u32 r.l2] := by rw [rtc_l2]; exact cut_mid _ _ _ _ _ (preL2_len h) rfl
  have d2' : (rtc r).tail.take 8 = u8s r.rd := by simpa using d2
  have hlen := rtc_len h
  unfold Program.keyLits
  rw [Tryz.underlying53]
  generalize rtc r = cs at *
  simp [c1, hlen, c2, c3, c4, c5, c6, c7, c8, List.mapM_cons, List.mapM_nil, d1, d2', d3, d4, d5, d6, d7, d8, d9, k1, k2, k3, ku r.tg h.tg, k5, k6, k7, ku r.lb h.lb, ku r.l2 h.l2]
  simp [rtl]
theorem rt_formed (r : Rt) (h : RtOk r) : (Value.agg (rtc r).toArray).formed Tryz.prog 53 = true := by
  have hc1 : Tryz.prog.cellsOf 53 = 63 := by kernel_rfl
  simp [Value.formed, Tryz.underlying53, hc1, rtc_len h]
theorem rtl_inj {r s : Rt} (hr : RtOk r) (hs : RtOk s) (h : rtl r = rtl s) : r = s := by
  unfold rtl at h
  rw [List.cons.injEq] at h
  obtain ⟨e1, h⟩ := h
  obtain ⟨e2, h⟩ := List.append_inj h (by simp [hr.rd, hs.rd])
  obtain ⟨e3, h⟩ := List.append_inj h (by simp [hr.es, hs.es])
  rw [List.cons.injEq] at h
  obtain ⟨e4, h⟩ := h
  obtain ⟨e5, h⟩ := List.append_inj h (by simp [hr.mc, hs.mc])
  obtain ⟨e6, h⟩ := List.append_inj h (by simp [hr.pl, hs.pl])
  obtain ⟨e6a, e6b, e6c⟩ := (pf_inj hr.pl hs.pl).1 e6
  obtain ⟨e7, h⟩ := List.append_inj h (by simp [hr.gl, hs.gl])
  rw [List.cons.injEq] at e7
  obtain ⟨e7a, e7b⟩ := e7
  simp only [List.cons.injEq, Lit.int.injEq, true_and, and_true] at h e1 e4
  simp only [Lit.bool.injEq] at e7a
  obtain ⟨k, rd, es, tg, mc, v6, pl, pn, gv, gl, lb, l2⟩ := r
  obtain ⟨k', rd', es', tg', mc', v6', pl', pn', gv', gl', lb', l2'⟩ := s
  simp only at *
  rw [e1, lits_inj e2, lits_inj e3, e4, lits_inj e5, e6a, e6b, e6c, e7a, lits_inj e7b, h.1, h.2]
theorem rt_eql (r s : Rt) (hr : RtOk r) (hs : RtOk s) (b : Bool) (hb : b = true ↔ r = s) (w : World) : (binOp .eql 53 (.agg (rtc r).toArray) (.agg (rtc s).toArray)).run Tryz.prog w = .ok (.bool b) w :=
  run_eql_key 5 5 5 (by kernel_rfl) (by omega) _ _ _ _ (rt_formed r hr) (rt_formed s hs) (rt_lits r hr) (rt_lits s hs) b (hb.trans ⟨fun e => by rw [e], rtl_inj hr hs⟩) w
/-! Where one lies. -/
structure RtAt (w : World) (g : Nat) (r : Rt) : Prop where
  rng : w.rangeAt g 0 (rtc r)
  thr : w.there g 0 63
section
variable {w w' : World} {g : Nat} {r s : Rt}
theorem RtAt.lt (h : RtAt w g r) : g < w.heap.size := range_lt h.rng (by simp [rtc])
theorem RtAt.keep (h : RtAt w g r) (hk : w'.heap[g]? = w.heap[g]?) : RtAt w' g r :=
  ⟨range_keep h.rng fun p hp => World.cell?_of_block (by rw [hp]; exact hk), fun j hj => by
    have h1 := h.thr j hj
    have e1 : w'.cell? ⟨g, 0 + j, none⟩ = w.cell? ⟨g, 0 + j, none⟩ := World.cell?_of_block hk
    have e2 : w'.frozen? ⟨g, 0 + j, none⟩ = w.frozen? ⟨g, 0 + j, none⟩ := by unfold World.frozen?; simp only [hk]
    rw [e1, e2]
    exact h1⟩
theorem RtAt.below {B : Nat} (h : RtAt w g r) (hb : Below B w w') (hg : g < B) : RtAt w' g r := h.keep (hb.block g hg)
theorem RtAt.alloc (h : RtAt w g r) (o : Obj) : RtAt (w.alloc o) g r := h.keep (Below.heap_alloc w o g h.lt)
theorem RtAt.grown {row : Option Nat} (h : RtAt w g r) (hb : w.grownBy w' row) (hg : some g ≠ row) : RtAt w' g r := h.keep (hb.block g h.lt hg)
theorem RtAt.new (w : World) (r : Rt) (hr : RtOk r) (t : TypeId) : RtAt (w.alloc (.cells (rtc r).toArray t)) w.heap.size r :=
  ⟨range_new w t (rtc r), fun j hj => by
    have hb := Blk.new w t (rtc r).toArray
    rw [hb.cell, hb.frozen]
    refine ⟨?_, rfl⟩
    have := rtc_len hr
    simp
    omega⟩
theorem RtAt.row {t : TypeId} {old : Array Value} (h : Blk w g t old) (hr : RtOk r) : RtAt (w.setRow g (rtc r).toArray) g r :=
  ⟨(h.setRow _).range, fun j hj => by
    have hb := h.setRow (rtc r).toArray
    rw [hb.cell, hb.frozen]
    refine ⟨?_, rfl⟩
    have := rtc_len hr
    simp
    omega⟩
theorem RtAt.cells {pre old new post : List Value} {o : Nat} (h : RtAt w g r) (hr : RtOk r) (e : rtc r = pre ++ (old ++ post)) (e' : rtc s = pre ++ (new ++ post)) (ho : pre.length = o) (hl : new.length = old.length) : RtAt (w.setCells g o new) g s := by
  subst ho
  have hlen := rtc_len hr
  rw [e, List.length_append, List.length_append] at hlen
  have ht : w.there g pre.length new.length := fun j hj => by
    have := h.thr (pre.length + j) (by omega)
    rwa [Nat.zero_add] at this
  have hrng := h.rng
  rw [e] at hrng
  refine ⟨?_, World.there_setCells h.thr _ _ _⟩
  rw [e']
  have h1 := World.rangeAt_setCells_apart (range_pre hrng) g pre.length new (Or.inr (Or.inl (by omega)))
  have h2 := World.rangeAt_setCells_same w g pre.length new ht
  have h3 := World.rangeAt_setCells_apart (range_post (range_post hrng)) g pre.length new (Or.inr (Or.inr (by omega)))
  intro j v hv
  rcases Nat.lt_or_ge j pre.length with c | c
  · rw [List.getElem?_append_left c] at hv
    exact h1 j v hv
  · rw [List.getElem?_append_right c] at hv
    rcases Nat.lt_or_ge (j - pre.length) new.length with d | d
    · rw [List.getElem?_append_left d] at hv
      have := h2 _ v hv
      rwa [show pre.length + (j - pre.length) = 0 + j by omega] at this
    · rw [List.getElem?_append_right d] at hv
      have := h3 _ v hv
      rwa [show 0 + pre.length + old.length + (j - pre.length - new.length) = 0 + j by omega] at this
/-- Some cells of it are there to be written. -/
theorem RtAt.thereAt (h : RtAt w g r) (o n : Nat) (hn : o + n ≤ 63) : w.there g o n := fun j hj => by
  have := h.thr (o + j) (by omega)
  rwa [Nat.zero_add] at this
variable (h : RtAt w g r) (hr : RtOk r)
include h hr
theorem RtAt.setEs (l : List Int) (hl : l.length = 10) : RtAt (w.setCells g 9 (u8s l)) g { r with es := l } := h.cells hr (rtc_es r) (rtc_es _) (preEs_len hr) (by simp [hl, hr.es])
theorem RtAt.setMc (l : List Int) (hl : l.length = 6) : RtAt (w.setCells g 20 (u8s l)) g { r with mc := l } := h.cells hr (rtc_mc r) (rtc_mc _) (preMc_len hr) (by simp [hl, hr.mc])
theorem RtAt.setPf (v : Bool) (l : List Int) (n : Int) (hl : l.length = 16) : RtAt (w.setCells g 26 (pfc v l n)) g { r with v6 := v, pl := l, pn := n } := h.cells hr (rtc_pf r) (rtc_pf _) (prePf_len hr) (by simp [hl, hr.pl])
theorem RtAt.setIp (v : Bool) (l : List Int) (hl : l.length = 16) : RtAt (w.setCells g 26 (ipc v l)) g { r with v6 := v, pl := l } := h.cells hr (rtc_ip r) (rtc_ip _) (prePf_len hr) (by simp [hl, hr.pl])
theorem RtAt.setGw (v : Bool) (l : List Int) (hl : l.length = 16) : RtAt (w.setCells g 44 (ipc v l)) g { r with gv := v, gl := l } := h.cells hr (rtc_gw r) (rtc_gw _) (preGw_len hr) (by simp [hl, hr.gl])
theorem RtAt.setTg (n : Int) : RtAt (w.setCell ⟨g, 19, none⟩ (.int .u32 n)) g { r with tg := n } := h.cells (new := [.int .u32 n]) hr (rtc_tg r) (rtc_tg _) (preTg_len hr) rfl
theorem RtAt.setPn (n : Int) : RtAt (w.setCell ⟨g, 43, none⟩ (.int .i64 n)) g { r with pn := n } := h.cells (new := [.int .i64 n]) hr (rtc_pn r) (rtc_pn _) (prePn_len hr) rfl
theorem RtAt.setLb (n : Int) : RtAt (w.setCell ⟨g, 61, none⟩ (.int .u32 n)) g { r with lb := n } := h.cells (new := [.int .u32 n]) hr (rtc_lb r) (rtc_lb _) (preLb_len hr) rfl
theorem RtAt.setL2 (n : Int) : RtAt (w.setCell ⟨g, 62, none⟩ (.int .u32 n)) g { r with l2 := n } := h.cells (new := [.int .u32 n]) hr (rtc_l2 r) (rtc_l2 _) (preL2_len hr) rfl
omit hr in
theorem RtAt.cK : w.cell? ⟨g, 0, none⟩ = some (.int .i64 r.k) := h.rng 0 _ rfl
omit hr in
theorem RtAt.part {pre mid post : List Value} {o : Nat} (e : rtc r = pre ++ (mid ++ post)) (ho : pre.length = o) : w.rangeAt g o mid := by
  subst ho
  have hrng := h.rng
  rw [e] at hrng
  have := range_pre (range_post hrng)
  rwa [Nat.zero_add] at this
omit hr in
theorem RtAt.rRd : w.rangeAt g 1 (u8s r.rd) := h.part (rtc_rd r) rfl
theorem RtAt.rEs : w.rangeAt g 9 (u8s r.es) := h.part (rtc_es r) (preEs_len hr)
theorem RtAt.rMc : w.rangeAt g 20 (u8s r.mc) := h.part (rtc_mc r) (preMc_len hr)
theorem RtAt.rPf : w.rangeAt g 26 (pfc r.v6 r.pl r.pn) := h.part (rtc_pf r) (prePf_len hr)
theorem RtAt.rIp : w.rangeAt g 26 (ipc r.v6 r.pl) := h.part (rtc_ip r) (prePf_len hr)
theorem RtAt.rGw : w.rangeAt g 44 (ipc r.gv r.gl) := h.part (rtc_gw r) (preGw_len hr)
theorem RtAt.cTg : w.cell? ⟨g, 19, none⟩ = some (.int .u32 r.tg) := (h.part (rtc_tg r) (preTg_len hr)) 0 _ rfl
theorem RtAt.cPn : w.cell? ⟨g, 43, none⟩ = some (.int .i64 r.pn) := (h.part (rtc_pn r) (prePn_len hr)) 0 _ rfl
theorem RtAt.cV6 : w.cell? ⟨g, 26, none⟩ = some (.bool r.v6) := (h.rIp hr) 0 _ rfl
theorem RtAt.cGv : w.cell? ⟨g, 44, none⟩ = some (.bool r.gv) := (h.rGw hr) 0 _ rfl
theorem RtAt.cLb : w.cell? ⟨g, 61, none⟩ = some (.int .u32 r.lb) := (h.part (rtc_lb r) (preLb_len hr)) 0 _ rfl
theorem RtAt.cL2 : w.cell? ⟨g, 62, none⟩ = some (.int .u32 r.l2) := (h.part (rtc_l2 r) (preL2_len hr)) 0 _ rfl
end

/-! Loaded and stored as a whole. -/
theorem rt_size : (Tryz.prog.info? 53).map (·.size) = some 63 := by kernel_rfl
theorem rt_fetch {ops : Array Oper} {rest : List Oper} {op : Oper} {a : Act} {w : World} {Q : Exit → Act → World → Prop} (hw : Region.wanted op (yielded ops a.tmps) = true) (x : Operand) (ho : op.op = .load 53 x)
    (g : Nat) (r : Rt) (hr : RtOk r) (hx : a.eval x = .pointer (some ⟨g, 0, none⟩)) (hc : RtAt w g r) (h : wpList Tryz.prog ops Q rest (a.put op.dst (.agg (rtc r).toArray)) w) : wpList Tryz.prog ops Q (op :: rest) a w :=
  BigFrame.wpList_want hw fun _ hK => wp_load_mid 53 x ho g 0 hx (rtc r) _ hc.rng Tryz.underlying53 rfl (by rw [rt_size, rtc_len hr]) (hK _ _ h)
theorem rt_store {ops : Array Oper} {rest : List Oper} {o : Oper} {a : Act} {w : World} {Q : Exit → Act → World → Prop} (hgd : o.guard = none) (x y : Operand) (ho : o.op = .store 53 x y) (g : Nat) (r : Rt) (hr : RtOk r)
    (hx : a.eval x = .pointer (some ⟨g, 0, none⟩)) (hy : a.eval y = .agg (rtc r).toArray) (t : TypeId) (old : Array Value) (hg : Blk w g t old) (hold : old.size = 63)
    (h : wpList Tryz.prog ops Q rest (a.put o.dst undef) (w.setRow g (rtc r).toArray)) : wpList Tryz.prog ops Q (o :: rest) a w :=
  wpList_store_row hgd 53 x y ho g _ hx hy t old hg (by rw [rt_size]; simp [rtc_len hr]) (by rw [hold]; simp [rtc_len hr]) (all_oneCell_toArray (rtc_one r)) h
/-- A part that is no single cell, loaded, stored. -/
theorem part_fetch {ops : Array Oper} {rest : List Oper} {op : Oper} {a : Act} {w : World} {Q : Exit → Act → World → Prop} (hw : Region.wanted op (yielded ops a.tmps) = true) (ty : TypeId) (x : Operand) (ho : op.op = .load ty x)
    (g o : Nat) (cs : List Value) (d : TypeDesc) (hx : a.eval x = .pointer (some ⟨g, o, none⟩)) (hc : w.rangeAt g o cs) (hu : Tryz.prog.underlying ty = some d) (hd : d.isRow = true) (hi : (Tryz.prog.info? ty).map (·.size) = some cs.length)
    (h : wpList Tryz.prog ops Q rest (a.put op.dst (.agg cs.toArray)) w) : wpList Tryz.prog ops Q (op :: rest) a w :=
  BigFrame.wpList_want hw fun _ hK => wp_load_mid ty x ho g o hx cs _ hc hu hd hi (hK _ _ h)
theorem part_store {ops : Array Oper} {rest : List Oper} {o : Oper} {a : Act} {w : World} {Q : Exit → Act → World → Prop} (hgd : o.guard = none) (ty : TypeId) (x y : Operand) (ho : o.op = .store ty x y) (g off : Nat) (cs : List Value)
    (hx : a.eval x = .pointer (some ⟨g, off, none⟩)) (hy : a.eval y = .agg cs.toArray) (ht : w.there g off cs.length) (hi : (Tryz.prog.info? ty).map (·.size) = some cs.length) (h1 : ∀ v ∈ cs, v.oneCell' = true)
    (h : wpList Tryz.prog ops Q rest (a.put o.dst undef) (w.setCells g off cs)) : wpList Tryz.prog ops Q (o :: rest) a w :=
  wpList_store_mid hgd ty x y ho g off cs.toArray hx hy (by simpa using ht) (by simpa using hi) (all_oneCell_toArray h1) (by simpa using h)

def rtZ (k : Int) (rd : List Int) : Rt := ⟨k, rd, List.replicate 10 0, 0, List.replicate 6 0, false, z16, 0, false, z16, 0, 0⟩
theorem oct_zeros (n : Nat) : Oct (List.replicate n 0) := fun x hx => by rw [List.eq_of_mem_replicate hx]; omega
theorem u32_0 : U32 0 := ⟨by omega, by omega⟩
theorem i64_0 : I64 0 := ⟨by omega, by omega⟩
theorem rtZ_ok (k : Int) (rd : List Int) (hk : I64 k) (hl : rd.length = 8) (ho : Oct rd) : RtOk (rtZ k rd) :=
  ⟨hk, hl, ho, by simp [rtZ], oct_zeros 10, u32_0, by simp [rtZ], oct_zeros 6, by simp [rtZ, z16], oct_zeros 16, i64_0, by simp [rtZ, z16], oct_zeros 16, u32_0, u32_0⟩
theorem built_rt8 (k b0 b1 b2 b3 b4 b5 b6 b7 : Int) : Tryz.prog.built 53 [(0, .int .i64 k), (1, .agg (u8s [b0, b1, b2, b3, b4, b5, b6, b7]).toArray)] = some (rtc (rtZ k [b0, b1, b2, b3, b4, b5, b6, b7])).toArray := by kernel_rfl
theorem built_rt (k : Int) (rd : List Int) (hl : rd.length = 8) : Tryz.prog.built 53 [(0, .int .i64 k), (1, .agg (u8s rd).toArray)] = some (rtc (rtZ k rd)).toArray := by
  match rd, hl with
  | [b0, b1, b2, b3, b4, b5, b6, b7], _ => exact built_rt8 k b0 b1 b2 b3 b4 b5 b6 b7
theorem built_k (k : Int) : Tryz.prog.built 53 [(0, .int .i64 k)] = some (rtc (rtZ k (List.replicate 8 0))).toArray := by kernel_rfl
theorem built_0 : Tryz.prog.built 53 [] = some (rtc (rtZ 0 (List.replicate 8 0))).toArray := by kernel_rfl
end Go.Proofs.YtdgoeibfggjbmaaGreatDoor
