/-
  Layer 3 (frame), the plain mathematics: headers, and bytes parted into messages. No program is named here.
-/
import Derived.Test.YtoiigalaijnoeaaWords
namespace Go.Proofs.Ytoiigalaijnoeaa

/-- A fault: its code, its sub, its data. -/
structure Flt where
  code : Int
  sub : Int
  data : List Int

abbrev Msg := Int × List Int

def mk16 (l : List Int) : Bool := (l.take 16).all fun x => x == 255
def lenI (l : List Int) : Int := 256 * l.getD 16 0 + l.getD 17 0
def kindI (l : List Int) : Int := l.getD 18 0
def isKindB (k : Int) : Bool := decide (1 ≤ k) && decide (k ≤ 5)
def leastI (k : Int) : Int := if k = 1 then 10 else if k = 2 then 4 else if k = 3 then 2 else if k = 5 then 4 else 0
def mostI (k : Int) : Int := if k = 1 then 4077 else if k = 2 then 4077 else if k = 3 then 4077 else if k = 5 then 4 else 0
def isLenB (n : Int) : Bool := decide (19 ≤ n) && decide (n ≤ 4096)
def isBodyB (n k : Int) : Bool := decide (leastI k ≤ n) && decide (n ≤ mostI k)
def lenFlt (l : List Int) : Flt := ⟨1, 2, [l.getD 16 0, l.getD 17 0]⟩
/-- What is wrong with a header, the first thing alone. -/
def hdr (l : List Int) : Option Flt :=
  if mk16 l = false then some ⟨1, 1, []⟩
  else if isLenB (lenI l) = false then some (lenFlt l)
  else if isKindB (kindI l) = false then some ⟨1, 3, [kindI l]⟩
  else if isBodyB (lenI l - 19) (kindI l) = false then some (lenFlt l)
  else none
def lenN (l : List Int) : Nat := max 19 (lenI l).toNat
def msgOf (l : List Int) : Msg := (kindI l, (l.drop 19).take (lenN l - 19))

theorem leastI_bd (k : Int) : 0 ≤ leastI k ∧ leastI k ≤ 10 := by unfold leastI; split; omega; split; omega; split; omega; split <;> omega
theorem mostI_bd (k : Int) : 0 ≤ mostI k ∧ mostI k ≤ 4077 := by unfold mostI; split; omega; split; omega; split; omega; split <;> omega

theorem getD_app {a b : List Int} {i : Nat} (h : i < a.length) : (a ++ b).getD i 0 = a.getD i 0 := by
  simp [List.getD, List.getElem?_append_left h]
theorem mk16_app {a : List Int} (b : List Int) (h : 19 ≤ a.length) : mk16 (a ++ b) = mk16 a := by
  unfold mk16
  rw [List.take_append_of_le_length (by omega)]
theorem lenI_app {a : List Int} (b : List Int) (h : 19 ≤ a.length) : lenI (a ++ b) = lenI a := by
  unfold lenI
  rw [getD_app (by omega), getD_app (by omega)]
theorem kindI_app {a : List Int} (b : List Int) (h : 19 ≤ a.length) : kindI (a ++ b) = kindI a := by
  unfold kindI
  rw [getD_app (by omega)]
theorem hdr_app {a : List Int} (b : List Int) (h : 19 ≤ a.length) : hdr (a ++ b) = hdr a := by
  unfold hdr lenFlt
  rw [mk16_app b h, lenI_app b h, kindI_app b h, getD_app (by omega), getD_app (by omega)]
theorem lenN_app {a : List Int} (b : List Int) (h : 19 ≤ a.length) : lenN (a ++ b) = lenN a := by
  unfold lenN
  rw [lenI_app b h]
theorem hdr_none {l : List Int} (h : hdr l = none) : mk16 l = true ∧ isLenB (lenI l) = true ∧ isKindB (kindI l) = true ∧ isBodyB (lenI l - 19) (kindI l) = true := by
  unfold hdr at h
  split at h
  · cases h
  · split at h
    · cases h
    · split at h
      · cases h
      · split at h
        · cases h
        · simp_all
theorem lenN_none {l : List Int} (h : hdr l = none) : (lenN l : Int) = lenI l ∧ 19 ≤ lenN l ∧ lenN l ≤ 4096 := by
  obtain ⟨_, h2, _, _⟩ := hdr_none h
  unfold isLenB at h2
  simp at h2
  unfold lenN
  omega
theorem lenN_ge (l : List Int) : 19 ≤ lenN l := by unfold lenN; omega

inductive St where
  | wait (c : List Int)
  | bad (f : Flt)

/-- Bytes parted into messages. -/
def parse (l : List Int) : List Msg × St :=
  if l.length < 19 then ([], .wait l)
  else match hdr l with
    | some f => ([], .bad f)
    | none => if l.length < lenN l then ([], .wait l) else
      (msgOf l :: (parse (l.drop (lenN l))).1, (parse (l.drop (lenN l))).2)
termination_by l.length
decreasing_by
  all_goals
    have := lenN_ge l
    simp
    omega

theorem parse_short {l : List Int} (h : l.length < 19) : parse l = ([], .wait l) := by
  rw [parse, if_pos h]
theorem parse_bad {l : List Int} {f : Flt} (h : 19 ≤ l.length) (hf : hdr l = some f) : parse l = ([], .bad f) := by
  rw [parse, if_neg (by omega), hf]
theorem parse_part {l : List Int} (h : 19 ≤ l.length) (hf : hdr l = none) (h2 : l.length < lenN l) : parse l = ([], .wait l) := by
  rw [parse, if_neg (by omega), hf]
  simp only [if_pos h2]
theorem parse_whole {l : List Int} (hf : hdr l = none) (h2 : lenN l ≤ l.length) : parse l = (msgOf l :: (parse (l.drop (lenN l))).1, (parse (l.drop (lenN l))).2) := by
  have := lenN_ge l
  rw [parse, if_neg (by omega), hf]
  simp only [if_neg (show ¬ l.length < lenN l by omega)]

/-- Bytes that are no whole message yet, and have no fault. -/
def Quiet (c : List Int) : Prop := c.length < 19 ∨ (hdr c = none ∧ c.length < lenN c)
theorem parse_quiet {c : List Int} (h : Quiet c) : parse c = ([], .wait c) := by
  rcases h with h | ⟨h, h2⟩
  · exact parse_short h
  · rcases Nat.lt_or_ge c.length 19 with h3 | h3
    · exact parse_short h3
    · exact parse_part h3 h h2
theorem Quiet.small {c : List Int} (h : Quiet c) : c.length < 4096 := by
  rcases h with h | ⟨h, h2⟩
  · omega
  · have := lenN_none h
    omega
theorem Quiet.nil_ : Quiet [] := .inl (by simp)

/-- What is known of where a parse ends. -/
def Fine : St → Prop
  | .wait c => Quiet c ∧ Oct c
  | .bad f => Oct f.data ∧ f.data.length ≤ 2 ∧ f.code = 1 ∧ 1 ≤ f.sub ∧ f.sub ≤ 3

theorem hdr_fine {l : List Int} (ho : Oct l) {f : Flt} (h : hdr l = some f) : Fine (.bad f) := by
  have h16 := ho.getD 16
  have h17 := ho.getD 17
  have h18 := ho.getD 18
  have two : Fine (.bad (lenFlt l)) := by
    refine ⟨fun x hx => ?_, by simp [lenFlt], rfl, by simp [lenFlt], by simp [lenFlt]⟩
    simp only [lenFlt, List.mem_cons, List.mem_nil_iff, or_false] at hx
    rcases hx with rfl | rfl
    · exact h16
    · exact h17
  unfold hdr at h
  split at h
  · injection h with h
    subst h
    exact ⟨(fun x hx => by cases hx), by simp, rfl, by simp, by simp⟩
  · split at h
    · injection h with h
      subst h
      exact two
    · split at h
      · injection h with h
        subst h
        refine ⟨fun x hx => ?_, by simp, rfl, by simp, by simp⟩
        simp only [List.mem_cons, List.mem_nil_iff, or_false] at hx
        subst hx
        exact h18
      · split at h
        · injection h with h
          subst h
          exact two
        · cases h

theorem parse_ind {P : List Int → List Msg × St → Prop} (h1 : ∀ l, l.length < 19 → P l ([], .wait l)) (h2 : ∀ l f, 19 ≤ l.length → hdr l = some f → P l ([], .bad f))
    (h3 : ∀ l, 19 ≤ l.length → hdr l = none → l.length < lenN l → P l ([], .wait l))
    (h4 : ∀ l, hdr l = none → lenN l ≤ l.length → P (l.drop (lenN l)) (parse (l.drop (lenN l))) → P l (msgOf l :: (parse (l.drop (lenN l))).1, (parse (l.drop (lenN l))).2)) (l : List Int) : P l (parse l) := by
  generalize hn : l.length = n
  induction n using Nat.strongRecOn generalizing l with
  | _ n ih =>
    rcases Nat.lt_or_ge l.length 19 with h | h
    · rw [parse_short h]; exact h1 l h
    · cases hf : hdr l with
      | some f => rw [parse_bad h hf]; exact h2 l f h hf
      | none =>
        rcases Nat.lt_or_ge l.length (lenN l) with h5 | h5
        · rw [parse_part h hf h5]; exact h3 l h hf h5
        · rw [parse_whole hf h5]
          have := lenN_ge l
          exact h4 l hf h5 (ih (l.length - lenN l) (by omega) _ (by simp))

theorem oct_drop {l : List Int} (h : Oct l) (n : Nat) : Oct (l.drop n) := fun x hx => h x (List.mem_of_mem_drop hx)
theorem oct_take {l : List Int} (h : Oct l) (n : Nat) : Oct (l.take n) := fun x hx => h x (List.mem_of_mem_take hx)
theorem oct_app {a b : List Int} (ha : Oct a) (hb : Oct b) : Oct (a ++ b) := fun x hx => (List.mem_append.1 hx).elim (ha x) (hb x)
theorem oct_nil : Oct [] := fun x h => by cases h

theorem parse_fine (l : List Int) : Oct l → Fine (parse l).2 ∧ ∀ m ∈ (parse l).1, (0 ≤ m.1 ∧ m.1 < 256) ∧ Oct m.2 := by
  refine parse_ind (P := fun l r => Oct l → Fine r.2 ∧ ∀ m ∈ r.1, (0 ≤ m.1 ∧ m.1 < 256) ∧ Oct m.2) ?_ ?_ ?_ ?_ l
  · exact fun l h ho => ⟨⟨.inl h, ho⟩, fun m hm => by cases hm⟩
  · exact fun l f h hf ho => ⟨hdr_fine ho hf, fun m hm => by cases hm⟩
  · exact fun l h hf h2 ho => ⟨⟨.inr ⟨hf, h2⟩, ho⟩, fun m hm => by cases hm⟩
  · intro l hf h2 ih ho
    obtain ⟨i1, i2⟩ := ih (oct_drop ho _)
    refine ⟨i1, fun m hm => ?_⟩
    rcases List.mem_cons.1 hm with rfl | hm
    · exact ⟨ho.getD 18, oct_take (oct_drop ho _) _⟩
    · exact i2 m hm

/-- Each message takes nineteen bytes and more. -/
theorem parse_count (l : List Int) : (parse l).1.length * 19 ≤ l.length := by
  refine parse_ind (P := fun l r => r.1.length * 19 ≤ l.length) ?_ ?_ ?_ ?_ l
  · intro l _; simp
  · intro l f _ _; simp
  · intro l _ _ _; simp
  · intro l hf h2 ih
    have := lenN_ge l
    simp at ih ⊢
    omega

/-- A stream goes on from where it stands. -/
def feed : St → List Int → List Msg × St
  | .wait c, b => parse (c ++ b)
  | .bad f, _ => ([], .bad f)

theorem parse_app (a : List Int) : ∀ b, parse (a ++ b) = ((parse a).1 ++ (feed (parse a).2 b).1, (feed (parse a).2 b).2) := by
  refine parse_ind (P := fun a r => ∀ b, parse (a ++ b) = (r.1 ++ (feed r.2 b).1, (feed r.2 b).2)) ?_ ?_ ?_ ?_ a
  · intro l h b
    simp [feed]
  · intro l f h hf b
    rw [parse_bad (by simp; omega) ((hdr_app b h).trans hf)]
    simp [feed]
  · intro l h hf h2 b
    simp [feed]
  · intro l hf h2 ih b
    have h19 := lenN_ge l
    have hl : 19 ≤ l.length := by omega
    rw [parse_whole ((hdr_app b hl).trans hf) (by rw [lenN_app b hl]; simp; omega), lenN_app b hl, List.drop_append_of_le_length h2, ih b]
    have hm : msgOf (l ++ b) = msgOf l := by
      unfold msgOf
      rw [kindI_app b hl, lenN_app b hl, List.drop_append_of_le_length hl, List.take_append_of_le_length (by simp; omega)]
    rw [hm]
    rfl

theorem feed_app (st : St) (a b : List Int) : feed st (a ++ b) = ((feed st a).1 ++ (feed (feed st a).2 b).1, (feed (feed st a).2 b).2) := by
  cases st with
  | wait c =>
    show parse (c ++ (a ++ b)) = _
    rw [← List.append_assoc, parse_app]
    rfl
  | bad f => simp [feed]
theorem feed_nil {st : St} (h : Fine st) : feed st [] = ([], st) := by
  cases st with
  | wait c =>
    show parse (c ++ []) = _
    rw [List.append_nil, parse_quiet h.1]
  | bad f => rfl
theorem feed_fine {st : St} {b : List Int} (h : Fine st) (hb : Oct b) : Fine (feed st b).2 ∧ ∀ m ∈ (feed st b).1, (0 ≤ m.1 ∧ m.1 < 256) ∧ Oct m.2 := by
  cases st with
  | wait c => exact parse_fine _ (oct_app h.2 hb)
  | bad f => exact ⟨h, fun m hm => by cases hm⟩

/-! Putting. -/
def putL (k : Int) (b : List Int) : List Int := List.replicate 16 255 ++ ([((19 + b.length : Nat) : Int) / 256, ((19 + b.length : Nat) : Int) % 256, k] ++ b)
def FitsB (k : Int) (n : Nat) : Prop := isKindB k = true ∧ leastI k ≤ n ∧ (n : Int) ≤ mostI k
theorem putL_len (k : Int) (b : List Int) : (putL k b).length = 19 + b.length := by simp [putL]; omega
theorem putL_oct (k : Int) (b : List Int) (h : FitsB k b.length) (hb : Oct b) : Oct (putL k b) := by
  have := mostI_bd k
  obtain ⟨h1, h2, h3⟩ := h
  unfold isKindB at h1
  simp at h1
  refine oct_app (fun x hx => ?_) (oct_app (fun x hx => ?_) hb)
  · rw [List.eq_of_mem_replicate hx]; omega
  · simp only [List.mem_cons, List.mem_nil_iff, or_false] at hx
    rcases hx with rfl | rfl | rfl <;> omega
theorem putL_head (k : Int) (b : List Int) : (putL k b).getD 16 0 = ((19 + b.length : Nat) : Int) / 256 ∧ (putL k b).getD 17 0 = ((19 + b.length : Nat) : Int) % 256 ∧ (putL k b).getD 18 0 = k := by
  refine ⟨?_, ?_, ?_⟩ <;> rfl
theorem putL_mark (k : Int) (b : List Int) : mk16 (putL k b) = true := by
  unfold mk16 putL
  rw [List.take_append_of_le_length (by simp)]
  rfl
theorem putL_lenI (k : Int) (b : List Int) : lenI (putL k b) = (19 + b.length : Nat) := by
  obtain ⟨h1, h2, _⟩ := putL_head k b
  unfold lenI
  rw [h1, h2]
  omega
theorem putL_hdr (k : Int) (b : List Int) (h : FitsB k b.length) : hdr (putL k b) = none := by
  have hm := mostI_bd k
  have hle := leastI_bd k
  obtain ⟨h1, h2, h3⟩ := h
  have hk : kindI (putL k b) = k := (putL_head k b).2.2
  unfold hdr
  rw [putL_mark, putL_lenI, hk, h1]
  have e1 : isLenB ((19 + b.length : Nat) : Int) = true := by unfold isLenB; simp; omega
  have e2 : isBodyB (((19 + b.length : Nat) : Int) - 19) k = true := by
    unfold isBodyB
    rw [Bool.and_eq_true, decide_eq_true_iff, decide_eq_true_iff]
    omega
  rw [e1, e2]
  rfl
theorem putL_lenN (k : Int) (b : List Int) : lenN (putL k b) = 19 + b.length := by
  unfold lenN
  rw [putL_lenI]
  omega
theorem putL_drop (k : Int) (b : List Int) : (putL k b).drop 19 = b := by
  unfold putL
  rw [← List.append_assoc, List.drop_append_of_le_length (by simp)]
  simp
theorem parse_put (k : Int) (b r : List Int) (h : FitsB k b.length) : parse (putL k b ++ r) = ((k, b) :: (parse r).1, (parse r).2) := by
  have hl := putL_len k b
  have h19 : 19 ≤ (putL k b).length := by omega
  have hn : lenN (putL k b ++ r) = 19 + b.length := by rw [lenN_app r h19, putL_lenN]
  rw [parse_whole (by rw [hdr_app r h19, putL_hdr k b h]) (by rw [hn]; simp; omega), hn]
  have e1 : (putL k b ++ r).drop (19 + b.length) = r := by rw [← hl]; exact List.drop_left
  have e2 : msgOf (putL k b ++ r) = (k, b) := by
    unfold msgOf
    rw [hn, kindI_app r h19, List.drop_append_of_le_length h19, putL_drop, Nat.add_sub_cancel_left, List.take_left]
    exact Prod.ext (putL_head k b).2.2 rfl
  rw [e1, e2]

/-- A turned marker. -/
theorem mk16_turned (l : List Int) (i : Nat) (x : Int) (hi : i < 16) (hl : 19 ≤ l.length) (hx : x ≠ 255) : mk16 (l.set i x) = false := by
  unfold mk16
  rw [Bool.eq_false_iff]
  intro h
  have := List.all_eq_true.1 h x (by
    rw [List.mem_iff_getElem?]
    exact ⟨i, by rw [List.getElem?_take, if_pos hi, List.getElem?_set_self (by omega)]⟩)
  simp at this
  exact hx this
theorem parse_turned (l : List Int) (i : Nat) (x : Int) (hi : i < 16) (hl : 19 ≤ l.length) (hx : x ≠ 255) : parse (l.set i x) = ([], .bad ⟨1, 1, []⟩) := by
  refine parse_bad (by simpa using hl) ?_
  unfold hdr
  rw [if_pos (mk16_turned l i x hi hl hx)]
end Go.Proofs.Ytoiigalaijnoeaa
