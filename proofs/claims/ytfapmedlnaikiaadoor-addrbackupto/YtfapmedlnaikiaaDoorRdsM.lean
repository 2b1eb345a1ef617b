/-
  AddrRds: mathematics: a text's fields, what a distinguisher's text says.
-/
import Derived.Test.YtfapmedlnaikiaaDoorAdU
import Derived.Test.YtfapmedlnaikiaaDoorRefA
namespace Go.Proofs.YtfapmedlnaikiaaDoor
open Go.RowKit
set_option linter.unusedSimpArgs false
set_option linter.unusedVariables false

theorem index_at (c : UInt8) : ∀ (a b : List UInt8), c ∉ a → Lib.index (a ++ c :: b) [c] = a.length
  | [], b, _ => by simp [Lib.index, List.isPrefixOf]
  | x :: a, b, h => by
    have hx : c ≠ x := fun e => h (by rw [e]; exact List.mem_cons_self)
    have ih := index_at c a b (fun hm => h (List.mem_cons_of_mem _ hm))
    have e : (List.isPrefixOf [c] (x :: (a ++ c :: b))) = false := by simp [List.isPrefixOf, hx]
    show Lib.index (x :: (a ++ c :: b)) [c] = _
    unfold Lib.index
    rw [e, ih]
    have hne : ((a.length : Int) == -1) = false := by rw [beq_eq_false_iff_ne]; omega
    rw [hne]
    simp
theorem index_no (c : UInt8) : ∀ (a : List UInt8), c ∉ a → Lib.index a [c] = -1
  | [], _ => by simp [Lib.index]
  | x :: a, h => by
    have hx : c ≠ x := fun e => h (by rw [e]; exact List.mem_cons_self)
    have ih := index_no c a (fun hm => h (List.mem_cons_of_mem _ hm))
    have e : (List.isPrefixOf [c] (x :: a)) = false := by simp [List.isPrefixOf, hx]
    unfold Lib.index
    rw [e, ih]
    simp
theorem parts_or (c : UInt8) : ∀ l : List UInt8, c ∉ l ∨ ∃ a b, l = a ++ c :: b ∧ c ∉ a
  | [] => .inl (by simp)
  | x :: l => by
    by_cases hx : c = x
    · exact .inr ⟨[], l, by rw [hx]; rfl, by simp⟩
    · rcases parts_or c l with h | ⟨a, b, rfl, h⟩
      · exact .inl (by simp [hx, h])
      · exact .inr ⟨x :: a, b, rfl, by simp [hx, h]⟩
theorem indexByte_mem (c : UInt8) : ∀ l : List UInt8, 0 ≤ Lib.indexByte l c ↔ c ∈ l
  | [] => by simp [Lib.indexByte]
  | x :: l => by
    have ih := indexByte_mem c l
    have hg := Lib.indexByte_ge l c
    unfold Lib.indexByte
    by_cases hx : x = c
    · simp [hx]
    · have hx2 : (x == c) = false := by simpa using hx
      have hx3 : ¬ c = x := fun e => hx e.symm
      rw [hx2]
      by_cases hm : Lib.indexByte l c = -1
      · have : c ∉ l := fun h => by have := ih.2 h; omega
        simp [hm, hx3, this]
      · have h2 : (Lib.indexByte l c == -1) = false := by simpa using hm
        have : c ∈ l := ih.1 (by omega)
        simp [h2, this]
        omega
theorem dotB_iff (s : ByteArray) : dotB s = true ↔ (46 : UInt8) ∈ s.data.toList := by
  unfold dotB
  rw [decide_eq_true_iff]
  exact indexByte_mem 46 _

/-- What stands between the dots. -/
def fields : List UInt8 → List (List UInt8)
  | [] => [[]]
  | c :: l => if c = 46 then [] :: fields l else match fields l with
    | f :: fs => (c :: f) :: fs
    | [] => [[c]]
theorem fields_cut : ∀ (a b : List UInt8), (46 : UInt8) ∉ a → fields (a ++ 46 :: b) = a :: fields b
  | [], b, _ => by simp [fields]
  | x :: a, b, h => by
    have hx : ¬ x = 46 := fun e => h (by rw [e]; exact List.mem_cons_self)
    have ih := fields_cut a b (fun hm => h (List.mem_cons_of_mem _ hm))
    show fields (x :: (a ++ 46 :: b)) = _
    conv => lhs; unfold fields
    rw [if_neg hx, ih]
theorem fields_end : ∀ (a : List UInt8), (46 : UInt8) ∉ a → fields a = [a]
  | [], _ => rfl
  | x :: a, h => by
    have hx : ¬ x = 46 := fun e => h (by rw [e]; exact List.mem_cons_self)
    have ih := fields_end a (fun hm => h (List.mem_cons_of_mem _ hm))
    unfold fields
    rw [if_neg hx, ih]
theorem fields_pos (l : List UInt8) : 1 ≤ (fields l).length := by
  rcases parts_or 46 l with h | ⟨a, b, rfl, h⟩
  · rw [fields_end l h]; simp
  · rw [fields_cut a b h]; simp
theorem fields_le : ∀ (l : List UInt8), (fields l).length ≤ l.length + 1
  | [] => by simp [fields]
  | x :: l => by
    have ih := fields_le l
    have hp := fields_pos l
    unfold fields
    split
    · simp; omega
    · cases hf : fields l with
      | nil => rw [hf] at hp; simp at hp
      | cons f fs => rw [hf] at ih; simp at ih ⊢; omega
theorem split_fields : ∀ (k : Nat) (l : List UInt8), ((fields l).length ≤ k + 1 → Lib.splitK [46] 0 k l = fields l) ∧ (k + 1 < (fields l).length → (Lib.splitK [46] 0 k l).length = k + 1)
  | 0, l => by
    refine ⟨fun h => ?_, fun _ => rfl⟩
    rcases parts_or 46 l with hn | ⟨a, b, rfl, hn⟩
    · rw [fields_end l hn]; rfl
    · rw [fields_cut a b hn, List.length_cons] at h
      have := fields_pos b
      omega
  | k + 1, l => by
    rcases parts_or 46 l with hn | ⟨a, b, rfl, hn⟩
    · rw [fields_end l hn]
      unfold Lib.splitK
      rw [index_no 46 l hn]
      simp
    · have ih := split_fields k b
      have hs : Lib.splitK [46] 0 (k + 1) (a ++ 46 :: b) = a :: Lib.splitK [46] 0 k b := by
        conv => lhs; unfold Lib.splitK
        rw [index_at 46 a b hn]
        have hne : ((a.length : Int) == -1) = false := by rw [beq_eq_false_iff_ne]; omega
        rw [hne]
        have h1 : (a ++ 46 :: b).take ((a.length : Int).toNat + 0) = a := by simp
        have h2 : (a ++ 46 :: b).drop ((a.length : Int).toNat + [(46 : UInt8)].length) = b := by
          rw [show (a.length : Int).toNat + [(46 : UInt8)].length = a.length + 1 by simp]
          simp [List.drop_append]
        rw [h1, h2]
        simp
      rw [hs, fields_cut a b hn]
      refine ⟨fun h => ?_, fun h => ?_⟩
      · rw [ih.1 (by simpa using h)]
      · have := ih.2 (by simpa using h)
        simp [this]

/-- Four numbers with dots between. -/
def un (l : List UInt8) : Option (List Int) := if (fields l).length = 4 then (fields l).mapM (fun x => digits x 255) else none
theorem octs_map (xs : List ByteArray) : octs xs = if (xs.map (·.data.toList)).length = 4 then (xs.map (·.data.toList)).mapM (fun x => digits x 255) else none := by
  unfold octs
  rw [List.length_map, List.mapM_map]
  rfl
theorem octs_un (s : ByteArray) : octs (splitS s 46 5) = un s.data.toList := by
  rw [octs_map]
  unfold splitS
  rw [Lib.splitB_data]
  show (if (Lib.splitK [46] 0 (min 5 (s.size + 1) - 1) s.data.toList).length = 4 then _ else none) = _
  have h := split_fields (min 5 (s.size + 1) - 1) s.data.toList
  have hl := fields_le s.data.toList
  have hsz : s.data.toList.length = s.size := by rw [Array.length_toList]; rfl
  rw [hsz] at hl
  by_cases hc : (fields s.data.toList).length ≤ min 5 (s.size + 1) - 1 + 1
  · rw [h.1 hc]; rfl
  · have h2 := h.2 (by omega)
    rw [h2]
    unfold un
    rw [if_neg (by omega), if_neg (by omega)]
/-- The numbers that were read, and what is left. -/
def U (ds : List Int) (r : List UInt8) : Option (List Int) := if ds.length + (fields r).length = 4 then ((fields r).mapM (fun x => digits x 255)).map (ds ++ ·) else none
theorem U_nil (l : List UInt8) : U [] l = un l := by
  unfold U un
  simp only [List.length_nil, Nat.zero_add, List.nil_append]
  split
  · cases (fields l).mapM (fun x => digits x 255) <;> rfl
  · rfl
theorem U_fail (ds : List Int) (r f : List UInt8) (fs : List (List UInt8)) (h : fields r = f :: fs) (hf : digits f 255 = none) : U ds r = none := by
  unfold U
  rw [h]
  split
  · simp [List.mapM_cons, hf]
  · rfl
theorem U_full (ds : List Int) (r : List UInt8) (h : 4 ≤ ds.length) : U ds r = none := by
  unfold U
  have := fields_pos r
  rw [if_neg (by omega)]
theorem U_dot (ds : List Int) (r f r' : List UInt8) (d : Int) (h : fields r = f :: fields r') (hf : digits f 255 = some d) : U ds r = U (ds ++ [d]) r' := by
  unfold U
  rw [h]
  simp only [List.length_cons, List.length_append, List.length_nil]
  have e : (ds.length + ((fields r').length + 1) = 4) = (ds.length + (0 + 1) + (fields r').length = 4) := by
    apply propext; omega
  simp only [e]
  split
  · simp only [List.mapM_cons, hf]
    cases (fields r').mapM (fun x => digits x 255) <;> simp
  · rfl
theorem U_end (ds : List Int) (r f : List UInt8) (d : Int) (h : fields r = [f]) (hf : digits f 255 = some d) : U ds r = if (ds ++ [d]).length = 4 then some (ds ++ [d]) else none := by
  unfold U
  rw [h]
  simp only [List.length_cons, List.length_append, List.length_nil]
  have e : (ds.length + (0 + 1) = 4) = (ds.length + 1 = 4) := by rfl
  simp only [e]
  split
  · simp [hf]
  · rfl
theorem un_oct {l : List UInt8} {ds : List Int} (h : un l = some ds) : ds.length = 4 ∧ Oct ds := by
  have hs : octs (splitS ⟨l.toArray⟩ 46 5) = some ds := by rw [octs_un]; exact h
  exact octs_bd hs
theorem un_dot {l : List UInt8} {ds : List Int} (h : un l = some ds) : (46 : UInt8) ∈ l := by
  refine Classical.byContradiction fun hn => ?_
  unfold un at h
  rw [fields_end l hn] at h
  simp at h

theorem digits_all {l : List UInt8} {m a : Int} (h : digits l m = some a) : ∀ x ∈ l, isDig x = true := by
  unfold digits at h
  split at h
  · cases h
  · next hc =>
    simp only [Bool.or_eq_true, not_or] at hc
    have : l.all isDig = true := by simpa using hc.1.2
    exact fun x hx => List.all_eq_true.1 this x hx
theorem digits_no {l : List UInt8} (m : Int) {x : UInt8} (hx : x ∈ l) (hd : isDig x = false) : digits l m = none := by
  cases h : digits l m with
  | none => rfl
  | some a => have := digits_all h x hx; rw [hd] at this; cases this
theorem digits_le {l : List UInt8} {m M b : Int} (h : digits l M = some b) (hm : m ≤ M) : digits l m = if b ≤ m then some b else none := by
  unfold digits at h ⊢
  split at h
  · cases h
  · next hc =>
    obtain rfl := Option.some.inj h
    simp only [Bool.or_eq_true, not_or] at hc
    have h1 : bad0 l = false := by simpa using hc.1.1
    have h2 : l.all isDig = true := by simpa using hc.1.2
    rw [h1, h2]
    by_cases hb : decN l ≤ m
    · rw [if_pos hb]
      have : decide (m < decN l) = false := decide_eq_false (by omega)
      rw [this]; rfl
    · rw [if_neg hb]
      have : decide (m < decN l) = true := decide_eq_true (by omega)
      rw [this]; rfl
theorem digits_none_le {l : List UInt8} {m M : Int} (h : digits l M = none) (hm : m ≤ M) : digits l m = none := by
  cases h1 : digits l m with
  | none => rfl
  | some a =>
    unfold digits at h h1
    split at h1
    · cases h1
    · next hc =>
      simp only [Bool.or_eq_true, not_or, decide_eq_true_eq] at hc
      have h1 : bad0 l = false := by simpa using hc.1.1
      have h2 : l.all isDig = true := by simpa using hc.1.2
      rw [h1, h2, decide_eq_false (show ¬ M < decN l by have := hc.2; omega)] at h
      cases h
theorem suffix_iff (l : List UInt8) : Lib.hasSuffix l [76] = true ↔ ∃ t, l = t ++ [76] := by
  unfold Lib.hasSuffix
  rw [List.isSuffixOf_iff_suffix]
  constructor
  · rintro ⟨t, rfl⟩; exact ⟨t, rfl⟩
  · rintro ⟨t, rfl⟩; exact ⟨t, rfl⟩
theorem trimL_list (s : ByteArray) (t : List UInt8) (h : s.data.toList = t ++ [76]) : (trimL s).data.toList = t := by
  unfold trimL Lib.trimSuffix
  rw [(suffix_iff s.data.toList).2 ⟨t, h⟩, h]
  simp
theorem isDig_46 : isDig 46 = false := by decide
theorem isDig_76 : isDig 76 = false := by decide
/-- The ways of a text with a ':'. -/
theorem way_none (H : ByteArray) (t : List UInt8) (h : digits t 4294967295 = none) : rd2 (rdFirst H) t = none := by
  unfold rd2
  have := most_bd (rdFirst H).1
  rw [digits_none_le h this.2]
  unfold rd3
  cases (rdFirst H).2 <;> rfl
theorem way_short (H : ByteArray) (t : List UInt8) (a b : Int) (hb : digits t 4294967295 = some b) (ha : digits H.data.toList 65535 = some a) : rd2 (rdFirst H) t = some (rdB 0 (a * (most 0 + 1) + b)) := by
  have hd : dotB H = false := by
    cases h : dotB H
    · rfl
    · rw [digits_no _ ((dotB_iff H).1 h) isDig_46] at ha; cases ha
  have hs : Lib.hasSuffix H.data.toList [76] = false := by
    cases h : Lib.hasSuffix H.data.toList [76]
    · rfl
    · obtain ⟨t, ht⟩ := (suffix_iff _).1 h
      rw [digits_no (x := 76) _ (by rw [ht]; simp) isDig_76] at ha; cases ha
  have hf : rdFirst H = (0, some a) := by
    unfold rdFirst
    rw [hd, hs, ha]
    rfl
  rw [hf]
  unfold rd2
  show rd3 0 (some a) (digits t (most 0)) = _
  rw [show most 0 = 4294967295 from rfl, hb]
  rfl
theorem way_big (H : ByteArray) (t : List UInt8) (b : Int) (hb : digits t 4294967295 = some b) (ha : digits H.data.toList 65535 = none) (h : 65535 < b) : rd2 (rdFirst H) t = none := by
  unfold rd2
  by_cases hk : (rdFirst H).1 = 0
  · have : (rdFirst H).2 = none := by
      unfold rdFirst at hk ⊢
      split
      · next h => rw [if_pos h] at hk; cases hk
      · next h =>
        rw [if_neg h] at hk
        split
        · next h2 => rw [if_pos h2] at hk; cases hk
        · exact ha
    rw [this]; rfl
  · rw [show most (rdFirst H).1 = 65535 by unfold most; rw [if_neg hk], digits_le hb (by omega), if_neg (by omega)]
    unfold rd3
    cases (rdFirst H).2 <;> rfl
theorem way_ip (H : ByteArray) (t : List UInt8) (b : Int) (f : List Int) (hb : digits t 4294967295 = some b) (h : b ≤ 65535) (hf : un H.data.toList = some f) : rd2 (rdFirst H) t = some (rdB 1 (numOf f * (most 1 + 1) + b)) := by
  have hd : dotB H = true := (dotB_iff H).2 (un_dot hf)
  have e : rdFirst H = (1, some (numOf f)) := by
    unfold rdFirst
    rw [hd, octs_un, hf]
    rfl
  rw [e]
  unfold rd2
  show rd3 1 (some (numOf f)) (digits t (most 1)) = _
  rw [show most 1 = 65535 from rfl, digits_le hb (by omega), if_pos h]
  rfl
theorem way_long (H : ByteArray) (t l : List UInt8) (b : Int) (hb : digits t 4294967295 = some b) (h : b ≤ 65535) (hf : un H.data.toList = none) (hl : H.data.toList = l ++ [76]) : rd2 (rdFirst H) t = (digits l 4294967295).map fun a => rdB 2 (a * (most 2 + 1) + b) := by
  have htr := trimL_list H l hl
  have hsx := (suffix_iff _).2 ⟨l, hl⟩
  cases hd : dotB H
  · have e : rdFirst H = (2, digits l 4294967295) := by
      unfold rdFirst
      rw [hd, hsx, htr]
      rfl
    rw [e]
    unfold rd2
    show rd3 2 (digits l 4294967295) (digits t (most 2)) = _
    rw [show most 2 = 65535 from rfl, digits_le hb (by omega), if_pos h]
    cases digits l 4294967295 <;> rfl
  · have hm := (dotB_iff H).1 hd
    rw [hl] at hm
    have hml : (46 : UInt8) ∈ l := by
      rcases List.mem_append.1 hm with h | h
      · exact h
      · simp at h
    rw [digits_no _ hml isDig_46]
    have e : rdFirst H = (1, none) := by
      unfold rdFirst
      rw [hd, octs_un, hf]
      rfl
    rw [e]
    rfl
theorem way_else (H : ByteArray) (t : List UInt8) (ha : digits H.data.toList 65535 = none) (hf : un H.data.toList = none) (hl : ¬ ∃ l, H.data.toList = l ++ [76]) : rd2 (rdFirst H) t = none := by
  have hs : Lib.hasSuffix H.data.toList [76] = false := by
    cases h : Lib.hasSuffix H.data.toList [76]
    · rfl
    · exact absurd ((suffix_iff _).1 h) hl
  have e : (rdFirst H).2 = none := by
    unfold rdFirst
    rw [hs, octs_un, hf, ha]
    cases dotB H <;> rfl
  unfold rd2
  rw [e]
  rfl
theorem ext_list {a b : ByteArray} (h : a.data.toList = b.data.toList) : a = b := by
  apply ByteArray.ext
  exact Array.toList_inj.1 h
theorem rd_no (s : ByteArray) (h : (58 : UInt8) ∉ s.data.toList) : rdRd s = none := by
  unfold rdRd
  have e : (cutS s [58]).2.1.data.toList = [] := by
    unfold cutS Lib.cut
    rw [index_no 58 _ h]
    rfl
  rw [e]
  exact way_none _ _ (by rfl)
theorem rd_cut (s : ByteArray) (k : Nat) (hk : k < s.size) (hc : s[k] = 58) (hn : (58 : UInt8) ∉ s.data.toList.take k) : rdRd s = rd2 (rdFirst (s.extract 0 k)) (s.extract (k + 1) s.size).data.toList := by
  have hl : s.data.toList.length = s.size := by rw [Array.length_toList]; rfl
  have hs : s.data.toList = s.data.toList.take k ++ 58 :: s.data.toList.drop (k + 1) := by
    have h1 := List.take_append_drop k s.data.toList
    rw [List.drop_eq_getElem_cons (by omega)] at h1
    have h2 : s.data.toList[k]'(by omega) = 58 := by rw [← hc]; simp [ByteArray.getElem_eq_getElem_data]
    rw [h2] at h1
    exact h1.symm
  have hi : Lib.index s.data.toList [58] = k := by
    rw [hs, index_at 58 _ _ hn, List.length_take, Nat.min_eq_left (by omega)]
  unfold rdRd
  have e1 : (cutS s [58]).1 = s.extract 0 k := by
    apply ext_list
    rw [Lib.extract_from_zero]
    unfold cutS Lib.cut
    rw [hi, if_pos (by omega)]
    simp
  have e2 : (cutS s [58]).2.1.data.toList = (s.extract (k + 1) s.size).data.toList := by
    rw [Lib.extract_to_end]
    unfold cutS Lib.cut
    rw [hi, if_pos (by omega)]
    simp
  rw [e1, e2]
end Go.Proofs.YtfapmedlnaikiaaDoor
