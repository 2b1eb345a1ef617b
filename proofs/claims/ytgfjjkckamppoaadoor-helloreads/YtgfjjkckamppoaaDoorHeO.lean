/-
  Layer 8: PutFault, ReadFault.
-/
import Derived.Test.YtgfjjkckamppoaaDoorHeL
namespace Go.Proofs.YtgfjjkckamppoaaDoor
open Go.RowKit
set_option maxRecDepth 100000
set_option linter.unusedSimpArgs false
set_option linter.unusedVariables false

/-- A notification's body. -/
def pfR (c s : Int) (l : List Int) : Option (List Int) := if (0 ≤ c ∧ c ≤ 255) ∧ (0 ≤ s ∧ s ≤ 255) ∧ l.length ≤ 4075 then some (c :: s :: l) else none
def pfE (c s : Int) (l : List Int) : Int := if ¬ ((0 ≤ c ∧ c ≤ 255) ∧ (0 ≤ s ∧ s ≤ 255)) then 2 else if 4075 < l.length then 5 else 0
def pfB (c s : Int) (l : List Int) : List Int := if (0 ≤ c ∧ c ≤ 255) ∧ (0 ≤ s ∧ s ≤ 255) ∧ l.length ≤ 4075 then c :: s :: l else []
def PutFP (w : World) (c s : Int) (l : List Int) (e : Ending) (w' : World) : Prop := ∃ A n k, e = .returned (.tuple #[.slice A n k, .int .i64 (pfE c s l)]) ∧ n = (pfB c s l).length ∧ n ≤ k ∧ Rd w' w'.heap.size A n (pfB c s l) ∧ Below w.heap.size w w'
set_option maxHeartbeats 2000000 in
theorem putf_is (w : World) (c s : Int) (A : Option Addr) (n k : Nat) (l : List Int) (hr : Rd w w.heap.size A n l) : Calls Tryd.prog 23 #[.agg #[.int .i64 c, .int .i64 s, .slice A n k]] w (PutFP w c s l) := by
  have hal := below_one8 w (.cells #[.int .i64 c, .int .i64 s, .slice A n k] 34)
  have HB := Lib.hid hal
  have hlen := hr.len
  have HI := Lib.hid (fun W n => isByteH_is W n)
  by_cases hc : 0 ≤ c ∧ c ≤ 255
  case neg =>
    have HP : Hid (pfE c s l = 2 ∧ pfB c s l = []) := Lib.hid (by unfold pfE pfB; rw [if_pos (fun h => hc h.1), if_neg (fun h => hc h.1)]; exact ⟨rfl, rfl⟩)
    have hd := decide_eq_false hc
    clear hr hal hc hlen
    go_enter Tryd.func23, Tryd.ntmps23
    go_wp2_with fail
    refine (HI.out _ c).mono ?_
    rw [hd]
    rintro e w' ⟨rfl, rfl⟩
    go_wp2
    go_ret2
    exact ⟨none, 0, 0, by rw [HP.out.1]; rfl, by rw [HP.out.2]; rfl, Nat.le_refl _, by rw [HP.out.2]; exact Rd.nil_ _, HB.out⟩
  by_cases hs : 0 ≤ s ∧ s ≤ 255
  case neg =>
    have HP : Hid (pfE c s l = 2 ∧ pfB c s l = []) := Lib.hid (by unfold pfE pfB; rw [if_pos (fun h => hs h.2), if_neg (fun h => hs h.2.1)]; exact ⟨rfl, rfl⟩)
    have hd := decide_eq_true hc
    have hd2 := decide_eq_false hs
    clear hr hal hc hs hlen
    go_enter Tryd.func23, Tryd.ntmps23
    go_wp2_with fail
    refine (HI.out _ c).mono ?_
    rw [hd]
    rintro e w' ⟨rfl, rfl⟩
    go_wp2_with fail
    refine (HI.out _ s).mono ?_
    rw [hd2]
    rintro e w' ⟨rfl, rfl⟩
    go_wp2
    go_ret2
    exact ⟨none, 0, 0, by rw [HP.out.1]; rfl, by rw [HP.out.2]; rfl, Nat.le_refl _, by rw [HP.out.2]; exact Rd.nil_ _, HB.out⟩
  by_cases hl : n ≤ 4075
  case neg =>
    have HP : Hid (pfE c s l = 5 ∧ pfB c s l = []) := Lib.hid (by unfold pfE pfB; rw [if_neg (fun h => h ⟨hc, hs⟩), if_pos (by omega), if_neg (fun h => hl (by omega))]; exact ⟨rfl, rfl⟩)
    have hd := decide_eq_true hc
    have hd2 := decide_eq_true hs
    have hn : (4075 : Int) < n := by omega
    clear hr hal hc hs hlen hl
    go_enter Tryd.func23, Tryd.ntmps23
    go_wp2_with fail
    refine (HI.out _ c).mono ?_
    rw [hd]
    rintro e w' ⟨rfl, rfl⟩
    go_wp2_with fail
    refine (HI.out _ s).mono ?_
    rw [hd2]
    rintro e w' ⟨rfl, rfl⟩
    go_wp2
    go_ret2
    exact ⟨none, 0, 0, by rw [HP.out.1]; rfl, by rw [HP.out.2]; rfl, Nat.le_refl _, by rw [HP.out.2]; exact Rd.nil_ _, HB.out⟩
  have HP : Hid (pfE c s l = 0 ∧ pfB c s l = c :: s :: l) := Lib.hid (by unfold pfE pfB; rw [if_neg (fun h => h ⟨hc, hs⟩), if_neg (by omega), if_pos ⟨hc, hs, by omega⟩]; exact ⟨rfl, rfl⟩)
  have hd := decide_eq_true hc
  have hd2 := decide_eq_true hs
  have hw1 : c % 256 = c := Int.emod_eq_of_lt hc.1 (by omega)
  have hw2 : s % 256 = s := Int.emod_eq_of_lt hs.1 (by omega)
  have HLd : Hid (∀ w1, Below w.heap.size w w1 → RdL ((w1.alloc (.cells #[.int .u8 c, .int .u8 s] 5)).alloc (.cells #[.slice (some ⟨w1.heap.size, 0, none⟩) 2 2, .slice A n k] 25)) ((w1.alloc (.cells #[.int .u8 c, .int .u8 s] 5)).alloc (.cells #[.slice (some ⟨w1.heap.size, 0, none⟩) 2 2, .slice A n k] 25)).heap.size (some ⟨w1.heap.size + 1, 0, none⟩) 2 [[c, s], l]) := Lib.hid (fun w1 hB1 => rdl_new_at (W := w1.alloc (.cells #[.int .u8 c, .int .u8 s] 5)) (vs := [(some ⟨w1.heap.size, 0, none⟩, 2, 2), (A, n, k)]) (ls := [[c, s], l]) ⟨byt2_rd w1 c s (oct2 (by omega) (by omega)), ((hr.below hB1).more hB1.size).up (below_one8 _ _), trivial⟩ 25 _ rfl _ (by simp))
  have hL := HLd.out _ HB.out
  have hs1 : (w.alloc (.cells #[.int .i64 c, .int .i64 s, .slice A n k] 34)).heap.size = w.heap.size + 1 := by simp
  rw [hs1] at hL
  have HL := Lib.hid hL
  clear hr hal hc hs HLd hL
  go_enter Tryd.func23, Tryd.ntmps23
  go_wp2_with fail
  refine (HI.out _ c).mono ?_
  rw [hd]
  rintro e w' ⟨rfl, rfl⟩
  go_wp2_with fail
  refine (HI.out _ s).mono ?_
  rw [hd2]
  rintro e w' ⟨rfl, rfl⟩
  go_wp2_with fail
  refine (concat_is _ _ 2 2 _ HL.out (by omega) (by simp; omega)).mono ?_
  rintro e w9 ⟨v, rfl, hO, hB9⟩
  have hfl : ([[c, s], l] : List (List Int)).flatten = c :: s :: l := by simp
  rw [hfl] at hO
  obtain ⟨Av, cv, rfl, hcv, hrv, _⟩ := hO.at_
  have HRv := Lib.hid hrv
  have HB9 := Lib.hid (HB.out.trans ((((below_one8 _ _).trans (((below_one8 _ _).trans (hB9.mono (below_one8 _ _).size)).mono (below_one8 _ _).size))).mono HB.out.size))
  clear hO hB9 hrv HL
  obtain ⟨m, hm⟩ : ∃ m, m = (c :: s :: l).length := ⟨_, rfl⟩
  rw [← hm] at HRv hcv ⊢
  have HM := Lib.hid hm
  clear hm
  go_wp2
  go_ret2
  exact ⟨Av, m, cv, by rw [HP.out.1]; rfl, by rw [HP.out.2]; exact HM.out, hcv, by rw [HP.out.2]; exact HRv.out, HB9.out⟩
end Go.Proofs.YtgfjjkckamppoaaDoor
