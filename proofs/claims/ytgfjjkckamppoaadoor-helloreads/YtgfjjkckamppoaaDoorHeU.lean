/-
  Layer 8: the document's PutFault, ReadFault; asking for all again, on both sides; Spoil.
-/
import Derived.Test.YtgfjjkckamppoaaDoorHeP
import Derived.Test.YtgfjjkckamppoaaDoorHeT
import Derived.Test.YtgfjjkckamppoaaDoorHeR
namespace Go.Proofs.YtgfjjkckamppoaaDoor
open Go.RowKit
set_option maxRecDepth 100000
set_option linter.unusedSimpArgs false
set_option linter.unusedVariables false

/-- Spoil of bytes in one block that are not frozen: nothing but that block turns. -/
def U8At (w : World) (g n : Nat) : Prop := ∀ i, i < n → (∃ x : Int, 0 ≤ x ∧ x < 256 ∧ w.cell? ⟨g, i, none⟩ = some (.int .u8 x)) ∧ w.frozen? ⟨g, i, none⟩ = false
theorem U8At.set_ {w : World} {g n : Nat} (h : U8At w g n) (k : Nat) {x : Int} (h0 : 0 ≤ x) (h1 : x < 256) : U8At (w.setCell ⟨g, k, none⟩ (.int .u8 x)) g n := by
  intro i hi
  obtain ⟨⟨y, y0, y1, hy⟩, hf⟩ := h i hi
  refine ⟨?_, by simpa using hf⟩
  by_cases hk : i = k
  · subst hk
    exact ⟨x, h0, h1, World.cell?_setCell_same _ _ _ hy⟩
  · exact ⟨y, y0, y1, by rw [World.cell?_setCell_other _ _ _ _ (fun e => hk (by injection e with _ e2; exact e2.symm))]; exact hy⟩
set_option maxHeartbeats 1000000 in
theorem spoil_at (w : World) (g n c : Nat) (h : U8At w g n) (hm : n ≤ 281474976710656) :
    Calls Tryd.prog 29 #[.slice (some ⟨g, 0, none⟩) n c] w fun e w' => e = .returned (.tuple #[]) ∧ w.grownBy w' (some g) := by
  have H := Lib.hid h
  clear h
  go_enter Tryd.func29, Tryd.ntmps29
  go_wp2
  go_loopw [2, 5] (fun _ i wr => ∃ k : Nat, k ≤ n ∧ i = .int .i64 k ∧ U8At wr g n ∧ w.grownBy wr (some g)) (fun _ i _ => n - (intOf i).toNat)
  case atStart => exact ⟨0, Nat.zero_le _, rfl, H.out, only_refl w _⟩
  case round =>
    obtain ⟨k, hk, rfl, hr, hg⟩ := hrel
    have H1 := Lib.hid hr
    have H2 := Lib.hid hg
    by_cases hlt : k < n
    · obtain ⟨⟨x, x0, x1, hc⟩, hf⟩ := hr k hlt
      clear hg hr
      go_wp2
      exact ⟨⟨k + 1, by omega, by go_num, H1.out.set_ k (xor_u8_bd _ _).1 (xor_u8_bd _ _).2, only_setCell H2.out (.inl rfl) _⟩, by simp [intOf]; omega⟩
    · clear hr hg
      go_wp2
      go_end0
      exact ⟨rfl, H2.out⟩
theorem spoil_body (w0 w : World) (A : Option Addr) (n c : Nat) (l : List Int) (h : BodyX w0 w A l) (hn : n = l.length) (hm : n ≤ 281474976710656) (hlo : w0.heap.size ≤ w.heap.size) :
    Calls Tryd.prog 29 #[.slice A n c] w fun e w' => e = .returned (.tuple #[]) ∧ Below w0.heap.size w w' := by
  subst hn
  rcases h.2 with h0 | ⟨g, cs, rfl, hlg, hg, hx⟩
  · rw [h0]
    refine (spoil_none w A c).mono ?_
    rintro e w' ⟨rfl, rfl⟩
    exact ⟨rfl, Below.refl _ _⟩
  · refine (spoil_at w g l.length c (fun i hi => ?_) hm).mono ?_
    · have h1 : (u8s l)[i]? = some (.int .u8 (l.getD i 0)) := by simp [List.getD, hi]
      rw [← hx, List.getElem?_take, if_pos hi] at h1
      refine ⟨⟨_, (h.1.getD i).1, (h.1.getD i).2, ?_⟩, by simp [World.frozen?, hg]⟩
      simp only [World.cell?, hg]
      rw [← Array.getElem?_toList]
      exact h1
    · rintro e w' ⟨rfl, hgr⟩
      exact ⟨rfl, (Below.refl _ _).grown hgr hlo (fun j e => by injection e with e; omega)⟩
theorem spoil_byt (w : World) (g : Nat) (t : TypeId) (l : List Int) (c : Nat) (h : Byt w g t l) (ho : Oct l) (hm : l.length ≤ 1000) (lo : Nat) (hlo : lo ≤ w.heap.size) (hg : lo ≤ g) :
    Calls Tryd.prog 29 #[.slice (some ⟨g, 0, none⟩) l.length c] w fun e w' => e = .returned (.tuple #[]) ∧ Below lo w w' := by
  refine (spoil_at w g l.length c (fun i hi => ⟨⟨_, (ho.getD i).1, (ho.getD i).2, h.cell hi⟩, h.frozen i⟩) (by omega)).mono ?_
  rintro e w' ⟨rfl, hgr⟩
  exact ⟨rfl, (Below.refl _ _).grown hgr hlo (fun j e => by injection e with e; omega)⟩

theorem putr_is (w : World) (E : EnvF w) : Calls Tryd.prog 30 #[] w fun e w' => e = .returned (.slice (some ⟨w.heap.size, 0, none⟩) 4 4) ∧ Byt w' w.heap.size 85 fam ∧ Below w.heap.size w w' := by
  have HF := Lib.hid (family_is w E)
  clear E
  go_enter Tryd.func30, Tryd.ntmps30
  go_wp2_with fail
  refine HF.out.mono ?_
  rintro e w' ⟨rfl, hb, hB⟩
  have H1 := Lib.hid hb
  have H2 := Lib.hid hB
  clear hb hB
  go_wp2
  go_ret
  exact ⟨rfl, H1.out, H2.out⟩
theorem rputr_is (w : World) : Calls Tryd.prog 31 #[] w fun e w' => e = .returned (.slice (some ⟨w.heap.size, 0, none⟩) 4 4) ∧ Byt w' w.heap.size 5 fam ∧ Below w.heap.size w w' := by
  have HF := Lib.hid (rfamily_is w)
  go_enter Tryd.func31, Tryd.ntmps31
  go_wp2_with fail
  refine HF.out.mono ?_
  rintro e w' ⟨rfl, hb, hB⟩
  have H1 := Lib.hid hb
  have H2 := Lib.hid hB
  clear hb hB
  go_wp2
  go_ret
  exact ⟨rfl, H1.out, H2.out⟩
/-- Do these bytes ask for all again? -/
def refB (l : List Int) : Bool := decide (l.length = 4 ∧ l.getD 0 0 = 0 ∧ l.getD 1 0 = 25 ∧ l.getD 3 0 = 70)
set_option maxHeartbeats 2000000 in
theorem rreadr_is (w : World) (A : Option Addr) (n c : Nat) (l : List Int) (hr : Rd w w.heap.size A n l) : Calls Tryd.prog 28 #[.slice A n c] w fun e w' => e = .returned (.bool (refB l)) ∧ w = w' := by
  have hl := hr.len
  by_cases h4 : n = 4
  case neg =>
    have e4 : ((n : Int) == 4) = false := by simp; omega
    have HE : Hid (false = refB l) := Lib.hid (by unfold refB; exact (decide_eq_false (fun h => h4 (by omega))).symm)
    clear hr h4
    go_enter Tryd.func28, Tryd.ntmps28
    go_wp2
    go_ret
    exact ⟨by rw [← HE.out]; rfl, rfl⟩
  subst h4
  obtain ⟨b, off, rfl, _, hc⟩ := hr.at_ (by omega)
  have c0 := hc 0 (by omega)
  have c1 := hc 1 (by omega)
  have c3 := hc 3 (by omega)
  rw [Nat.add_zero] at c0
  have HR : Hid (refB l = decide (l.getD 0 0 = 0 ∧ l.getD 1 0 = 25 ∧ l.getD 3 0 = 70)) := Lib.hid (by unfold refB; simp [hl])
  clear hc hr hl
  generalize l.getD 0 0 = q0 at *
  generalize l.getD 1 0 = q1 at *
  generalize l.getD 3 0 = q3 at *
  by_cases h0 : q0 = 0
  case neg =>
    have e0 : (q0 == 0) = false := by simpa using h0
    have HE : Hid (false = refB l) := Lib.hid (by rw [HR.out]; exact (decide_eq_false (fun h => h0 h.1)).symm)
    clear h0
    go_enter Tryd.func28, Tryd.ntmps28
    go_wp2
    go_ret
    exact ⟨by rw [← HE.out]; rfl, rfl⟩
  by_cases h1 : q1 = 25
  case neg =>
    have e0 : (q0 == 0) = true := by simpa using h0
    have e1 : (q1 == 25) = false := by simpa using h1
    have HE : Hid (false = refB l) := Lib.hid (by rw [HR.out]; exact (decide_eq_false (fun h => h1 h.2.1)).symm)
    clear h0 h1
    go_enter Tryd.func28, Tryd.ntmps28
    go_wp2
    go_ret
    exact ⟨by rw [← HE.out]; rfl, rfl⟩
  have e0 : (q0 == 0) = true := by simpa using h0
  have e1 : (q1 == 25) = true := by simpa using h1
  have HE : Hid ((q3 == 70) = refB l) := Lib.hid (by rw [HR.out, Bool.eq_iff_iff]; simp [h0, h1])
  clear h0 h1
  go_enter Tryd.func28, Tryd.ntmps28
  go_wp2
  go_ret
  exact ⟨by rw [← HE.out]; rfl, rfl⟩
end Go.Proofs.YtgfjjkckamppoaaDoor
