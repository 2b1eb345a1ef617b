/-
  Layer 3: the law's own same, alike, alive.
-/
import Derived.Test.YtoiigalaijnoeaaFrH
namespace Go.Proofs.Ytoiigalaijnoeaa
open Go.RowKit
set_option linter.unusedSimpArgs false
set_option linter.unusedVariables false

set_option maxHeartbeats 1000000 in
theorem alike_is (w : World) (code sub : Int) (A A2 : Option Addr) (n n2 c c2 : Nat) (l : List Int) (h : Rd w w.heap.size A n l) (h2 : Rd w w.heap.size A2 n2 l) :
    Calls Try.prog 25 #[.agg #[.int .i64 code, .int .i64 sub, .slice A n c], .agg #[.int .i64 code, .int .i64 sub, .slice A2 n2 c2]] w fun e w' => e = .returned (.bool true) ∧ Below w.heap.size w w' := by
  have HW2 : Hid (Below w.heap.size w ((w.alloc (.cells #[.int .i64 code, .int .i64 sub, .slice A n c] 43)).alloc (.cells #[.int .i64 code, .int .i64 sub, .slice A2 n2 c2] 43))) := Lib.hid (((Below.refl _ _).alloc (Nat.le_refl _) _).alloc (by simp) _)
  have HC := Lib.hid (same_is _ w.heap.size A A2 n n2 c c2 l l (h.below HW2.out) (h2.below HW2.out) true (by simp))
  have e1 : (code == code) = true := by simp
  have e2 : (sub == sub) = true := by simp
  clear h h2
  go_enter Try.func25, Try.ntmps25
  go_wp2_with fail
  refine HC.out.mono ?_
  rintro e w' ⟨rfl, rfl⟩
  go_wp2
  go_ret
  exact ⟨rfl, HW2.out⟩

/-- A slice of messages that reads as ms. -/
def MsR (w : World) (A : Option Addr) (ms : List Msg) : Prop :=
  ∃ cs, Ms (fun A n l => Rd w w.heap.size A n l) cs ms ∧ (0 < ms.length → ∃ b off, A = some ⟨b, off, none⟩ ∧ b < w.heap.size ∧ ∀ j u, cs[j]? = some u → w.cell? ⟨b, off + j, none⟩ = some u)
theorem MsR.at_ {w : World} {A : Option Addr} {ms : List Msg} (h : MsR w A ms) {k : Nat} (hk : k < ms.length) : ∃ b off A1 n1 c1, A = some ⟨b, off, none⟩ ∧ w.cell? ⟨b, off + k * 2, none⟩ = some (.int .i64 ms[k].1) ∧ w.cell? ⟨b, off + k * 2 + 1, none⟩ = some (.slice A1 n1 c1) ∧ Rd w w.heap.size A1 n1 ms[k].2 := by
  obtain ⟨cs, h1, h2⟩ := h
  obtain ⟨b, off, rfl, _, hc⟩ := h2 (by omega)
  obtain ⟨k1, A1, n1, c1, k2, k3⟩ := h1.at_ k hk
  exact ⟨b, off, A1, n1, c1, rfl, hc _ _ k1, hc _ _ k2, k3⟩
theorem told_msr {lo : Nat} {w : World} {q : Option Nat} {v : Value} {ms : List Msg} (h : Told lo w q v ms) : ∃ A c, v = .slice A ms.length c ∧ MsR w A ms := by
  obtain ⟨cs, h1, h2⟩ := h
  have h3 := h2.imp (Bd' := fun A n l => Rd w w.heap.size A n l) (fun A n l hb => hb.rd)
  rcases h1.2 with ⟨rfl, hn⟩ | ⟨g, cap, cur, rfl, hb, hg, hnc, hcm, hcs, hx⟩
  · exact ⟨none, 0, by rw [hn], cs, h3, fun hp => by omega⟩
  · refine ⟨_, cap, rfl, cs, h3, fun _ => ⟨g, 0, rfl, (Array.getElem?_eq_some_iff.1 hg).1, fun j u hu => ?_⟩⟩
    rw [← hx, List.getElem?_take] at hu
    split at hu
    · rw [Nat.zero_add]
      simp only [World.cell?, hg]
      rw [← Array.getElem?_toList]
      exact hu
    · cases hu
theorem MsR.drewN {w : World} {A : Option Addr} {ms : List Msg} (h : MsR w A ms) (k : Nat) : MsR (w.drewN k) A ms := by
  obtain ⟨cs, h1, h2⟩ := h
  exact ⟨cs, h1.imp fun A n l hb => hb.keep fun _ _ => rfl, h2⟩
theorem MsR.below {w w' : World} {A : Option Addr} {ms : List Msg} (h : MsR w A ms) (hb : Below w.heap.size w w') : MsR w' A ms := by
  obtain ⟨cs, h1, h2⟩ := h
  refine ⟨cs, h1.imp fun A n l h => (h.below hb).more hb.size, fun hp => ?_⟩
  obtain ⟨b, off, e, hlt, hc⟩ := h2 hp
  exact ⟨b, off, e, Nat.lt_of_lt_of_le hlt hb.size, fun j u hu => (hb.cell (p := ⟨b, off + j, none⟩) hlt).trans (hc j u hu)⟩

theorem same_quiet (w : World) (k : Nat) (A A2 : Option Addr) (n n2 c c2 : Nat) (l : List Int) (h : Rd w w.heap.size A n l) (h2 : Rd w w.heap.size A2 n2 l) :
    Calls Try.prog 14 #[.slice A n c, .slice A2 n2 c2] (w.drewN k) fun e w'' => e = .returned (.bool true) ∧ ∃ m, w'' = w.drewN m :=
  (same_is (w.drewN k) w.heap.size A A2 n n2 c c2 l l (h.keep fun _ _ => rfl) (h2.keep fun _ _ => rfl) true (by simp)).mono fun _ _ ⟨a, b⟩ => ⟨a, k, b.symm⟩

set_option maxHeartbeats 2000000 in
theorem sameM_is (w : World) (A A2 : Option Addr) (c c2 : Nat) (ms : List Msg) (h : MsR w A ms) (h2 : MsR w A2 ms) (hm : ms.length ≤ 4000000000000) :
    Calls Try.prog 24 #[.slice A ms.length c, .slice A2 ms.length c2] w fun e w' => e = .returned (.bool true) ∧ ∃ k, w' = w.drewN k := by
  have H := Lib.hid h
  have H2 := Lib.hid h2
  have e1 : ((ms.length : Int) != (ms.length : Int)) = false := by simp
  clear h h2
  go_enter Try.func24, Try.ntmps24
  go_wp2
  go_loopw [5, 13] (fun _ i wr => ∃ k : Nat, k ≤ ms.length ∧ i = .int .i64 k ∧ ∃ j, wr = w.drewN j) (fun _ i _ => ms.length - (intOf i).toNat)
  case atStart => exact ⟨0, by omega, rfl, 0, rfl⟩
  case round =>
    obtain ⟨k, hk, rfl, hj⟩ := hrel
    have HJ := Lib.hid hj
    have HM1 : Hid (MsR wr A ms) := Lib.hid (by obtain ⟨j, rfl⟩ := hj; exact H.out.drewN j)
    have HM2 : Hid (MsR wr A2 ms) := Lib.hid (by obtain ⟨j, rfl⟩ := hj; exact H2.out.drewN j)
    clear hj
    by_cases hlt : k < ms.length
    · obtain ⟨b, off, A1, n1, c1, rfl, x0, x1, xr⟩ := HM1.out.at_ hlt
      obtain ⟨b2, off2, A3, n3, c3, rfl, y0, y1, yr⟩ := HM2.out.at_ hlt
      have HX := Lib.hid xr
      have HY := Lib.hid yr
      have hkI : (k : Int) < (ms.length : Int) := by omega
      clear xr yr
      generalize ms[k].1 = kd at *
      generalize ms[k].2 = bd at *
      have e2 : (kd != kd) = false := by simp
      go_wp2_with fail
      go_quiet ((go_at_call 14; exact same_quiet wr _ A1 A3 n1 n3 c1 c3 bd HX.out HY.out))
      go_wp2
      exact ⟨⟨k + 1, by omega, by go_num, by obtain ⟨j, rfl⟩ := HJ.out; exact ⟨j + nq, by rw [World.drewN_drewN]⟩⟩, by simp [intOf]; omega⟩
    · obtain rfl : k = ms.length := by omega
      go_wp2
      go_ret
      exact ⟨rfl, HJ.out⟩

/-- A stream is kept where its own blocks are. -/
theorem IsS.kept {w w' : World} {g : Nat} {q d : Option Nat} {st : St} (h : IsS w g q d st) (hk : ∀ i, i < w.heap.size → (i = g ∨ q = some i ∨ d = some i) → w'.heap[i]? = w.heap[i]?) : IsS w' g q d st := by
  cases st with
  | wait c =>
    obtain ⟨cv, code, sub, dv, hS, hO, hB⟩ := h.ex
    exact ⟨⟨cv, code, sub, dv, (hk g (Blk.lt hS) (.inl rfl)).trans hS, own_keep hO fun i c hi _ hv => hk i (Array.getElem?_eq_some_iff.1 hi).1 (.inr (.inl (hB.symm.trans hv))), hB⟩, h.quiet, h.oct⟩
  | bad f =>
    obtain ⟨A, n, hS, h1, h2, h3⟩ := h
    exact ⟨A, n, (hk g (Blk.lt hS) (.inl rfl)).trans hS, h1, h2, h3.imp id fun ⟨i, a, b, c⟩ => ⟨i, a, b, (hk i c.lt (.inr (.inr b))).trans c⟩⟩
theorem IsS.below {w w' : World} {g : Nat} {q d : Option Nat} {st : St} (h : IsS w g q d st) (hb : Below w.heap.size w w') : IsS w' g q d st := h.kept fun i hi _ => hb.block i hi
theorem IsS.lt {w : World} {g : Nat} {q d : Option Nat} {st : St} (h : IsS w g q d st) : g < w.heap.size := by
  cases st with
  | wait c =>
    obtain ⟨_, _, _, _, hS, _, _⟩ := h.ex
    exact Blk.lt hS
  | bad f =>
    obtain ⟨_, _, hS, _⟩ := h
    exact Blk.lt hS
end Go.Proofs.Ytoiigalaijnoeaa
