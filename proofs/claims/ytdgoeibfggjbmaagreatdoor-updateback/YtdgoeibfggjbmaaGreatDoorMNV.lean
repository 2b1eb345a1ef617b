/-
  Put together: NlV NlW.
-/
import Derived.Test.YtdgoeibfggjbmaaGreatDoorMNM
import Derived.Test.YtdgoeibfggjbmaaGreatDoorMNC
import Derived.Test.YtdgoeibfggjbmaaGreatDoorMNT
namespace Go.Proofs.YtdgoeibfggjbmaaGreatDoor
open Go.RowKit
set_option maxRecDepth 100000
set_option linter.unusedSimpArgs false
set_option linter.unusedVariables false

instance rtDec : DecidableEq Rt := fun r s => decidable_of_iff (sameR r s = true) (sameR_iff r s)
theorem rt_in (r s : Rt) (hr : RtOk r) (hs : RtOk s) (b : Bool) (hb : b = true ↔ r = s) (w : World) : (Op.equalIn 10000 53 (.agg (rtc r).toArray) (.agg (rtc s).toArray)).run Tryz.prog w = .ok b w := by
  obtain ⟨q, hq, hiff⟩ := run_equalIn_deep (10000 - 5) 5 53 (by kernel_rfl) w 5 5 (.agg (rtc r).toArray) (.agg (rtc s).toArray) _ _ (rt_formed r hr) (rt_formed s hs) (by simpa [Value.cells] using rt_lits r hr) (by simpa [Value.cells] using rt_lits s hs)
  rw [show 10000 - 5 + 5 = 10000 by omega] at hq
  rw [hq]
  have : q = b := by rw [Bool.eq_iff_iff, hiff, hb]; exact ⟨rtl_inj hr hs, fun e => by rw [e]⟩
  rw [this]
theorem RdRt.get {w : World} {B n : Nat} {A : Option Addr} {rs : List Rt} (h : RdRt w B A n rs) {m : Nat} (hm : m < rs.length) : ∃ b off, A = some ⟨b, off, none⟩ ∧ b < B ∧ w.rangeAt b (off + m * 63) (rtc rs[m]) ∧ RtOk rs[m] := by
  obtain ⟨b, off, e, hlt, hc⟩ := h.at_ (by have := h.len; omega)
  exact ⟨b, off, e, hlt, hc m hm, h.ok.at_ m hm⟩
end Go.Proofs.YtdgoeibfggjbmaaGreatDoor
namespace Go.Proofs.YtdgoeibfggjbmaaGreatDoor
open Go.RowKit
set_option maxRecDepth 100000
set_option linter.unusedSimpArgs false
set_option linter.unusedVariables false

structure OwnI (lo : Nat) (w : World) (v : Value) (xs : List Int) : Prop where
  own : w.ownsRow lo 3 1 v xs.length (xs.map (Value.int .i64))
theorem OwnI.at_ {lo : Nat} {w : World} {v : Value} {xs : List Int} (h : OwnI lo w v xs) (hp : 0 < xs.length) : ∃ b c, v = .slice (some ⟨b, 0, none⟩) xs.length c ∧ b < w.heap.size ∧ ∀ i (hi : i < xs.length), w.cell? ⟨b, i, none⟩ = some (.int .i64 xs[i]) := by
  rcases h.own.2 with ⟨rfl, hn⟩ | ⟨g, cap, cur, rfl, hb, hg, hnc, hcm, hcs, hx⟩
  · omega
  · refine ⟨g, cap, rfl, (Array.getElem?_eq_some_iff.1 hg).1, fun i hi => ?_⟩
    have h1 : (xs.map (Value.int .i64))[i]? = some (.int .i64 xs[i]) := by simp [hi]
    rw [← hx, List.getElem?_take, if_pos (by omega)] at h1
    simp only [World.cell?, hg]
    rw [← Array.getElem?_toList]
    exact h1
theorem OwnI.new (w : World) (x : Int) : OwnI w.heap.size (w.alloc (.cells #[.int .i64 x] 3)) (.slice (some ⟨w.heap.size, 0, none⟩) 1 1) [x] :=
  ⟨⟨rfl, Or.inr ⟨w.heap.size, 1, #[.int .i64 x], rfl, Nat.le_refl _, Blk.new w 3 _, Nat.le_refl _, by decide, rfl, rfl⟩⟩⟩
/-! Bytes that are cut short. -/
theorem putR_len (r : Rt) : (putR r).length = (bodyR r).length + 2 := by simp [putR]
theorem puts_le {rs : List Rt} (h : AllR rs) : (puts rs).length ≤ rs.length * 102 := by
  induction rs with
  | nil => simp [puts]
  | cons r rs ih =>
    have h1 := bodyR_le (h r List.mem_cons_self).1
    have h2 := ih (fun s hs => h s (List.mem_cons_of_mem _ hs))
    simp only [puts, List.flatMap_cons, List.length_append, List.length_cons] at h2 ⊢
    rw [putR_len]
    omega
theorem RdRt.cut {w : World} {B n : Nat} {A : Option Addr} {rs : List Rt} (h : RdRt w B A n rs) {m : Nat} (hm : m ≤ n) : RdRt w B A m (rs.take m) :=
  ⟨by have := h.len; simp; omega, fun r hr => h.ok r (List.mem_of_mem_take hr), fun hp => by
    obtain ⟨b, off, e, hlt, hc⟩ := h.at_ (by omega)
    refine ⟨b, off, e, hlt, fun i hi => ?_⟩
    rw [List.getElem_take]
    exact hc i (by simp at hi; omega)⟩
end Go.Proofs.YtdgoeibfggjbmaaGreatDoor
