/-
  Put together: NlV NlW.
-/
import Derived.Test.YtdgoeibfggjbmaaGreatDoorMNM
import Derived.Test.YtdgoeibfggjbmaaGreatDoorMNC
import Derived.Test.YtdgoeibfggjbmaaGreatDoorMNT
namespace Go.Proofs.YtdgoeibfggjbmaaGreatDoor
open Go.RowKit
set_option maxRecDepth 100000
set_option linter.unusedSimpArgs false
set_option linter.unusedVariables false

instance rtDec : DecidableEq Rt := fun r s => decidable_of_iff (sameR r s = true) (sameR_iff r s)
theorem rt_in (r s : Rt) (hr : RtOk r) (hs : RtOk s) (b : Bool) (hb : b = true ↔ r = s) (w : World) : (Op.equalIn 10000 53 (.agg (rtc r).toArray) (.agg (rtc s).toArray)).run Tryz.prog w = .ok b w := by
  obtain ⟨q, hq, hiff⟩ := run_equalIn_deep (10000 - 5) 5 53 (by kernel_rfl) w 5 5 (.agg (rtc r).toArray) (.agg (rtc s).toArray) _ _ (rt_formed r hr) (rt_formed s hs) (by simpa [Value.cells] using rt_lits r hr) (by simpa [Value.cells] using rt_lits s hs)
  rw [show 10000 - 5 + 5 = 10000 by omega] at hq
  rw [hq]
  have : q = b := by rw [Bool.eq_iff_iff, hiff, hb]; exact ⟨rtl_inj hr hs, fun e => by rw [e]⟩
  rw [this]
theorem RdRt.get {w : World} {B n : Nat} {A : Option Addr} {rs : List Rt} (h : RdRt w B A n rs) {m : Nat} (hm : m < rs.length) : ∃ b off, A = some ⟨b, off, none⟩ ∧ b < B ∧ w.rangeAt b (off + m * 63) (rtc rs[m]) ∧ RtOk rs[m] := by
  obtain ⟨b, off, e, hlt, hc⟩ := h.at_ (by have := h.len; omega)
  exact ⟨b, off, e, hlt, hc m hm, h.ok.at_ m hm⟩
end Go.Proofs.YtdgoeibfggjbmaaGreatDoor
namespace Go.Proofs.YtdgoeibfggjbmaaGreatDoor
open Go.RowKit
set_option maxRecDepth 100000
set_option linter.unusedSimpArgs false
set_option linter.unusedVariables false

theorem tmod_bd (n m : Int) (hm : 0 < m) : -m < n.tmod m ∧ n.tmod m < m := by
  rcases Int.le_total 0 n with h | h
  · have h1 := Int.tmod_nonneg m h
    have h2 := Int.tmod_lt_of_pos n hm
    omega
  · have h1 := Int.tmod_nonneg m (show 0 ≤ -n by omega)
    have h2 := Int.tmod_lt_of_pos (-n) hm
    rw [Int.neg_tmod] at h1 h2
    omega
set_option maxHeartbeats 400000 in
theorem count_is (w : World) (n m : Int) (hm : 1 ≤ m) (hm2 : m < 4611686018427387904) (hn : I64 n) : Calls Tryz.prog 29 #[.int .i64 n, .int .i64 m] w fun e w' => ∃ c : Nat, (c : Int) < m ∧ e = .returned (.int .i64 c) ∧ w' = w := by
  obtain ⟨h1, h2⟩ := tmod_bd n m (by omega)
  by_cases hx0 : n.tmod m < 0
  · have hs : ∃ c : Nat, n.tmod m + m = c := ⟨(n.tmod m + m).toNat, by omega⟩
    obtain ⟨c, hc⟩ := hs
    have HC := Lib.hid hc
    have hc2 : (c : Int) < m := by omega
    clear hc
    go_enter Tryz.func29, Tryz.ntmps29
    go_wp2
    go_ret
    exact ⟨c, hc2, by rw [← HC.out]; go_num, rfl⟩
  · have hs : ∃ c : Nat, n.tmod m = c := ⟨(n.tmod m).toNat, by omega⟩
    obtain ⟨c, hc⟩ := hs
    have HC := Lib.hid hc
    have hc2 : (c : Int) < m := by omega
    clear hc
    go_enter Tryz.func29, Tryz.ntmps29
    go_wp2
    go_ret
    exact ⟨c, hc2, by rw [← HC.out]; rfl, rfl⟩

structure OwnI (lo : Nat) (w : World) (v : Value) (xs : List Int) : Prop where
  own : w.ownsRow lo 3 1 v xs.length (xs.map (Value.int .i64))
theorem OwnI.at_ {lo : Nat} {w : World} {v : Value} {xs : List Int} (h : OwnI lo w v xs) (hp : 0 < xs.length) : ∃ b c, v = .slice (some ⟨b, 0, none⟩) xs.length c ∧ b < w.heap.size ∧ ∀ i (hi : i < xs.length), w.cell? ⟨b, i, none⟩ = some (.int .i64 xs[i]) := by
  rcases h.own.2 with ⟨rfl, hn⟩ | ⟨g, cap, cur, rfl, hb, hg, hnc, hcm, hcs, hx⟩
  · omega
  · refine ⟨g, cap, rfl, (Array.getElem?_eq_some_iff.1 hg).1, fun i hi => ?_⟩
    have h1 : (xs.map (Value.int .i64))[i]? = some (.int .i64 xs[i]) := by simp [hi]
    rw [← hx, List.getElem?_take, if_pos (by omega)] at h1
    simp only [World.cell?, hg]
    rw [← Array.getElem?_toList]
    exact h1
theorem OwnI.new (w : World) (x : Int) : OwnI w.heap.size (w.alloc (.cells #[.int .i64 x] 3)) (.slice (some ⟨w.heap.size, 0, none⟩) 1 1) [x] :=
  ⟨⟨rfl, Or.inr ⟨w.heap.size, 1, #[.int .i64 x], rfl, Nat.le_refl _, Blk.new w 3 _, Nat.le_refl _, by decide, rfl, rfl⟩⟩⟩
/-! Bytes that are cut short. -/
theorem putR_len (r : Rt) : (putR r).length = (bodyR r).length + 2 := by simp [putR]
theorem puts_le {rs : List Rt} (h : AllR rs) : (puts rs).length ≤ rs.length * 102 := by
  induction rs with
  | nil => simp [puts]
  | cons r rs ih =>
    have h1 := bodyR_le (h r List.mem_cons_self).1
    have h2 := ih (fun s hs => h s (List.mem_cons_of_mem _ hs))
    simp only [puts, List.flatMap_cons, List.length_append, List.length_cons] at h2 ⊢
    rw [putR_len]
    omega
theorem RdRt.cut {w : World} {B n : Nat} {A : Option Addr} {rs : List Rt} (h : RdRt w B A n rs) {m : Nat} (hm : m ≤ n) : RdRt w B A m (rs.take m) :=
  ⟨by have := h.len; simp; omega, fun r hr => h.ok r (List.mem_of_mem_take hr), fun hp => by
    obtain ⟨b, off, e, hlt, hc⟩ := h.at_ (by omega)
    refine ⟨b, off, e, hlt, fun i hi => ?_⟩
    rw [List.getElem_take]
    exact hc i (by simp at hi; omega)⟩
theorem Rd.first {w : World} {B n : Nat} {A : Option Addr} {l : List Int} (h : Rd w B A n l) {m : Nat} (hm : m ≤ n) : Rd w B A m (l.take m) :=
  ⟨by have := h.len; simp; omega, fun x hx => h.oct x (List.mem_of_mem_take hx), fun hp => by
    obtain ⟨b, off, e, hlt, hc⟩ := h.at_ (by omega)
    refine ⟨b, off, e, hlt, fun i hi => ?_⟩
    rw [hc i (by omega)]
    simp [List.getD, hi]⟩
end Go.Proofs.YtdgoeibfggjbmaaGreatDoor
