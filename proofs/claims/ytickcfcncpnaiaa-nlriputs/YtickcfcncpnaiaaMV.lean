/-
  Put together: NlV NlW.
-/
import Derived.Test.YtickcfcncpnaiaaMM
import Derived.Test.YtickcfcncpnaiaaMC
import Derived.Test.YtickcfcncpnaiaaMT
namespace Go.Proofs.Ytickcfcncpnaiaa
open Go.RowKit
set_option maxRecDepth 100000
set_option linter.unusedSimpArgs false
set_option linter.unusedVariables false

instance rtDec : DecidableEq Rt := fun r s => decidable_of_iff (sameR r s = true) (sameR_iff r s)
theorem rt_in (r s : Rt) (hr : RtOk r) (hs : RtOk s) (b : Bool) (hb : b = true ↔ r = s) (w : World) : (Op.equalIn 10000 36 (.agg (rtc r).toArray) (.agg (rtc s).toArray)).run Try.prog w = .ok b w := by
  obtain ⟨q, hq, hiff⟩ := run_equalIn_deep (10000 - 5) 5 36 (by kernel_rfl) w 5 5 (.agg (rtc r).toArray) (.agg (rtc s).toArray) _ _ (rt_formed r hr) (rt_formed s hs) (by simpa [Value.cells] using rt_lits r hr) (by simpa [Value.cells] using rt_lits s hs)
  rw [show 10000 - 5 + 5 = 10000 by omega] at hq
  rw [hq]
  have : q = b := by rw [Bool.eq_iff_iff, hiff, hb]; exact ⟨rtl_inj hr hs, fun e => by rw [e]⟩
  rw [this]
theorem RdRt.get {w : World} {B n : Nat} {A : Option Addr} {rs : List Rt} (h : RdRt w B A n rs) {m : Nat} (hm : m < rs.length) : ∃ b off, A = some ⟨b, off, none⟩ ∧ b < B ∧ w.rangeAt b (off + m * 63) (rtc rs[m]) ∧ RtOk rs[m] := by
  obtain ⟨b, off, e, hlt, hc⟩ := h.at_ (by have := h.len; omega)
  exact ⟨b, off, e, hlt, hc m hm, h.ok.at_ m hm⟩
set_option maxHeartbeats 400000 in
theorem sameN_is (w : World) (A1 A2 : Option Addr) (n1 n2 c1 c2 : Nat) (rs ss : List Rt) (h1 : RdRt w w.heap.size A1 n1 rs) (h2 : RdRt w w.heap.size A2 n2 ss) (hn : n1 ≤ 4611686018427387904) :
    Calls Try.prog 17 #[.slice A1 n1 c1, .slice A2 n2 c2] w fun e w' => e = .returned (.bool (decide (rs = ss))) ∧ Below w.heap.size w w' := by
  have H1 := Lib.hid h1
  have H2 := Lib.hid h2
  have l1 := h1.len
  have l2 := h2.len
  clear h1 h2
  by_cases hl : n1 = n2
  · subst hl
    have HL1 := Lib.hid l1
    have HL2 := Lib.hid l2
    clear l1 l2
    go_enter Try.func17, Try.ntmps17
    go_wp2
    go_loopw [5, 13] (fun _ i wr => ∃ m : Nat, m ≤ n1 ∧ i = .int .i64 m ∧ rs.take m = ss.take m ∧ Below w.heap.size w wr) (fun _ i _ => n1 - (intOf i).toNat)
    case atStart => exact ⟨0, Nat.zero_le _, rfl, rfl, Below.refl _ _⟩
    case round =>
      obtain ⟨m, hm, rfl, heq, hB⟩ := hrel
      have HE := Lib.hid heq
      have HB := Lib.hid hB
      clear heq hB
      by_cases hlt : m < n1
      · have hm1 : m < rs.length := by have := HL1.out; omega
        have hm2 : m < ss.length := by have := HL2.out; omega
        obtain ⟨b1, o1, rfl, hb1, hr1, ok1⟩ := (H1.out.below HB.out).get hm1
        obtain ⟨b2, o2, rfl, hb2, hr2, ok2⟩ := (H2.out.below HB.out).get hm2
        have HT1 := Lib.hid (List.take_succ_eq_append_getElem hm1)
        have HT2 := Lib.hid (List.take_succ_eq_append_getElem hm2)
        have HD : Hid (rs[m] ≠ ss[m] → rs ≠ ss) := Lib.hid (fun h e => h (by subst e; rfl))
        have HR1 := Lib.hid hr1
        have HR2 := Lib.hid hr2
        have HO1 := Lib.hid ok1
        have HO2 := Lib.hid ok2
        clear hr1 hr2 ok1 ok2
        generalize rs[m] = x at *
        generalize ss[m] = y at *
        have hq := rt_in x y HO1.out HO2.out (decide (x = y)) (by simp)
        have h0 : (0 : Int) ≤ (m : Int) := by omega
        have h1 : (m : Int) < (n1 : Int) := by omega
        go_wp2
        refine wp_region_held_drew (S := fun W => W.rangeAt b1 (o1 + m * 63) (rtc x) ∧ W.rangeAt b2 (o2 + m * 63) (rtc y)) (by kernel_rfl) (⟨HR1.out, HR2.out⟩) (fun hS => ?_)
        refine wpAnyH_take (i := 0) (oi := ⟨some 16, _, _, _, _, _⟩) (v := ?_) rfl (by kernel_rfl) (by kernel_rfl) (by kernel_rfl) (fun _ _ _ h => h) (Or.inl ⟨by rfl, ?_⟩) hS ?_
        rotate_left
        · intro wq hq
          first | (go_simp; done) | (go_simp; rfl)
        try simp only [Act.put, List.setIfInBounds_toArray, List.set_cons_zero, List.set_cons_succ]
        refine wpAnyH_take (i := 1) (oi := ⟨some 17, _, _, _, _, _⟩) (v := ?_) rfl (by kernel_rfl) (by kernel_rfl) (by kernel_rfl) (fun _ _ _ h => h) (Or.inl ⟨by rfl, ?_⟩) hS ?_
        rotate_left
        · intro wq hq
          first | (go_simp; done) | (go_simp; rfl)
        try simp only [Act.put, List.setIfInBounds_toArray, List.set_cons_zero, List.set_cons_succ]
        refine wpAnyH_take (i := 2) (oi := ⟨some 18, _, _, _, _, _⟩) (v := ?_) rfl (by kernel_rfl) (by kernel_rfl) (by kernel_rfl) (fun _ _ _ h => h) (Or.inl ⟨by rfl, ?_⟩) hS ?_
        rotate_left
        · intro wq hq
          first | (go_simp; done) | (go_simp; rfl)
        try simp only [Act.put, List.setIfInBounds_toArray, List.set_cons_zero, List.set_cons_succ]
        refine wpAnyH_take (i := 3) (oi := ⟨some 19, _, _, _, _, _⟩) rfl (by kernel_rfl) (by kernel_rfl) (by kernel_rfl) (fun _ _ _ h => h) (yieldsIf_load_mid (by rfl) 36 _ rfl _ _ rfl (rtc x) _ (fun wq hq => hq.1) Try.underlying36 rfl (by rw [rt_size, rtc_len HO1.out])) hS ?_
        try simp only [Act.put, List.setIfInBounds_toArray, List.set_cons_zero, List.set_cons_succ]
        refine wpAnyH_take (i := 4) (oi := ⟨some 20, _, _, _, _, _⟩) (v := ?_) rfl (by kernel_rfl) (by kernel_rfl) (by kernel_rfl) (fun _ _ _ h => h) (Or.inl ⟨by rfl, ?_⟩) hS ?_
        rotate_left
        · intro wq hq
          first | (go_simp; done) | (go_simp; rfl)
        try simp only [Act.put, List.setIfInBounds_toArray, List.set_cons_zero, List.set_cons_succ]
        refine wpAnyH_take (i := 5) (oi := ⟨some 21, _, _, _, _, _⟩) (v := ?_) rfl (by kernel_rfl) (by kernel_rfl) (by kernel_rfl) (fun _ _ _ h => h) (Or.inl ⟨by rfl, ?_⟩) hS ?_
        rotate_left
        · intro wq hq
          first | (go_simp; done) | (go_simp; rfl)
        try simp only [Act.put, List.setIfInBounds_toArray, List.set_cons_zero, List.set_cons_succ]
        refine wpAnyH_take (i := 6) (oi := ⟨some 22, _, _, _, _, _⟩) (v := ?_) rfl (by kernel_rfl) (by kernel_rfl) (by kernel_rfl) (fun _ _ _ h => h) (Or.inl ⟨by rfl, ?_⟩) hS ?_
        rotate_left
        · intro wq hq
          first | (go_simp; done) | (go_simp; rfl)
        try simp only [Act.put, List.setIfInBounds_toArray, List.set_cons_zero, List.set_cons_succ]
        refine wpAnyH_take (i := 7) (oi := ⟨some 23, _, _, _, _, _⟩) rfl (by kernel_rfl) (by kernel_rfl) (by kernel_rfl) (fun _ _ _ h => h) (yieldsIf_load_mid (by rfl) 36 _ rfl _ _ rfl (rtc y) _ (fun wq hq => hq.2) Try.underlying36 rfl (by rw [rt_size, rtc_len HO2.out])) hS ?_
        try simp only [Act.put, List.setIfInBounds_toArray, List.set_cons_zero, List.set_cons_succ]
        refine wpAnyH_take (i := 8) (oi := ⟨some 24, _, _, _, _, _⟩) (v := ?_) rfl (by kernel_rfl) (by kernel_rfl) (by kernel_rfl) (fun _ _ _ h => h) (Or.inl ⟨by rfl, ?_⟩) hS ?_
        rotate_left
        · intro wq hq
          first | (go_simp; done) | (go_simp; rfl)
        try simp only [Act.put, List.setIfInBounds_toArray, List.set_cons_zero, List.set_cons_succ]
        refine wpAnyH_done (by kernel_rfl) ?_ _
        clear hS hq
        have HBd := Lib.hid (below_drewN HB.out 1)
        by_cases hxy : x = y
        · subst hxy
          rw [show decide (x = x) = true from by simp]
          go_wp2
          exact ⟨⟨m + 1, by omega, by go_num, by rw [HT1.out, HT2.out, HE.out], HBd.out⟩, by simp [intOf]; omega⟩
        · rw [show decide (x = y) = false from by simp [hxy]]
          have HF := Lib.hid (HD.out hxy)
          clear hxy
          go_wp2
          go_ret
          exact ⟨by rw [decide_eq_false HF.out]; rfl, HBd.out⟩
      · obtain rfl : m = n1 := by omega
        have HF : Hid (rs = ss) := Lib.hid (by
          have := HE.out
          rwa [List.take_of_length_le (by have := HL1.out; omega), List.take_of_length_le (by have := HL2.out; omega)] at this)
        go_wp2
        go_ret
        exact ⟨by rw [decide_eq_true HF.out]; rfl, HB.out⟩
  · have HF : Hid (decide (rs = ss) = false) := Lib.hid (decide_eq_false (fun e => hl (by rw [← l1, ← l2, e])))
    clear l1 l2
    have hne : ¬ (n1 : Int) = (n2 : Int) := by omega
    go_enter Try.func17, Try.ntmps17
    go_wp2
    go_ret
    exact ⟨by rw [HF.out]; rfl, Below.refl _ _⟩
end Go.Proofs.Ytickcfcncpnaiaa
namespace Go.Proofs.Ytickcfcncpnaiaa
open Go.RowKit
set_option maxRecDepth 100000
set_option linter.unusedSimpArgs false
set_option linter.unusedVariables false

theorem tmod_bd (n m : Int) (hm : 0 < m) : -m < n.tmod m ∧ n.tmod m < m := by
  rcases Int.le_total 0 n with h | h
  · have h1 := Int.tmod_nonneg m h
    have h2 := Int.tmod_lt_of_pos n hm
    omega
  · have h1 := Int.tmod_nonneg m (show 0 ≤ -n by omega)
    have h2 := Int.tmod_lt_of_pos (-n) hm
    rw [Int.neg_tmod] at h1 h2
    omega
theorem row_neN {w : World} {i j : Nat} {t u : TypeId} {a b : Array Value} (h : w.heap[i]? = some (.cells a t (0, 0))) (k : w.heap[j]? = some (.cells b u (0, 0))) (hne : t ≠ u) : i ≠ j := by
  rintro rfl
  rw [h] at k
  injection k with k
  injection k with _ k
  exact hne k
/-- Two rows of one's own, of unlike elements: what grows one leaves the other. -/
theorem own_other {w w' : World} {b1 b2 : Nat} {e1 e2 : TypeId} {s1 s2 n1 n2 : Nat} {v u : Value} {xs ys : List Value} (hne : e1 ≠ e2) (h : w.ownsRow b1 e1 s1 v n1 xs) (h2 : w.ownsRow b2 e2 s2 u n2 ys) (hg : w.grownBy w' u.ownBlock) : w'.ownsRow b1 e1 s1 v n1 xs :=
  own_keep h fun i c hi _ _ => hg.block i (Array.getElem?_eq_some_iff.1 hi).1 (fun e => by
    obtain ⟨c', hc'⟩ := own_heap h2 e.symm
    exact row_neN hi hc' hne rfl)
theorem own_below {w w' : World} {base : Nat} {e : TypeId} {size n : Nat} {v : Value} {xs : List Value} (h : w.ownsRow base e size v n xs) (hb : Below w.heap.size w w') : w'.ownsRow base e size v n xs :=
  own_keep h fun i c hi _ _ => hb.block i (Array.getElem?_eq_some_iff.1 hi).1
/-- Ints of one's own. -/
structure OwnI (lo : Nat) (w : World) (v : Value) (xs : List Int) : Prop where
  own : w.ownsRow lo 3 1 v xs.length (xs.map (Value.int .i64))
theorem OwnI.at_ {lo : Nat} {w : World} {v : Value} {xs : List Int} (h : OwnI lo w v xs) (hp : 0 < xs.length) : ∃ b c, v = .slice (some ⟨b, 0, none⟩) xs.length c ∧ b < w.heap.size ∧ ∀ i (hi : i < xs.length), w.cell? ⟨b, i, none⟩ = some (.int .i64 xs[i]) := by
  rcases h.own.2 with ⟨rfl, hn⟩ | ⟨g, cap, cur, rfl, hb, hg, hnc, hcm, hcs, hx⟩
  · omega
  · refine ⟨g, cap, rfl, (Array.getElem?_eq_some_iff.1 hg).1, fun i hi => ?_⟩
    have h1 : (xs.map (Value.int .i64))[i]? = some (.int .i64 xs[i]) := by simp [hi]
    rw [← hx, List.getElem?_take, if_pos (by omega)] at h1
    simp only [World.cell?, hg]
    rw [← Array.getElem?_toList]
    exact h1
theorem OwnI.new (w : World) (x : Int) : OwnI w.heap.size (w.alloc (.cells #[.int .i64 x] 3)) (.slice (some ⟨w.heap.size, 0, none⟩) 1 1) [x] :=
  ⟨⟨rfl, Or.inr ⟨w.heap.size, 1, #[.int .i64 x], rfl, Nat.le_refl _, Blk.new w 3 _, Nat.le_refl _, by decide, rfl, rfl⟩⟩⟩
theorem info_int : (Try.prog.info? 3).map (fun i => (i.zero, i.size, i.bytes)) = some (some (.int .i64 0), 1, 8) := by kernel_rfl
/-! Bytes that are cut short. -/
theorem putR_len (r : Rt) : (putR r).length = (bodyR r).length + 2 := by simp [putR]
theorem cut_one {r : Rt} (k : Nat) (h0 : 0 < k) (h1 : k < (putR r).length) : readAll ((putR r).take k) = none := by
  rw [putR_len] at h1
  match k, h0 with
  | 1, _ => rfl
  | k + 2, _ =>
    show readAll (r.k :: ((bodyR r).length : Int) :: (bodyR r).take k) = none
    rw [readAll_cons, if_pos (by simp; omega)]
theorem cut_none : ∀ (rs : List Rt), AllR rs → ∀ c, c ≤ (puts rs).length → (∀ j, j ≤ rs.length → (puts (rs.take j)).length ≠ c) → readAll ((puts rs).take c) = none
  | [], _, c, hc, hj => by
    have h0 := hj 0 (Nat.le_refl _)
    simp only [puts, List.take_nil, List.flatMap_nil, List.length_nil] at h0 hc
    omega
  | r :: rs, h, c, hc, hj => by
    obtain ⟨h1, h2⟩ := h r List.mem_cons_self
    have e : puts (r :: rs) = putR r ++ puts rs := by simp [puts]
    have j0 := hj 0 (by simp)
    have j1 := hj 1 (by simp)
    simp only [List.take_zero, List.take_succ_cons, puts_one] at j0 j1
    have j0' : c ≠ 0 := fun e => j0 (by rw [e]; rfl)
    rw [e] at hc ⊢
    rcases Nat.lt_or_ge c (putR r).length with hlt | hge
    · rw [List.take_append_of_le_length (by omega)]
      exact cut_one c (by omega) hlt
    · rw [List.take_append, List.take_of_length_le hge, read_put h1 h2]
      rw [cut_none rs (fun s hs => h s (List.mem_cons_of_mem _ hs)) (c - (putR r).length) (by simp at hc; omega) (fun j hjl he => by
        have := hj (j + 1) (by simp; omega)
        rw [List.take_succ_cons] at this
        apply this
        simp only [puts, List.flatMap_cons, List.length_append] at he ⊢
        omega)]
      rfl
theorem cut_some {rs : List Rt} (h : AllR rs) (j : Nat) : readAll ((puts rs).take (puts (rs.take j)).length) = some (rs.take j, 0) := by
  have e : puts rs = puts (rs.take j) ++ puts (rs.drop j) := by rw [← puts_app, List.take_append_drop]
  rw [e, List.take_left]
  exact read_puts _ (fun r hr => h r (List.mem_of_mem_take hr))
/-- Those of them that are right. -/
def okRs (rs : List Rt) : List Rt := rs.filter rightR
theorem okRs_all {rs : List Rt} (h : AllRt rs) : AllR (okRs rs) := fun r hr => by
  have := List.mem_filter.1 hr
  exact ⟨h r this.1, this.2⟩
theorem okRs_step {rs : List Rt} {m : Nat} (hm : m < rs.length) : okRs (rs.take (m + 1)) = if rightR rs[m] then okRs (rs.take m) ++ [rs[m]] else okRs (rs.take m) := by
  unfold okRs
  rw [List.take_succ_eq_append_getElem hm, List.filter_append]
  cases h : rightR rs[m] <;> simp [h]
theorem puts_le {rs : List Rt} (h : AllR rs) : (puts rs).length ≤ rs.length * 102 := by
  induction rs with
  | nil => simp [puts]
  | cons r rs ih =>
    have h1 := bodyR_le (h r List.mem_cons_self).1
    have h2 := ih (fun s hs => h s (List.mem_cons_of_mem _ hs))
    simp only [puts, List.flatMap_cons, List.length_append, List.length_cons] at h2 ⊢
    rw [putR_len]
    omega
theorem RdRt.cut {w : World} {B n : Nat} {A : Option Addr} {rs : List Rt} (h : RdRt w B A n rs) {m : Nat} (hm : m ≤ n) : RdRt w B A m (rs.take m) :=
  ⟨by have := h.len; simp; omega, fun r hr => h.ok r (List.mem_of_mem_take hr), fun hp => by
    obtain ⟨b, off, e, hlt, hc⟩ := h.at_ (by omega)
    refine ⟨b, off, e, hlt, fun i hi => ?_⟩
    rw [List.getElem_take]
    exact hc i (by simp at hi; omega)⟩
theorem Rd.first {w : World} {B n : Nat} {A : Option Addr} {l : List Int} (h : Rd w B A n l) {m : Nat} (hm : m ≤ n) : Rd w B A m (l.take m) :=
  ⟨by have := h.len; simp; omega, fun x hx => h.oct x (List.mem_of_mem_take hx), fun hp => by
    obtain ⟨b, off, e, hlt, hc⟩ := h.at_ (by omega)
    refine ⟨b, off, e, hlt, fun i hi => ?_⟩
    rw [hc i (by omega)]
    simp [List.getD, hi]⟩
end Go.Proofs.Ytickcfcncpnaiaa
