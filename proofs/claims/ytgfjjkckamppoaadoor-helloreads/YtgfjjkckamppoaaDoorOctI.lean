/-
  Layer 1: contracts of the document's cursor.
-/
import Derived.Test.YtgfjjkckamppoaaDoorOctG
import Derived.StillTailTactics
namespace Go.Proofs.YtgfjjkckamppoaaDoor
open Go.RowKit
set_option maxRecDepth 100000

/-- A region that reads in whatever order and ends in one forced tail: the world behind the draw under a name of its own. -/
theorem still_tail_any {P : Program} {id : Nat} {Q : Exit → Act → World → Prop} {a : Act} {w : World} {l : List Oper} (n : Nat) (hm : P.follows .mixedOrders = true) (hB : Region.lexTailB .any l.toArray n = true)
    (h : ∀ W, W = w.drewN 1 → wpStill P l.toArray W (fun a' => wpList P l.toArray Q (l.drop n) a' W) (l.take n) a) : (Code.region id l.toArray true).wp P Q a w :=
  wp_region_still_tail n hm hB (h _ rfl)

theorem New.set_ {t : TypeId} {w w' : World} {A : Option Addr} {n : Nat} {l : List Int} (h : New t w w' A n l) {p : Addr} (hp : p.block < w.heap.size) (u : Value) : New t w (w'.setCell p u) A n l :=
  ⟨h.1, h.2.1, h.2.2.imp id fun ⟨g, a, b, c⟩ => ⟨g, a, b, c.far (by omega) u⟩⟩

abbrev IsRef (w : World) (g : Nat) (l : List Int) (at_ : Nat) (err : Int) : Prop := IsCurT 97 w g l at_ err

set_option maxHeartbeats 1000000 in
theorem copy_is (w : World) (A : Option Addr) (n c : Nat) (l : List Int) (hr : Rd w w.heap.size A n l) (hm : n ≤ 281474976710656) :
    Calls Tryd.prog 71 #[.slice A n c] w (Copied w n l) := by
  have hmk := run_make_row' (P := Tryd.prog) 25 5 (.int .u8 0) 1 Tryd.underlying25 info_byte rfl .i64 .i64 n (by omega) (by omega) w
  have H := Lib.hid hr
  have H0 := Lib.hid (byt_made w n 5)
  have HL := Lib.hid hr.len
  clear hr
  go_enter Tryd.func71, Tryd.ntmps71
  go_wp2
  go_loopw [4, 10] (fun _ i wr => ∃ k : Nat, k ≤ n ∧ i = .int .i64 k ∧ Byt wr w.heap.size 5 (l.take k ++ List.replicate (n - k) 0) ∧ Below w.heap.size w wr) (fun _ i _ => n - (intOf i).toNat)
  case atStart => exact ⟨0, Nat.zero_le _, rfl, by simpa using H0.out, (Below.refl _ _).alloc (Nat.le_refl _) _⟩
  case round =>
    obtain ⟨k, hk, rfl, hb, hB⟩ := hrel
    by_cases hlt : k < n
    · obtain ⟨b, off, rfl, hbb, hcell⟩ := H.out.at_ (by omega)
      have hkl : k < l.length := by have := HL.out; omega
      have hc : wr.cell? ⟨b, off + k, none⟩ = some (.int .u8 l[k]) := by
        rw [hB.cell (p := ⟨b, off + k, none⟩) hbb, hcell k hlt]
        simp [List.getD, List.getElem?_eq_getElem hkl]
      have hco := hb.cell (i := k) (by simp; omega)
      have hfo := hb.frozen k
      have hs := hb.set_ k l[k]
      rw [show n - k = n - (k + 1) + 1 from by omega, set_next l k _ hkl] at hs
      have H1 := Lib.hid hs
      have H2 := Lib.hid hB
      clear hs hb hB hcell
      generalize l[k] = x at *
      go_wp2
      exact ⟨⟨k + 1, by omega, by go_num, H1.out, H2.out.setCell (Nat.le_refl _) _⟩, by simp [intOf]; omega⟩
    · obtain rfl : k = n := by omega
      have hlen := HL.out
      rw [List.take_of_length_le (by omega), Nat.sub_self, List.replicate_zero, List.append_nil] at hb
      have H1 := Lib.hid hb
      have H2 := Lib.hid hB
      clear hb hB hlen
      go_wp2
      go_ret
      exact ⟨some ⟨w.heap.size, 0, none⟩, rfl, ⟨H.out.oct, HL.out, .inr ⟨_, rfl, Nat.le_refl _, H1.out⟩⟩, H2.out⟩

def NewRef (w : World) (l : List Int) (e : Ending) (w' : World) : Prop :=
  ∃ g, e = .returned (.pointer (some ⟨g, 0, none⟩)) ∧ w.heap.size ≤ g ∧ IsRef w' g l 0 0 ∧ Below w.heap.size w w'

theorem isRef_new {w w1 : World} {A : Option Addr} {n : Nat} {l : List Int} (hn : New 5 w w1 A n l) (hm : n ≤ 281474976710656) :
    IsRef (w1.alloc (.cells #[.slice A n n, .int .i64 0, .int .i64 0] 97)) w1.heap.size l 0 0 := by
  obtain rfl := hn.2.1
  exact ⟨⟨A, _, Blk.new w1 97 _, hn.rd.keep (fun p hp => World.cell?_alloc_lt _ _ _ hp), Nat.le_refl _⟩, Nat.zero_le _, hm⟩

set_option maxHeartbeats 400000 in
theorem rnew_is (w : World) (A : Option Addr) (n c : Nat) (l : List Int) (hr : Rd w w.heap.size A n l) (hm : n ≤ 281474976710656) :
    Calls Tryd.prog 50 #[.slice A n c] w (NewRef w l) := by
  have H := Lib.hid hr
  clear hr
  go_enter Tryd.func50, Tryd.ntmps50
  go_wp2_with fail
  refine (copy_is w A n c l H.out hm).mono ?_
  rintro e w1 ⟨A1, rfl, hn, hb⟩
  have H1 := Lib.hid hn
  have H2 := Lib.hid hb
  clear hn hb
  go_wp2
  go_ret
  exact ⟨w1.heap.size, rfl, H2.out.size, isRef_new H1.out hm, H2.out.alloc H2.out.size _⟩

set_option maxHeartbeats 400000 in
theorem rleft_is (w : World) (g : Nat) (l : List Int) (at_ : Nat) (err : Int) (h : IsRef w g l at_ err) :
    Calls Tryd.prog 52 #[.pointer (some ⟨g, 0, none⟩)] w fun e w' => e = .returned (.int .i64 ((l.length : Int) - at_)) ∧ ∃ k, w' = w.drewN k := by
  obtain ⟨A, c, h0, _, _⟩ := h.ex
  have hle := h.le
  have hsm := h.sm
  have c0 : w.cell? ⟨g, 0, none⟩ = some (.slice A l.length c) := Blk.cell h0 0
  have c1 : w.cell? ⟨g, 1, none⟩ = some (.int .i64 at_) := Blk.cell h0 1
  have c2 : w.cell? ⟨g, 2, none⟩ = some (.int .i64 err) := Blk.cell h0 2
  clear h h0
  go_enter Tryd.func52, Tryd.ntmps52
  go_wp2
  go_quiet (fail)
  go_wp2
  go_ret
  exact ⟨rfl, nq, rfl⟩

def RTook (w : World) (g : Nat) (l : List Int) (at_ : Nat) (err k : Int) (e : Ending) (w' : World) : Prop :=
  ∃ A c, e = .returned (.slice A (stepTook l at_ err k).length c) ∧ New 5 w w' A (stepTook l at_ err k).length (stepTook l at_ err k) ∧
    IsRef w' g l (stepAt l at_ err k) (stepErr l at_ err k) ∧ w.grownBy w' (some g)

set_option maxHeartbeats 1000000 in
theorem rtake_ok (w : World) (g : Nat) (l : List Int) (at_ k : Nat) (h : IsRef w g l at_ 0) (hk : at_ + k ≤ l.length) :
    Calls Tryd.prog 72 #[.pointer (some ⟨g, 0, none⟩), .int .i64 k] w (RTook w g l at_ 0 k) := by
  have e1 : stepTook l at_ 0 k = (l.drop at_).take k := by unfold stepTook; rw [if_pos (by omega)]; rfl
  have e2 : stepAt l at_ 0 k = at_ + k := by unfold stepAt; rw [if_pos (by omega)]; rfl
  have e3 : stepErr l at_ 0 k = 0 := by unfold stepErr; rw [if_pos rfl, if_neg (by omega), if_neg (by omega)]
  have e4 : (stepTook l at_ 0 k).length = k := by rw [e1]; simp; omega
  unfold RTook
  rw [e4, e1, e2, e3]
  obtain ⟨A, c, h0, h1, h2⟩ := h.ex
  have c0 : w.cell? ⟨g, 0, none⟩ = some (.slice A l.length c) := Blk.cell h0 0
  have c1 : w.cell? ⟨g, 1, none⟩ = some (.int .i64 at_) := Blk.cell h0 1
  have c2 : w.cell? ⟨g, 2, none⟩ = some (.int .i64 0) := Blk.cell h0 2
  have hsm := h.sm
  have H := Lib.hid h
  have Hcut := Lib.hid (h1.cut hk h2)
  clear h h0 h1 e1 e2 e3 e4
  go_enter Tryd.func72, Tryd.ntmps72
  go_wp2_with fail
  refine (rleft_is w g l at_ 0 H.out).mono ?_
  rintro e w1 ⟨rfl, k1, rfl⟩
  go_wp2_with fail
  refine still_tail_any 15 (by kernel_rfl) (by kernel_rfl) ?_
  intro w1 hw1
  have HD : Hid (w.grownBy w1 (some g)) := by rw [hw1]; exact only_drewN (only_drewN (only_refl w _) k1) 1
  have H1 : Hid (IsRef w1 g l at_ 0) := by rw [hw1]; exact (H.out.drewN k1).drewN 1
  have Hcut1 : Hid (Rd w1 g (if c = at_ then A else Option.map (fun x => x.add at_) A) k (List.take k (List.drop at_ l))) := by rw [hw1]; exact Hcut.out.keep fun _ _ => rfl
  have d0 : w1.cell? ⟨g, 0, none⟩ = some (.slice A l.length c) := by rw [hw1]; exact c0
  have d1 : w1.cell? ⟨g, 1, none⟩ = some (.int .i64 at_) := by rw [hw1]; exact c1
  have e1 : ((at_ : Int) + (k : Int)).toNat = at_ + k := by omega
  have e2 : (at_ : Int) + (k : Int) ≤ (c : Int) := by omega
  have e3 : (0 : Int) ≤ (at_ : Int) + (k : Int) := by omega
  have e4 : IntKind.i64.wrap ((at_ : Int) + (k : Int)) = (at_ : Int) + (k : Int) := by rw [IntKind.wrap_i64]; omega
  clear H Hcut c0 c1 c2 hw1
  simp only [List.take_succ_cons, List.take_zero, List.drop_succ_cons, List.drop_zero]
  repeat still_step
  refine wpStill_nil ?_
  generalize hA : (if c = at_ then A else Option.map (fun x => x.add at_) A) = A' at *
  have HA := Lib.hid hA
  clear hA
  go_wp2_with fail
  clear e1 e2 e3 e4
  refine (copy_is w1 A' k (c - at_) _ (Hcut1.out.more (Nat.le_of_lt H1.out.lt)) (by omega)).mono ?_
  rintro e w2 ⟨A2, rfl, hn2, hB2⟩
  have f1 : w2.frozen? ⟨g, 1, none⟩ = false := by
    obtain ⟨_, _, q, _, _⟩ := H1.out.ex
    exact (Blk.below q hB2 H1.out.lt).frozen 1
  have g1 : w2.cell? ⟨g, 1, none⟩ = some (.int .i64 at_) := by rw [hB2.cell (p := ⟨g, 1, none⟩) H1.out.lt]; exact d1
  have H2 : Hid (IsRef w2 g l at_ 0) := H1.out.keep (hB2.mono H1.out.lt)
  have HN := Lib.hid hn2
  have HB2 := Lib.hid hB2
  clear hn2 hB2 d0 d1
  go_wp2
  go_ret
  refine ⟨A2, k, rfl, (HN.out.set_ H1.out.lt _).from_ HD.out.size, ?_, only_setCell (only_trans HD.out (only_of_below HB2.out _)) (.inl rfl) _⟩
  rw [show (at_ : Int) + (k : Int) = ((at_ + k : Nat) : Int) from by omega]
  exact H2.out.set1 hk

set_option maxHeartbeats 1000000 in
theorem rtake_no (w : World) (g : Nat) (l : List Int) (at_ : Nat) (err k : Int) (h : IsRef w g l at_ err) (hk : ¬ (err = 0 ∧ 0 ≤ k ∧ at_ + k ≤ l.length)) :
    Calls Tryd.prog 72 #[.pointer (some ⟨g, 0, none⟩), .int .i64 k] w (RTook w g l at_ err k) := by
  have e1 : stepTook l at_ err k = [] := by unfold stepTook; rw [if_neg hk]
  have e2 : stepAt l at_ err k = at_ := by unfold stepAt; rw [if_neg hk]
  unfold RTook
  rw [e1, e2]
  obtain ⟨A, c, h0, h1, h2⟩ := h.ex
  have c0 : w.cell? ⟨g, 0, none⟩ = some (.slice A l.length c) := Blk.cell h0 0
  have c1 : w.cell? ⟨g, 1, none⟩ = some (.int .i64 at_) := Blk.cell h0 1
  have c2 : w.cell? ⟨g, 2, none⟩ = some (.int .i64 err) := Blk.cell h0 2
  have f2 : w.frozen? ⟨g, 2, none⟩ = false := Blk.frozen h0 2
  have hsm := h.sm
  have H := Lib.hid h
  have hnew : New 5 w w none 0 [] := ⟨(fun x h => by cases h), rfl, .inl rfl⟩
  have HW : Hid (∀ w', New 5 w w' none 0 []) := fun w' => ⟨(fun x h => by cases h), rfl, .inl rfl⟩
  clear h h0 h1 h2 e1 e2 hnew
  by_cases he : err = 0
  · subst he
    by_cases hneg : k < 0
    · have e3 : stepErr l at_ 0 k = 2 := by unfold stepErr; rw [if_pos rfl, if_pos hneg]
      rw [e3]
      clear e3 hk
      go_enter Tryd.func72, Tryd.ntmps72
      go_wp2
      go_ret
      exact ⟨none, 0, rfl, HW.out _, H.out.set2, only_setCell (only_refl w _) (.inl rfl) _⟩
    · have hl : (l.length : Int) - at_ < k := by omega
      have e3 : stepErr l at_ 0 k = 3 := by unfold stepErr; rw [if_pos rfl, if_neg hneg, if_pos hl]
      rw [e3]
      clear e3 hk
      go_enter Tryd.func72, Tryd.ntmps72
      go_wp2_with fail
      refine (rleft_is w g l at_ 0 H.out).mono ?_
      rintro e w1 ⟨rfl, k1, rfl⟩
      go_wp2
      go_ret
      exact ⟨none, 0, rfl, HW.out _, (H.out.drewN k1).set2, only_setCell (only_drewN (only_refl w _) k1) (.inl rfl) _⟩
  · have e3 : stepErr l at_ err k = err := by unfold stepErr; rw [if_neg he]
    have he' : (err != 0) = true := by simpa using he
    rw [e3]
    clear e3 hk he
    go_enter Tryd.func72, Tryd.ntmps72
    go_wp2
    go_ret
    exact ⟨none, 0, rfl, HW.out _, H.out, only_refl w _⟩

theorem rtake_is (w : World) (g : Nat) (l : List Int) (at_ : Nat) (err k : Int) (h : IsRef w g l at_ err) :
    Calls Tryd.prog 72 #[.pointer (some ⟨g, 0, none⟩), .int .i64 k] w (RTook w g l at_ err k) := by
  by_cases hk : err = 0 ∧ 0 ≤ k ∧ at_ + k ≤ l.length
  · obtain ⟨rfl, h0, h1⟩ := hk
    obtain ⟨m, rfl⟩ := Int.eq_ofNat_of_zero_le h0
    exact rtake_ok w g l at_ m h (by omega)
  · exact rtake_no w g l at_ err k h hk

def RNumd (w : World) (g : Nat) (l : List Int) (at_ : Nat) (err k : Int) (e : Ending) (w' : World) : Prop :=
  e = .returned (.int .u64 (numVal l at_ err k)) ∧ IsRef w' g l (numAt l at_ err k) (numErr l at_ err k) ∧ w.grownBy w' (some g)

theorem numOf_mul (xs : List Int) (m : Nat) (hm : m < xs.length) (h8 : xs.length ≤ 8) (ho : Oct xs) :
    IntKind.u64.wrap (IntKind.u64.wrap (numOf (xs.take m) * 256) + IntKind.u64.wrap xs[m]) = numOf (xs.take (m + 1)) := by
  have hb := numOf_bd_take xs ho m (by omega)
  have hx := ho xs[m] (List.getElem_mem hm)
  have hp := pow256_7 m (by omega)
  rw [List.take_succ_eq_append_getElem hm, numOf_snoc, IntKind.wrap_u64, IntKind.wrap_u64, IntKind.wrap_u64]
  omega

set_option maxHeartbeats 1000000 in
theorem rnum_is (w : World) (g : Nat) (l : List Int) (at_ : Nat) (err k : Int) (h : IsRef w g l at_ err) :
    Calls Tryd.prog 51 #[.pointer (some ⟨g, 0, none⟩), .int .i64 k] w (RNumd w g l at_ err k) := by
  obtain ⟨A, c, h0, h1, h2⟩ := h.ex
  have c2 : w.cell? ⟨g, 2, none⟩ = some (.int .i64 err) := Blk.cell h0 2
  have f2 : w.frozen? ⟨g, 2, none⟩ = false := Blk.frozen h0 2
  have H := Lib.hid h
  clear h h0 h1 h2
  by_cases he : err = 0
  · subst he
    by_cases hk : numOk k
    · obtain ⟨hk1, hk8⟩ := hk
      have e1 : numVal l at_ 0 k = numOf (stepTook l at_ 0 k) := by unfold numVal; rw [if_pos ⟨hk1, hk8⟩]
      have e2 : numAt l at_ 0 k = stepAt l at_ 0 k := by unfold numAt; rw [if_pos ⟨hk1, hk8⟩]
      have e3 : numErr l at_ 0 k = stepErr l at_ 0 k := by unfold numErr; rw [if_pos ⟨hk1, hk8⟩]
      unfold RNumd
      rw [e1, e2, e3]
      have hlen : (stepTook l at_ 0 k).length ≤ 8 := by
        unfold stepTook
        split
        · simp; omega
        · simp
      have H0 := Lib.hid (rtake_is w g l at_ 0 k H.out)
      unfold RTook at H0
      generalize stepTook l at_ 0 k = xs at *
      generalize stepAt l at_ 0 k = at1 at *
      generalize stepErr l at_ 0 k = err1 at *
      clear e1 e2 e3
      go_enter Tryd.func51, Tryd.ntmps51
      go_wp2_with fail
      refine H0.out.mono ?_
      rintro e w1 ⟨A1, c1, rfl, hn1, hc1, ho1⟩
      have HO := Lib.hid hn1.1
      have H1 := Lib.hid hn1.rd
      have H2 := Lib.hid hc1
      have H3 := Lib.hid ho1
      clear hn1 hc1 ho1 H0
      go_wp2
      go_loop [5, 7, 26] (fun s _ i => ∃ m : Nat, m ≤ xs.length ∧ i = .int .i64 m ∧ s = .int .u64 (numOf (xs.take m))) (fun _ _ i => xs.length - (intOf i).toNat)
      case atStart => exact ⟨0, Nat.zero_le _, rfl, rfl⟩
      case round =>
        obtain ⟨m, hm, rfl, rfl⟩ := hrel
        by_cases hlt : m < xs.length
        · obtain ⟨b, off, rfl, hb, hcell⟩ := H1.out.at_ (by omega)
          have hcm := hcell m hlt
          have HS := Lib.hid (numOf_mul xs m hlt hlen HO.out)
          clear hcell
          go_wp2
          refine ⟨⟨m + 1, by omega, by go_num, by rw [HS.out]⟩, by simp [intOf]; omega⟩
        · obtain rfl : m = xs.length := by omega
          rw [List.take_length]
          go_wp2
          go_ret
          exact ⟨rfl, H2.out, H3.out⟩
    · have e1 : numVal l at_ 0 k = 0 := by unfold numVal; rw [if_neg hk]
      have e2 : numAt l at_ 0 k = at_ := by unfold numAt; rw [if_neg hk]
      have e3 : numErr l at_ 0 k = 2 := by unfold numErr; rw [if_neg hk, if_pos rfl]
      unfold RNumd
      rw [e1, e2, e3]
      have hk' : k < 1 ∨ 8 < k := by omega
      clear e1 e2 e3 hk
      rcases hk' with hk | hk
      · go_enter Tryd.func51, Tryd.ntmps51
        go_wp2
        go_ret
        exact ⟨rfl, H.out.set2, only_setCell (only_refl w _) (.inl rfl) _⟩
      · have hk1 : ¬ k < 1 := by omega
        go_enter Tryd.func51, Tryd.ntmps51
        go_wp2
        go_ret
        exact ⟨rfl, H.out.set2, only_setCell (only_refl w _) (.inl rfl) _⟩
  · have e1 := late_num l at_ err k he
    have e2 := late_numAt l at_ err k he
    have e3 := late_numErr l at_ err k he
    have he' : (err != 0) = true := by simpa using he
    unfold RNumd
    rw [e1, e2, e3]
    clear e1 e2 e3 he
    go_enter Tryd.func51, Tryd.ntmps51
    go_wp2
    go_ret
    exact ⟨rfl, H.out, only_refl w _⟩
end Go.Proofs.YtgfjjkckamppoaaDoor
