/-
  Layer 3 (frame): contracts of the small functions: Least, isKind, isLength, isBody, kindOf, lengthOf, isMarked, copied.
-/
import Derived.Test.YtoiigalaijnoeaaDocA
import Derived.Test.YtoiigalaijnoeaaFrM
namespace Go.Proofs.Ytoiigalaijnoeaa
open Go.RowKit

/-- New bytes: a slice (empty, or a block of its own, known whole) in blocks from lo on. -/
def Fresh (lo : Nat) (w : World) (A : Option Addr) (n : Nat) (l : List Int) : Prop :=
  Oct l ∧ l.length = n ∧ (n = 0 ∨ ∃ g, A = some ⟨g, 0, none⟩ ∧ lo ≤ g ∧ Byt w g 5 l)
section
variable {lo lo' : Nat} {w w' : World} {A : Option Addr} {n : Nat} {l : List Int}
theorem Fresh.keep (h : Fresh lo w A n l) (hk : ∀ i, lo ≤ i → i < w.heap.size → w'.heap[i]? = w.heap[i]?) : Fresh lo w' A n l :=
  ⟨h.1, h.2.1, h.2.2.imp id fun ⟨g, a, b, c⟩ => ⟨g, a, b, (hk g b c.lt).trans c⟩⟩
theorem Fresh.rd (h : Fresh lo w A n l) : Rd w w.heap.size A n l := by
  obtain ⟨ho, hl, rfl | ⟨g, rfl, hg, hb⟩⟩ := h
  · obtain rfl : l = [] := List.eq_nil_of_length_eq_zero hl
    exact Rd.nil_ A
  · subst hl
    exact hb.rd_all ho hb.lt
theorem Fresh.more (h : Fresh lo w A n l) (hl : lo' ≤ lo) : Fresh lo' w A n l :=
  ⟨h.1, h.2.1, h.2.2.imp id fun ⟨g, a, b, c⟩ => ⟨g, a, by omega, c⟩⟩
theorem Fresh.none_ : Fresh lo w A 0 [] := ⟨oct_nil, rfl, .inl rfl⟩
end

theorem least_is (w : World) (k : Int) :
    Calls Try.prog 12 #[.int .i64 k] w fun e w' => e = .returned (.tuple #[.int .i64 (leastI k), .int .i64 (mostI k)]) ∧ w = w' := by
  by_cases h1 : k = 1
  · subst h1
    go_enter Try.func12, Try.ntmps12
    go_wp2
    go_ret2
    exact ⟨rfl, rfl⟩
  by_cases h2 : k = 2
  · subst h2
    go_enter Try.func12, Try.ntmps12
    go_wp2
    go_ret2
    exact ⟨rfl, rfl⟩
  by_cases h3 : k = 3
  · subst h3
    go_enter Try.func12, Try.ntmps12
    go_wp2
    go_ret2
    exact ⟨rfl, rfl⟩
  by_cases h5 : k = 5
  · subst h5
    go_enter Try.func12, Try.ntmps12
    go_wp2
    go_ret2
    exact ⟨rfl, rfl⟩
  have e1 : leastI k = 0 := by unfold leastI; rw [if_neg h1, if_neg h2, if_neg h3, if_neg h5]
  have e2 : mostI k = 0 := by unfold mostI; rw [if_neg h1, if_neg h2, if_neg h3, if_neg h5]
  rw [e1, e2]
  have b1 : (k == 1) = false := by simpa using h1
  have b2 : (k == 2) = false := by simpa using h2
  have b3 : (k == 3) = false := by simpa using h3
  have b5 : (k == 5) = false := by simpa using h5
  clear e1 e2 h1 h2 h3 h5
  go_enter Try.func12, Try.ntmps12
  go_wp2
  go_ret2
  exact ⟨rfl, rfl⟩

theorem isKind_is (w : World) (k : Int) (r : Bool) (h : isKindB k = r) :
    Calls Try.prog 29 #[.int .i64 k] w fun e w' => e = .returned (.bool r) ∧ w = w' := by
  unfold isKindB at h
  by_cases h1 : 1 ≤ k
  · by_cases h2 : k ≤ 5
    · obtain rfl : r = true := by rw [← h]; simp [h1, h2]
      clear h
      go_enter Try.func29, Try.ntmps29
      go_wp2
      go_ret
      exact ⟨rfl, rfl⟩
    · obtain rfl : r = false := by rw [← h]; simp [h2]
      clear h
      go_enter Try.func29, Try.ntmps29
      go_wp2
      go_ret
      exact ⟨rfl, rfl⟩
  · obtain rfl : r = false := by rw [← h]; simp [h1]
    clear h
    go_enter Try.func29, Try.ntmps29
    go_wp2
    go_ret
    exact ⟨rfl, rfl⟩

theorem isLength_is (w : World) (k : Int) (r : Bool) (h : isLenB k = r) :
    Calls Try.prog 41 #[.int .i64 k] w fun e w' => e = .returned (.bool r) ∧ w = w' := by
  unfold isLenB at h
  by_cases h1 : 19 ≤ k
  · by_cases h2 : k ≤ 4096
    · obtain rfl : r = true := by rw [← h]; simp [h1, h2]
      clear h
      go_enter Try.func41, Try.ntmps41
      go_wp2
      go_ret
      exact ⟨rfl, rfl⟩
    · obtain rfl : r = false := by rw [← h]; simp [h2]
      clear h
      go_enter Try.func41, Try.ntmps41
      go_wp2
      go_ret
      exact ⟨rfl, rfl⟩
  · obtain rfl : r = false := by rw [← h]; simp [h1]
    clear h
    go_enter Try.func41, Try.ntmps41
    go_wp2
    go_ret
    exact ⟨rfl, rfl⟩

theorem isBody_is (w : World) (n k : Int) (r : Bool) (h : isBodyB n k = r) :
    Calls Try.prog 43 #[.int .i64 n, .int .i64 k] w fun e w' => e = .returned (.bool r) ∧ w = w' := by
  unfold isBodyB at h
  have H := Lib.hid (least_is w k)
  generalize leastI k = a at *
  generalize mostI k = b at *
  by_cases h1 : a ≤ n
  · by_cases h2 : n ≤ b
    · obtain rfl : r = true := by rw [← h]; simp [h1, h2]
      have d2 : decide (n ≤ b) = true := by simpa using h2
      clear h
      go_enter Try.func43, Try.ntmps43
      go_wp2_with fail
      refine H.out.mono ?_
      rintro e w' ⟨rfl, rfl⟩
      go_wp2
      go_ret
      exact ⟨rfl, rfl⟩
    · obtain rfl : r = false := by rw [← h]; simp [h2]
      have d2 : decide (n ≤ b) = false := by simpa using h2
      clear h
      go_enter Try.func43, Try.ntmps43
      go_wp2_with fail
      refine H.out.mono ?_
      rintro e w' ⟨rfl, rfl⟩
      go_wp2
      go_ret
      exact ⟨rfl, rfl⟩
  · obtain rfl : r = false := by rw [← h]; simp [h1]
    clear h
    go_enter Try.func43, Try.ntmps43
    go_wp2_with fail
    refine H.out.mono ?_
    rintro e w' ⟨rfl, rfl⟩
    go_wp2
    go_ret
    exact ⟨rfl, rfl⟩

theorem kindOf_is (w : World) (B : Nat) (A : Option Addr) (n c : Nat) (l : List Int) (h : Rd w B A n l) (hn : 19 ≤ n) (hm : n ≤ 140737488355328) :
    Calls Try.prog 39 #[.slice A n c] w fun e w' => e = .returned (.int .i64 (kindI l)) ∧ w = w' := by
  obtain ⟨b, off, rfl, hb, hc⟩ := h.at_ (by omega)
  have h18 := hc 18 (by omega)
  have hx := h.oct.getD 18
  unfold kindI
  generalize l.getD 18 0 = x at *
  clear hc h
  go_enter Try.func39, Try.ntmps39
  go_wp2
  go_ret
  exact ⟨rfl, rfl⟩

theorem i64_or_small (a b : Nat) (ha : a < 65536) (hb : b < 65536) : bits .or .i64 (a : Int) (b : Int) = ((a ||| b : Nat) : Int) := by
  have hx : a ||| b < 2 ^ 16 := Nat.or_lt_two_pow (by omega) (by omega)
  show IntKind.i64.wrap ((BitVec.ofInt 64 (a : Int) ||| BitVec.ofInt 64 (b : Int)).toNat : Int) = _
  rw [BitVec.toNat_or, ofInt_u64 a (by omega), ofInt_u64 b (by omega), IntKind.wrap_i64]
  omega
theorem or8i (x y : Int) (h0 : 0 ≤ x) (h1 : x < 256) (hy0 : 0 ≤ y) (hy1 : y < 256) : bits .or .i64 (x * 256) y = 256 * x + y := by
  obtain ⟨m, rfl⟩ := Int.eq_ofNat_of_zero_le h0
  obtain ⟨z, rfl⟩ := Int.eq_ofNat_of_zero_le hy0
  have hy : z < 2 ^ 8 := by omega
  have e : (m : Int) * 256 = ((2 ^ 8 * m : Nat) : Int) := by omega
  rw [e, i64_or_small _ _ (by omega) (by omega), ← Nat.two_pow_add_eq_or_of_lt hy]
  omega

set_option maxHeartbeats 400000 in
theorem lengthOf_is (w : World) (B : Nat) (A : Option Addr) (n c : Nat) (l : List Int) (h : Rd w B A n l) (hn : 19 ≤ n) (hm : n ≤ 140737488355328) :
    Calls Try.prog 38 #[.slice A n c] w fun e w' => e = .returned (.int .i64 (lenI l)) ∧ ∃ k, w' = w.drewN k := by
  obtain ⟨b, off, rfl, hb, hc⟩ := h.at_ (by omega)
  have h16 := hc 16 (by omega)
  have h17 := hc 17 (by omega)
  have hx := h.oct.getD 16
  have hy := h.oct.getD 17
  unfold lenI
  generalize l.getD 16 0 = x at *
  generalize l.getD 17 0 = y at *
  have HO := Lib.hid (or8i x y hx.1 hx.2 hy.1 hy.2)
  have w1 : IntKind.i64.wrap x = x := IntWalk.i64_in _ (by omega)
  have w2 : IntKind.i64.wrap y = y := IntWalk.i64_in _ (by omega)
  have w3 : IntKind.i64.wrap (x * 256) = x * 256 := IntWalk.i64_in _ (by omega)
  clear hc h
  go_enter Try.func38, Try.ntmps38
  go_wp2
  go_quiet (fail)
  go_wp2
  go_ret
  exact ⟨by rw [← HO.out]; rfl, nq, rfl⟩

theorem mk16_snoc (l : List Int) (k : Nat) (h : k < l.length) : (l.take (k + 1)).all (fun x => x == 255) = ((l.take k).all (fun x => x == 255) && (l[k] == 255)) := by
  rw [List.take_succ_eq_append_getElem h, List.all_append]
  simp
theorem mk16_no (l : List Int) (k : Nat) (h : k < l.length) (hk : k < 16) (hne : (l[k] == 255) = false) : mk16 l = false := by
  unfold mk16
  rw [Bool.eq_false_iff]
  intro ha
  have := List.all_eq_true.1 ha l[k] (by
    rw [List.mem_iff_getElem?]
    exact ⟨k, by rw [List.getElem?_take, if_pos hk, List.getElem?_eq_getElem h]⟩)
  rw [hne] at this
  cases this

set_option maxHeartbeats 1000000 in
theorem isMarked_is (w : World) (B : Nat) (A : Option Addr) (n c : Nat) (l : List Int) (h : Rd w B A n l) (hn : 19 ≤ n) (hnc : n ≤ c) (hm : n ≤ 140737488355328) (r : Bool) (hr : mk16 l = r) :
    Calls Try.prog 40 #[.slice A n c] w fun e w' => e = .returned (.bool r) ∧ w = w' := by
  have HR := Lib.hid hr
  clear hr
  obtain ⟨b, off, rfl, hb, hc⟩ := h.at_ (by omega)
  have hlen := Lib.hid h.len
  have HC := Lib.hid hc
  clear hc
  go_enter Try.func40, Try.ntmps40
  go_wp2
  go_loop [4, 8] (fun _ i => ∃ k : Nat, k ≤ 16 ∧ i = .int .i64 k ∧ (l.take k).all (fun x => x == 255) = true) (fun _ i => 16 - (intOf i).toNat)
  case atStart => exact ⟨0, by omega, rfl, by simp⟩
  case round =>
    obtain ⟨k, hk, rfl, hall⟩ := hrel
    have HA := Lib.hid hall
    clear hall
    by_cases hlt : k < 16
    · have hkl : k < l.length := by have := hlen.out; omega
      have hcell := HC.out k (by omega)
      have hx : l.getD k 0 = l[k] := by simp [List.getD, List.getElem?_eq_getElem hkl]
      rw [hx] at hcell
      clear hx
      cases he : (l[k] == 255)
      · have HM := Lib.hid (mk16_no l k hkl hlt he)
        have hne : (l[k] != 255) = true := by simp [bne, he]
        obtain rfl : r = false := by rw [← HR.out, HM.out]
        clear he
        generalize l[k] = x at *
        go_wp2
        go_ret
        exact ⟨rfl, rfl⟩
      · have hall' : Hid ((l.take (k + 1)).all (fun x => x == 255) = true) := Lib.hid (by rw [mk16_snoc l k hkl, HA.out, he]; rfl)
        have hne : (l[k] != 255) = false := by simp [bne, he]
        clear he
        generalize l[k] = x at *
        go_wp2
        exact ⟨⟨k + 1, by omega, by go_num, hall'.out⟩, by simp [intOf]; omega⟩
    · obtain rfl : k = 16 := by omega
      have HM : Hid (mk16 l = true) := Lib.hid HA.out
      obtain rfl : r = true := by rw [← HR.out, HM.out]
      go_wp2
      go_ret
      exact ⟨rfl, rfl⟩

/-- A copy in new memory; nothing, of no bytes. -/
def FCop (w : World) (n : Nat) (l : List Int) (e : Ending) (w' : World) : Prop :=
  ∃ A, e = .returned (.slice A n n) ∧ Fresh w.heap.size w' A n l ∧ Below w.heap.size w w'

set_option maxHeartbeats 400000 in
theorem fcopied_is (w : World) (A : Option Addr) (n c : Nat) (l : List Int) (hr : Rd w w.heap.size A n l) (hm : n ≤ 140737488355328) :
    Calls Try.prog 36 #[.slice A n c] w (FCop w n l) := by
  by_cases h0 : n = 0
  · subst h0
    have H := Lib.hid hr
    clear hr
    go_enter Try.func36, Try.ntmps36
    go_wp2
    go_ret
    exact ⟨none, rfl, ⟨H.out.oct, H.out.len, .inl rfl⟩, Below.refl _ _⟩
  · have hne : ((n : Int) == 0) = false := by simp; omega
    have hmk := run_make_row' (P := Try.prog) 22 5 (.int .u8 0) 1 Try.underlying22 info_byte rfl .i64 .i64 n (by omega) (by omega) w
    have H := Lib.hid hr
    obtain ⟨w', hcp, hby, hbl, hsz⟩ := copy_into w n n A c l hr (Nat.le_refl _) 3
    rw [Nat.sub_self, List.replicate_zero, List.append_nil] at hby
    have H1 := Lib.hid hby
    have H2 := Lib.hid hbl
    clear hr hby hbl hsz
    go_enter Try.func36, Try.ntmps36
    go_wp2
    go_ret
    exact ⟨some ⟨w.heap.size, 0, none⟩, rfl, ⟨H.out.oct, H.out.len, .inr ⟨_, rfl, Nat.le_refl _, H1.out⟩⟩, H2.out⟩
end Go.Proofs.Ytoiigalaijnoeaa
