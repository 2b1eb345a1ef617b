/-
  Put together: OctG OctH NlX NlKA NlKB NlKC.
-/
import Derived.Test.YtickcfcncpnaiaaMO
import Derived.Test.YtickcfcncpnaiaaMV
import Derived.Test.YtickcfcncpnaiaaMK
import Derived.Laws.MakeOwn
import Derived.Deep.DeepCutAuto
import Derived.Deep.CutBlock
import Derived.Deep.RegionHeld3
import Derived.Test.YtickcfcncpnaiaaMN
import Derived.WalkLawsBesides
namespace Go.Proofs.Ytickcfcncpnaiaa
open Go.RowKit
set_option maxRecDepth 100000

theorem same_is (w : World) (B : Nat) (A A2 : Option Addr) (n n2 c c2 : Nat) (l l2 : List Int) (h : Rd w B A n l) (h2 : Rd w B A2 n2 l2) (r : Bool) (hr : decide (l = l2) = r) :
    Calls Try.prog 9 #[.slice A n c, .slice A2 n2 c2] w fun e w' => e = .returned (.bool r) ∧ w = w' := by
  have k1 := run_conv_rd (P := Try.prog) w 22 9 5 Try.underlying22 Try.underlying5 Try.underlying9 c h
  have k2 := run_conv_rd (P := Try.prog) w 22 9 5 Try.underlying22 Try.underlying5 Try.underlying9 c2 h2
  have H := Lib.hid (beq_str l l2 h.oct h2.oct r hr)
  clear h h2 hr
  go_enter Try.func9, Try.ntmps9
  go_wp2
  go_ret
  rw [H.out]
  exact ⟨rfl, rfl⟩

/-- A row of bytes, whatever they are. -/
def Row (w : World) (g : Nat) (m : Nat) : Prop := ∃ l, Byt w g 5 l ∧ Oct l ∧ l.length = m

theorem Row.set_ {w : World} {g m : Nat} (h : Row w g m) (i : Nat) {x : Int} (h0 : 0 ≤ x) (h1 : x < 256) : Row (w.setCell ⟨g, i, none⟩ (.int .u8 x)) g m := by
  obtain ⟨l, hb, ho, hl⟩ := h
  refine ⟨l.set i x, hb.set_ i x, fun y hy => ?_, by simpa using hl⟩
  rcases List.mem_or_eq_of_mem_set hy with hy | rfl
  · exact ho y hy
  · exact ⟨h0, h1⟩

theorem xor_u8_bd (a b : Int) : 0 ≤ bits .xor .u8 a b ∧ bits .xor .u8 a b < 256 := by
  show 0 ≤ IntKind.u8.wrap _ ∧ IntKind.u8.wrap _ < 256
  rw [wrap_u8_mod]
  omega

set_option maxHeartbeats 1000000 in
theorem spoil_row (w : World) (g n c m : Nat) (h : Row w g m) (hn : n ≤ m) (hm : m ≤ 281474976710656) :
    Calls Try.prog 12 #[.slice (some ⟨g, 0, none⟩) n c] w fun e w' => e = .returned (.tuple #[]) ∧ Row w' g m ∧ w.grownBy w' (some g) := by
  have H := Lib.hid h
  clear h
  go_enter Try.func12, Try.ntmps12
  go_wp2
  go_loopw [2, 5] (fun _ i wr => ∃ k : Nat, k ≤ n ∧ i = .int .i64 k ∧ Row wr g m ∧ w.grownBy wr (some g)) (fun _ i _ => n - (intOf i).toNat)
  case atStart => exact ⟨0, Nat.zero_le _, rfl, H.out, only_refl w _⟩
  case round =>
    obtain ⟨k, hk, rfl, hr, hg⟩ := hrel
    by_cases hlt : k < n
    · have H1 := Lib.hid hr
      have H2 := Lib.hid hg
      obtain ⟨l, hb, ho, hl⟩ := hr
      have hc := hb.cell (i := k) (by omega)
      have hf := hb.frozen k
      have hx := ho.getD k
      generalize l.getD k 0 = x at *
      clear hb ho hl hg
      go_wp2
      exact ⟨⟨k + 1, by omega, by go_num, H1.out.set_ k (xor_u8_bd _ _).1 (xor_u8_bd _ _).2, only_setCell H2.out (.inl rfl) _⟩, by simp [intOf]; omega⟩
    · have H1 := Lib.hid hr
      have H2 := Lib.hid hg
      clear hr hg
      go_wp2
      go_end0
      exact ⟨rfl, H1.out, H2.out⟩

set_option maxHeartbeats 400000 in
theorem spoil_none (w : World) (A : Option Addr) (c : Nat) : Calls Try.prog 12 #[.slice A 0 c] w fun e w' => e = .returned (.tuple #[]) ∧ w = w' := by
  go_enter Try.func12, Try.ntmps12
  go_wp2
  refine wp_loop_rounds 1 ?_
  rw [rounds_succ]
  go_wp2
  go_end0
  exact ⟨rfl, rfl⟩

theorem set_next (l : List Int) (k m : Nat) (hk : k < l.length) : (l.take k ++ List.replicate (m + 1) 0).set k l[k] = l.take (k + 1) ++ List.replicate m 0 := by
  rw [List.set_append_right _ _ (by simp; omega), List.take_succ_eq_append_getElem hk, List.length_take, Nat.min_eq_left (by omega), Nat.sub_self, List.replicate_succ, List.set_cons_zero, List.append_assoc]
  rfl

def Lent (w : World) (n : Nat) (l : List Int) (e : Ending) (w' : World) : Prop :=
  e = .returned (.slice (some ⟨w.heap.size, 0, none⟩) n (n + 2)) ∧ Byt w' w.heap.size 5 (l ++ [165, 90]) ∧ Below w.heap.size w w'

set_option maxHeartbeats 1000000 in
theorem lent_is (w : World) (A : Option Addr) (n c : Nat) (l : List Int) (hr : Rd w w.heap.size A n l) (hm : n ≤ 140737488355328) :
    Calls Try.prog 6 #[.slice A n c] w (Lent w n l) := by
  have hmk := run_make_row' (P := Try.prog) 22 5 (.int .u8 0) 1 Try.underlying22 info_byte rfl .i64 .i64 (n + 2) (by omega) (by omega) w
  rw [show ((n + 2 : Nat) : Int) = (n : Int) + 2 from by omega] at hmk
  have H := Lib.hid hr
  have H0 := Lib.hid (byt_made w (n + 2) 5)
  have hlen := hr.len
  have HL := Lib.hid hlen
  clear hr hlen
  go_enter Try.func6, Try.ntmps6
  go_wp2
  go_loopw [4, 11] (fun _ i wr => ∃ k : Nat, k ≤ n ∧ i = .int .i64 k ∧ Byt wr w.heap.size 5 (l.take k ++ List.replicate (n + 2 - k) 0) ∧ Below w.heap.size w wr) (fun _ i _ => n - (intOf i).toNat)
  case atStart => exact ⟨0, Nat.zero_le _, rfl, by simpa using H0.out, (Below.refl _ _).alloc (Nat.le_refl _) _⟩
  case round =>
    obtain ⟨k, hk, rfl, hb, hB⟩ := hrel
    by_cases hlt : k < n
    · obtain ⟨b, off, rfl, hbb, hcell⟩ := H.out.at_ (by omega)
      have hkl : k < l.length := by have := HL.out; omega
      have hc : wr.cell? ⟨b, off + k, none⟩ = some (.int .u8 l[k]) := by
        rw [hB.cell (p := ⟨b, off + k, none⟩) hbb, hcell k hlt]
        simp [List.getD, List.getElem?_eq_getElem hkl]
      have hco := hb.cell (i := k) (by simp; omega)
      have hfo := hb.frozen k
      have hs := hb.set_ k l[k]
      rw [show n + 2 - k = n + 2 - (k + 1) + 1 from by omega, set_next l k _ hkl] at hs
      have H1 := Lib.hid hs
      have H2 := Lib.hid hB
      clear hs hb hB hcell
      generalize l[k] = x at *
      go_wp2
      exact ⟨⟨k + 1, by omega, by go_num, H1.out, H2.out.setCell (Nat.le_refl _) _⟩, by simp [intOf]; omega⟩
    · obtain rfl : k = n := by omega
      have hlen := HL.out
      rw [List.take_of_length_le (by omega), show k + 2 - k = 2 from by omega] at hb
      have hc1 := hb.cell (i := k) (by simp; omega)
      have hf1 := hb.frozen k
      have hs := hb.set_ k 165
      have hc2 := hs.cell (i := k + 1) (by simp; omega)
      have hf2 := hs.frozen (k + 1)
      have hs2 := hs.set_ (k + 1) 90
      have e2 : ((l ++ List.replicate 2 0).set k 165).set (k + 1) 90 = l ++ [165, 90] := by
        subst hlen
        rw [List.set_append_right _ _ (by omega), List.set_append_right _ _ (by omega), Nat.sub_self, Nat.add_sub_cancel_left]
        rfl
      rw [e2] at hs2
      have H1 := Lib.hid hs2
      have H2 := Lib.hid hB
      clear hs hs2 hb hB e2 hlen
      generalize (((l ++ List.replicate 2 0).set k 165).getD (k + 1) 0) = y at *
      generalize ((l ++ List.replicate 2 0).getD k 0) = z at *
      go_wp2
      go_ret
      exact ⟨rfl, H1.out, (H2.out.setCell (Nat.le_refl _) _).setCell (Nat.le_refl _) _⟩
end Go.Proofs.Ytickcfcncpnaiaa
namespace Go.Proofs.Ytickcfcncpnaiaa
open Go.RowKit
set_option maxRecDepth 100000

set_option maxHeartbeats 400000 in
theorem kept_is (w : World) (g B : Nat) (A : Option Addr) (n c : Nat) (l : List Int) (hb : Byt w g 5 (l ++ [165, 90])) (hr : Rd w B A n l) (hm : n ≤ 140737488355328) :
    Calls Try.prog 13 #[.slice (some ⟨g, 0, none⟩) n (n + 2), .slice A n c] w fun e w' => e = .returned (.bool true) ∧ w = w' := by
  have hl := hr.len
  have c1 : w.cell? ⟨g, n, none⟩ = some (.int .u8 165) := by
    rw [hb.cell (i := n) (by simp; omega), ← hl]; simp [List.getD]
  have c2 : w.cell? ⟨g, n + 1, none⟩ = some (.int .u8 90) := by
    rw [hb.cell (i := n + 1) (by simp; omega), ← hl]; simp [List.getD]
  have hro : Rd w (max B (g + 1)) (some ⟨g, 0, none⟩) n l := by
    refine ⟨hl, hr.oct, fun hn => ⟨g, 0, rfl, by omega, fun i hi => ?_⟩⟩
    rw [Nat.zero_add, hb.cell (i := i) (by simp; omega)]
    simp [List.getD, List.getElem?_append_left (show i < l.length by omega)]
  have H := Lib.hid (same_is w (max B (g + 1)) (some ⟨g, 0, none⟩) A n n (n + 2) c l l hro (hr.more (by omega)) true (by simp))
  have e1 : ((n : Int) != (n : Int)) = false := by simp
  clear hb hr hl hro
  go_enter Try.func13, Try.ntmps13
  go_wp2_with fail
  refine H.out.mono ?_
  rintro e w' ⟨rfl, rfl⟩
  go_wp2
  go_ret
  exact ⟨rfl, rfl⟩

def RPut (w : World) (l : List Int) (n size : Int) (e : Ending) (w' : World) : Prop :=
  Below w.heap.size w w' ∧ if 1 ≤ size ∧ size ≤ 8 ∧ n < 256 ^ size.toNat then
    e = .returned (.tuple #[.slice (some ⟨w.heap.size, 0, none⟩) (l.length + size.toNat) (l.length + size.toNat), .int .i64 0]) ∧ Byt w' w.heap.size 5 (l ++ be size.toNat n)
  else e = .returned (.tuple #[.slice none 0 0, .int .i64 2])

set_option maxHeartbeats 400000 in
theorem rput_bad (w : World) (A : Option Addr) (m c : Nat) (l : List Int) (n size : Int) (h : size < 1 ∨ 8 < size) :
    Calls Try.prog 53 #[.slice A m c, .int .u64 n, .int .i64 size] w (RPut w l n size) := by
  have H := Lib.hid (show ¬ (1 ≤ size ∧ size ≤ 8 ∧ n < 256 ^ size.toNat) by omega)
  rcases h with h | h
  · go_enter Try.func53, Try.ntmps53
    go_wp2
    go_ret2
    exact ⟨Below.refl _ _, by rw [if_neg H.out]; rfl⟩
  · have h1 : ¬ size < 1 := by omega
    go_enter Try.func53, Try.ntmps53
    go_wp2
    go_ret2
    exact ⟨Below.refl _ _, by rw [if_neg H.out]; rfl⟩

theorem div_zero_iff (n : Int) (s : Nat) (hn : 0 ≤ n) : (n / 256 ^ s != 0) = !decide (n < 256 ^ s) := by
  have hp : (0 : Int) < 256 ^ s := Int.pow_pos (by decide)
  have h := shr_zero n s hn
  have h2 : (2 : Int) ^ (8 * s) = 256 ^ s := by rw [Int.pow_mul]; rfl
  rw [h2] at h
  rw [← h]
  rfl

theorem quo_step (n : Int) (k : Nat) (hn : 0 ≤ n) (hn2 : n < 18446744073709551616) : IntKind.u64.wrap ((n / 256 ^ k).tdiv 256) = n / 256 ^ (k + 1) := by
  have hp : (0 : Int) < 256 ^ k := Int.pow_pos (by decide)
  have hq : 0 ≤ n / 256 ^ k := Int.ediv_nonneg hn (Int.le_of_lt hp)
  have hle : n / 256 ^ k ≤ n := Int.ediv_le_self _ hn
  rw [Int.tdiv_eq_ediv_of_nonneg hq, IntKind.wrap_u64, Int.emod_eq_of_lt (by omega) (by omega), Int.pow_succ, Int.ediv_ediv_of_nonneg (Int.le_of_lt hp)]

set_option maxHeartbeats 2000000 in
theorem rput_ok (w : World) (A : Option Addr) (c : Nat) (l : List Int) (n : Int) (s : Nat) (hr : Rd w w.heap.size A l.length l) (hm : l.length ≤ 140737488355328) (hn : 0 ≤ n) (hn2 : n < 18446744073709551616)
    (h1 : 1 ≤ s) (h8 : s ≤ 8) :
    Calls Try.prog 53 #[.slice A l.length c, .int .u64 n, .int .i64 s] w (RPut w l n s) := by
  have hmk := run_make_row' (P := Try.prog) 22 5 (.int .u8 0) 1 Try.underlying22 info_byte rfl .i64 .i64 (l.length + s) (by omega) (by omega) w
  rw [show ((l.length + s : Nat) : Int) = (l.length : Int) + (s : Int) from by omega] at hmk
  have H := Lib.hid hr
  have H0 := Lib.hid (byt_made w (l.length + s) 5)
  have HZ := Lib.hid (div_zero_iff n s hn)
  clear hr
  go_enter Try.func53, Try.ntmps53
  go_wp2
  go_loopw [9, 24] (fun _ i wr => ∃ k : Nat, k ≤ l.length ∧ i = .int .i64 k ∧ Byt wr w.heap.size 5 (l.take k ++ List.replicate (l.length + s - k) 0) ∧ Below w.heap.size w wr) (fun _ i _ => l.length - (intOf i).toNat)
  case atStart => exact ⟨0, Nat.zero_le _, rfl, by simpa using H0.out, (Below.refl _ _).alloc (Nat.le_refl _) _⟩
  case round =>
    obtain ⟨k, hk, rfl, hb, hB⟩ := hrel
    by_cases hlt : k < l.length
    · obtain ⟨b, off, rfl, hbb, hcell⟩ := H.out.at_ (by omega)
      have hc : wr.cell? ⟨b, off + k, none⟩ = some (.int .u8 l[k]) := by
        rw [hB.cell (p := ⟨b, off + k, none⟩) hbb, hcell k hlt]
        simp [List.getD, List.getElem?_eq_getElem hlt]
      have hco := hb.cell (i := k) (by simp; omega)
      have hfo := hb.frozen k
      have hs := hb.set_ k l[k]
      rw [show l.length + s - k = l.length + s - (k + 1) + 1 from by omega, set_next l k _ hlt] at hs
      have H1 := Lib.hid hs
      have H2 := Lib.hid hB
      clear hs hb hB hcell
      generalize l[k] = x at *
      go_wp2
      exact ⟨⟨k + 1, by omega, by go_num, H1.out, H2.out.setCell (Nat.le_refl _) _⟩, by simp [intOf]; omega⟩
    · obtain rfl : k = l.length := by omega
      rw [List.take_length, Nat.add_sub_cancel_left] at hb
      have H1 := Lib.hid hb
      have H2 := Lib.hid hB
      clear hb hB
      go_wp2
      go_loopw [1, 10] (fun n' i wr => ∃ j : Nat, j ≤ s ∧ n' = .int .u64 (n / 256 ^ (s - j)) ∧ i = .int .i64 ((j : Int) - 1) ∧ Byt wr w.heap.size 5 (l ++ (List.replicate j 0 ++ be (s - j) n)) ∧ Below w.heap.size w wr)
        (fun _ i _ => (intOf i + 1).toNat)
      case atStart => exact ⟨s, Nat.le_refl _, by simp, rfl, by simpa [be] using H1.out, H2.out⟩
      case round =>
        obtain ⟨j, hj, rfl, rfl, hb, hB⟩ := hrel
        have hq : 0 ≤ n / 256 ^ (s - j) := Int.ediv_nonneg hn (Int.le_of_lt (Int.pow_pos (by decide)))
        by_cases h0 : j = 0
        · subst h0
          have HB := Lib.hid hb
          have HB2 := Lib.hid hB
          clear hb hB
          rw [Nat.sub_zero] at *
          cases hd : decide (n < 256 ^ s)
          · have hd' : ¬ n < 256 ^ s := of_decide_eq_false hd
            have hz : (n / 256 ^ s != 0) = true := by rw [HZ.out, hd]; rfl
            have HD := Lib.hid hd'
            clear hd hd'
            go_wp2
            go_ret2
            exact ⟨HB2.out, by rw [if_neg (fun h => Int.not_le.2 h.2.2 HD.out)]; rfl⟩
          · have hd' : n < 256 ^ s := of_decide_eq_true hd
            have hz : (n / 256 ^ s != 0) = false := by rw [HZ.out, hd]; rfl
            have HD := Lib.hid hd'
            clear hd hd'
            go_wp2
            go_ret2
            exact ⟨HB2.out, by rw [if_pos ⟨by omega, by omega, HD.out⟩]; exact ⟨rfl, by simpa using HB.out⟩⟩
        · obtain ⟨j, rfl⟩ : ∃ i, j = i + 1 := ⟨j - 1, by omega⟩
          have hcell := hb.cell (i := l.length + j) (by simp [be_len]; omega)
          have hfz := hb.frozen (l.length + j)
          have hset := hb.set_ (l.length + j) (n / 256 ^ (s - (j + 1)) % 256)
          rw [set_mid] at hset
          have HB := Lib.hid hset
          have HB2 := Lib.hid hB
          clear hb hB hset
          rw [show ((j + 1 : Nat) : Int) - 1 = (j : Int) from by omega]
          go_wp2
          have es : s - j = s - (j + 1) + 1 := by omega
          refine ⟨⟨j, by omega, ?_, rfl, ?_, HB2.out.setCell (Nat.le_refl _) _⟩, by simp [intOf] <;> omega⟩
          · rw [es, quo_step n _ hn hn2]
          · rw [es]
            exact HB.out

theorem rput_is (w : World) (A : Option Addr) (m c : Nat) (l : List Int) (n size : Int) (hr : Rd w w.heap.size A m l) (hm : m ≤ 140737488355328) (hn : 0 ≤ n) (hn2 : n < 18446744073709551616) :
    Calls Try.prog 53 #[.slice A m c, .int .u64 n, .int .i64 size] w (RPut w l n size) := by
  by_cases h : size < 1 ∨ 8 < size
  · exact rput_bad w A m c l n size h
  · obtain ⟨s, rfl⟩ := Int.eq_ofNat_of_zero_le (show 0 ≤ size by omega)
    obtain rfl := hr.len
    exact rput_ok w A c l n s hr hm hn hn2 (by omega) (by omega)

/-- Put, in one word. -/
def Put (w : World) (l : List Int) (n size : Int) (e : Ending) (w' : World) : Prop :=
  Below w.heap.size w w' ∧ if 1 ≤ size ∧ size ≤ 8 ∧ n < 256 ^ size.toNat then
    e = .returned (.tuple #[.slice (some ⟨w.heap.size, 0, none⟩) (l.length + size.toNat) (l.length + size.toNat), .int .i64 0]) ∧ Byt w' w.heap.size 5 (l ++ be size.toNat n)
  else e = .returned (.tuple #[.slice none 0 0, .int .i64 2])

theorem put_is (w : World) (A : Option Addr) (m c : Nat) (l : List Int) (n size : Int) (hr : Rd w w.heap.size A m l) (hm : m ≤ 140737488355328) (hn : 0 ≤ n) (hn2 : n < 18446744073709551616) :
    Calls Try.prog 69 #[.slice A m c, .int .u64 n, .int .i64 size] w (Put w l n size) := by
  by_cases h : 1 ≤ size ∧ size ≤ 8 ∧ n < 256 ^ size.toNat
  · refine (put_fits w A m c l n size hr hm hn hn2 h.1 h.2.1 h.2.2).mono ?_
    rintro e w' ⟨he, hb, hB⟩
    exact ⟨hB, by rw [if_pos h]; exact ⟨he, hb⟩⟩
  · refine (put_no w A m c n size hn hn2 h).mono ?_
    rintro e w' ⟨he, rfl⟩
    exact ⟨Below.refl _ _, by rw [if_neg h]; exact he⟩
end Go.Proofs.Ytickcfcncpnaiaa
namespace Go.Proofs.Ytickcfcncpnaiaa
open Go.RowKit
set_option maxRecDepth 100000
set_option linter.unusedSimpArgs false
set_option linter.unusedVariables false

/-- append of bytes that are read, onto bytes of the call's own. -/
theorem app_bs2 {ops : Array Oper} {rest : List Oper} {o : Oper} {a : Act} {Q : Exit → Act → World → Prop} (hgd : o.guard = none) (s x : Operand)
    (ho : o.op = .call { callee := .builtin .append, args := #[s, x], argTypes := #[22, 22] }) {lo : Nat} {w : World} {v : Value} {P : List Int} (h : OwnB lo w v P) (hlo : lo ≤ w.heap.size)
    {A : Option Addr} {m c : Nat} {news : List Int} (hr : Rd w w.heap.size A m news) (hlen : P.length + m ≤ 140737488355328) (hs : a.eval s = v) (hx : a.eval x = .slice A m c)
    (hk : ∀ v' w', OwnB lo w' v' (P ++ news) → Below lo w w' → w.grownBy w' v.ownBlock → (v'.ownBlock = v.ownBlock ∨ v'.ownBlock = some w.heap.size) → wpList Try.prog ops Q rest (a.put o.dst v') w') :
    wpList Try.prog ops Q (o :: rest) a w := by
  obtain ⟨i, hi, hz0, hz1, hz2⟩ := info_parts info_byte
  have hlm := hr.len
  cases A with
  | none =>
    have hm0 : m = 0 := by
      rcases Nat.eq_zero_or_pos m with h0 | h0
      · exact h0
      · obtain ⟨_, _, e, _⟩ := hr.at_ h0
        cases e
    subst hm0
    have hn : news = [] := List.eq_nil_of_length_eq_zero hlm
    subst hn
    have hrun : (Builtin.append_ #[22, 22] o.type #[v, .slice none 0 c]).run Try.prog w = .ok v w := by
      rcases h.own.2 with ⟨rfl, hn⟩ | ⟨g, cap, cur, rfl, _, _, hnc, _⟩
      · simp [Builtin.append_, run_underlying Try.underlying22, sizeOf, typeInfo, hi, Builtin.lenOf, Builtin.firstCells]
      · simp [Builtin.append_, run_underlying Try.underlying22, sizeOf, typeInfo, hi, Builtin.lenOf, Builtin.firstCells, hnc, storeCells]
    refine wpList_plain hgd fun _ hK => ?_
    unfold Oper.wp execOp
    simp only [ho, resolve, invoke, builtin, Sem.run_bind, Sem.run_pure, Result.andThen_ok, List.map_toArray, List.map_cons, List.map_nil, hs, hx, hrun]
    exact hK _ _ (hk v w (by rw [List.append_nil]; exact h) (Below.refl _ _) (only_refl _ _) (.inl rfl))
  | some ad =>
    have hsrc : ∀ j y, (u8s news)[j]? = some y → w.cell? (ad.add j) = some y := by
      rcases Nat.eq_zero_or_pos m with h0 | h0
      · intro j y hy
        have := (List.getElem?_eq_some_iff.1 hy).1
        simp at this
        omega
      · obtain ⟨b, off, e, _, hc⟩ := hr.at_ h0
        injection e with e
        subst e
        exact src_u8 hlm hc
    refine wpList_append_own_at _ hgd s x 22 ho lo 5 i _ 1 1 Try.underlying22 hi hz0 hz1 hz2 rfl (by decide) v P.length (u8s P) hs h.own ad m c (u8s news) hx (by simp [hlm]) hsrc (one_u8 news) (by unfold maxLen; omega) (by omega) hlo ?_
    intro v' w' hown hgr _ hloc
    refine hk v' w' ⟨?_, fun y hy => (List.mem_append.1 hy).elim (h.oct y) (hr.oct y)⟩ ((Below.refl lo w).grown hgr hlo (fun i e => (h.own.lt i e).1)) hgr hloc
    rw [List.length_append, hlm, show u8s (P ++ news) = u8s P ++ u8s news from List.map_append]
    exact hown


/-- The bytes l read as the routes rs, whatever stands behind. -/
def Sem (l : List Int) (rs : List Rt) : Prop := ∀ rest, readAll (l ++ rest) = pre2 rs 0 (readAll rest)
theorem Sem.nil_ : Sem [] [] := fun rest => by rw [pre2_nil]; rfl
theorem Sem.put {l : List Int} {rs : List Rt} (h : Sem l rs) {r : Rt} (hr : RtOk r) (hR : rightR r = true) : Sem (l ++ putR r) (rs ++ [r]) := fun rest => by rw [List.append_assoc, h, read_put hr hR, pre2_pre2]
theorem Sem.unk {l : List Int} {rs : List Rt} (h : Sem l rs) (k : Int) (body : List Int) (hk : ¬ (1 ≤ k ∧ k ≤ 5)) : Sem (l ++ [k, (body.length : Int)] ++ body) rs := fun rest => by
  rw [List.append_assoc, List.append_assoc, h]
  show pre2 rs 0 (readAll (k :: (body.length : Int) :: (body ++ rest))) = _
  rw [readAll_cons, if_neg (by simp; omega), Int.toNat_natCast, List.take_left, List.drop_left]
  cases readAll rest with
  | none => rfl
  | some x =>
    obtain ⟨a, b⟩ := x
    simp only [addR]
    rw [if_neg hk]
theorem Sem.all {l : List Int} {rs : List Rt} (h : Sem l rs) : readAll l = some (rs, 0) := by
  have := h []
  rw [List.append_nil, readAll_nil] at this
  rw [this]
  simp [pre2]
theorem own_lt {lo : Nat} {w : World} {v : Value} {l : List Int} (h : OwnB lo w v l) {i : Nat} (hi : v.ownBlock = some i) : lo ≤ i ∧ i < w.heap.size := by
  obtain ⟨c, hc⟩ := own_heap h.own hi
  exact ⟨(h.own.lt i hi).1, (Array.getElem?_eq_some_iff.1 hc).1⟩
/-- The memory of NlriSkips between two routes. -/
structure SkW (w W : World) (v9 v10 v11 : Value) (acc : List Rt) (pl mo : List Int) : Prop where
  plain : OwnB w.heap.size W v9 pl
  more : OwnB w.heap.size W v10 mo
  apart : ∀ i, v9.ownBlock = some i → v10.ownBlock ≠ some i
  want : OwnRt w.heap.size W v11 acc
  low : Below w.heap.size w W
section
variable {w W W' W2 W3 : World} {v9 v10 v11 v9' v10' v11' : Value} {acc : List Rt} {pl mo : List Int}
theorem SkW.below (h : SkW w W v9 v10 v11 acc pl mo) (hB : Below W.heap.size W W') : SkW w W' v9 v10 v11 acc pl mo :=
  ⟨⟨own_below h.plain.own hB, h.plain.oct⟩, ⟨own_below h.more.own hB, h.more.oct⟩, h.apart, ⟨own_below h.want.own hB, h.want.ok⟩, h.low.trans (hB.mono h.low.size)⟩
/-- Behind an append to the second bytes. -/
theorem SkW.grow (h : SkW w W v9 v10 v11 acc pl mo) {mo' : List Int} (ho : OwnB w.heap.size W' v10' mo') (hg : W.grownBy W' v10.ownBlock) (hB : Below w.heap.size W W') (hloc : v10'.ownBlock = v10.ownBlock ∨ v10'.ownBlock = some W.heap.size) :
    SkW w W' v9 v10' v11 acc pl mo' := by
  refine ⟨h.plain.keep fun i c hi _ hv => hg.block i (own_lt h.plain hv).2 (fun e => h.apart i hv e.symm), ho, fun i hi => ?_, ⟨own_other (by decide) h.want.own h.more.own hg, h.want.ok⟩, h.low.trans hB⟩
  rcases hloc with e | e
  · rw [e]; exact h.apart i hi
  · rw [e]
    intro e2
    injection e2 with e2
    have := (own_lt h.plain hi).2
    omega
/-- Behind both Puts and the append to the routes. -/
theorem SkW.step (h : SkW w W v9 v10 v11 acc pl mo) {r : Rt} (h9 : OwnB W.heap.size W2 v9' (pl ++ putR r)) (hB2 : Below W.heap.size W W2) (h10 : OwnB W2.heap.size W3 v10' (mo ++ putR r)) (hB3 : Below W2.heap.size W2 W3)
    (h11 : OwnRt w.heap.size W' v11' (acc ++ [r])) (hg : W3.grownBy W' v11.ownBlock) (hB : Below w.heap.size W3 W') : SkW w W' v9' v10' v11' (acc ++ [r]) (pl ++ putR r) (mo ++ putR r) := by
  have hw3 : OwnRt w.heap.size W3 v11 acc := ⟨own_below (own_below h.want.own hB2) hB3, h.want.ok⟩
  have hs : w.heap.size ≤ W.heap.size := h.low.size
  have h93 : OwnB W.heap.size W3 v9' (pl ++ putR r) := ⟨own_below h9.own hB3, h9.oct⟩
  refine ⟨⟨own_other (by decide) (h93.low hs).own hw3.own hg, h9.oct⟩, ⟨own_other (by decide) (h10.low (Nat.le_trans hs hB2.size)).own hw3.own hg, h10.oct⟩, fun i hi e => ?_, h11, (h.low.trans (hB2.mono hs)).trans ((hB3.mono (Nat.le_trans hs hB2.size)).trans hB)⟩
  have a1 := (own_lt h9 hi).2
  have a2 := (own_lt h10 e).1
  omega
end
theorem OwnB.rd_of {lo : Nat} {w : World} {A : Option Addr} {n c : Nat} {l : List Int} (h : OwnB lo w (.slice A n c) l) : l.length = n ∧ Rd w w.heap.size A n l := by
  obtain ⟨A', c', e, _, hR, _⟩ := h.at_
  injection e with e1 e2 _
  subst e1 e2
  exact ⟨rfl, hR⟩
theorem readSem_is (w : World) (A : Option Addr) (n c : Nat) (l : List Int) (rs : List Rt) (hr : Rd w w.heap.size A n l) (hm : n ≤ 1000000000000) (hs : Sem l rs) :
    Calls Try.prog 15 #[.slice A n c] w fun e w' => ∃ A' c', e = .returned (.tuple #[.slice A' rs.length c', .int .i64 0, .int .i64 0]) ∧ RdRt w' w'.heap.size A' rs.length rs ∧ Below w.heap.size w w' := by
  refine (read_is w A n c l hr hm).mono ?_
  rintro e w' ⟨v, rfl, hO, hB⟩
  obtain ⟨q1, q2, q3⟩ := read_some hs.all
  rw [q1] at hO
  obtain ⟨A', c', rfl, hRd⟩ := hO.rd
  exact ⟨A', c', by rw [q2, q3]; rfl, hRd, hB⟩
end Go.Proofs.Ytickcfcncpnaiaa
namespace Go.Proofs.Ytickcfcncpnaiaa
open Go.RowKit
set_option maxRecDepth 100000
set_option linter.unusedSimpArgs false
set_option linter.unusedVariables false

theorem rnum6_is (w : World) (n : Int) (s : Nat) (hn : U32 n) (h1 : 1 ≤ s) (h8 : s ≤ 8) (hf : n < 256 ^ s) :
    Calls Try.prog 24 #[.int .u32 n, .int .i64 s] w fun e w' => ∃ g, e = .returned (.slice (some ⟨g, 0, none⟩) s s) ∧ w.heap.size ≤ g ∧ Rd w' w'.heap.size (some ⟨g, 0, none⟩) s (be s n) ∧ Below w.heap.size w w' := by
  have hr0 : Rd w w.heap.size none ([] : List Int).length [] := Rd.nil_ _
  have HP := Lib.hid (rput_ok w none 0 [] n s hr0 (by simp) hn.1 (by have := hn.2; omega) h1 h8)
  have hw : IntKind.u64.wrap n = n := by rw [IntKind.wrap_u64]; have := hn.1; have := hn.2; omega
  have HC : Hid (1 ≤ (s : Int) ∧ (s : Int) ≤ 8 ∧ n < 256 ^ (s : Int).toNat) := Lib.hid ⟨by omega, by omega, by simpa using hf⟩
  clear hr0
  go_enter Try.func24, Try.ntmps24
  go_wp2_with fail
  refine HP.out.mono ?_
  rintro e w' ⟨hB, hR⟩
  rw [if_pos HC.out] at hR
  obtain ⟨rfl, hb⟩ := hR
  rw [show ((s : Int)).toNat = s by omega] at hb ⊢
  rw [List.nil_append] at hb
  have hrd : Rd w' w'.heap.size (some ⟨w.heap.size, 0, none⟩) s (be s n) := by
    have := hb.rd_all (B := w'.heap.size) (be_oct s n) hb.lt
    rwa [be_len] at this
  have HRd := Lib.hid hrd
  have HB := Lib.hid hB
  have e0 : ([] : List Int).length + s = s := by simp
  rw [e0]
  clear hb hrd hB e0
  go_wp2
  go_ret
  exact ⟨_, rfl, Nat.le_refl _, HRd.out, HB.out⟩

/-- append of bytes that are read, onto bytes of the call's own, in a region that draws. -/
theorem app_wp6 {o : Oper} {a : Act} {K : Act → World → Prop} {Q : Exit → Act → World → Prop} (s x : Operand)
    (ho : o.op = .call { callee := .builtin .append, args := #[s, x], argTypes := #[22, 22] }) {lo : Nat} {w : World} {v : Value} {P : List Int} (h : OwnB lo w v P) (hlo : lo ≤ w.heap.size)
    {ad : Addr} {m c : Nat} {news : List Int} (hr : Rd w w.heap.size (some ad) m news) (hlen : P.length + m ≤ 140737488355328) (hs : a.eval s = v) (hx : a.eval x = .slice (some ad) m c)
    (hk : ∀ v' w', OwnB lo w' v' (P ++ news) → Below lo w w' → w.grownBy w' v.ownBlock → (v'.ownBlock = v.ownBlock ∨ v'.ownBlock = some w.heap.size) → K (a.put o.dst v') w') :
    o.wp Try.prog a w K Q := by
  obtain ⟨i, hi, hz0, hz1, hz2⟩ := info_parts info_byte
  have hlm := hr.len
  have hsrc : ∀ j y, (u8s news)[j]? = some y → w.cell? (ad.add j) = some y := by
    rcases Nat.eq_zero_or_pos m with h0 | h0
    · intro j y hy
      have := (List.getElem?_eq_some_iff.1 hy).1
      simp at this
      omega
    · obtain ⟨b, off, e, _, hc⟩ := hr.at_ h0
      injection e with e
      subst e
      exact src_u8 hlm hc
  obtain ⟨v', w', hrun, hown, hgr, _, hloc⟩ := run_append_own_at (P := Try.prog) w lo 22 o.type 5 i _ 1 1 Try.underlying22 hi hz0 hz1 hz2 rfl (by decide) v P.length (u8s P) h.own ad m c (u8s news) (by simp [hlm]) hsrc (one_u8 news) (by unfold maxLen; omega) (by omega) hlo
  have h1 := hk v' w' ⟨by rw [List.length_append, hlm, show u8s (P ++ news) = u8s P ++ u8s news from List.map_append]; exact hown, fun y hy => (List.mem_append.1 hy).elim (h.oct y) (hr.oct y)⟩ ((Below.refl lo w).grown hgr hlo (fun i e => (h.own.lt i e).1)) hgr hloc
  unfold Oper.wp execOp
  simp only [ho, resolve, invoke, builtin, Sem.run_bind, Sem.run_pure, Result.andThen_ok, List.map_toArray, List.map_cons, List.map_nil, hs, hx, hrun]
  exact h1
/-- A slice literal of bytes is of the call's own. -/
theorem own_lit {lo : Nat} {w : World} (hlo : lo ≤ w.heap.size) (l : List Int) (ho : Oct l) (hl : l.length ≤ 100) : OwnB lo (w.alloc (.cells (u8s l).toArray 5)) (.slice (some ⟨w.heap.size, 0, none⟩) l.length l.length) l := by
  refine ⟨⟨by simp, .inr ⟨w.heap.size, l.length, (u8s l).toArray, rfl, hlo, ?_, Nat.le_refl _, ?_, by simp, ?_⟩⟩, ho⟩
  · exact Blk.new w 5 (u8s l).toArray
  · unfold maxLen; omega
  · exact List.take_of_length_le (by simp)
theorem rd_kept {w w' : World} {B B' g off n : Nat} {l : List Int} (h : Rd w B (some ⟨g, off, none⟩) n l) (hk : w'.heap[g]? = w.heap[g]?) (hB : g < B') : Rd w' B' (some ⟨g, off, none⟩) n l :=
  ⟨h.len, h.oct, fun hn => by
    obtain ⟨b, o, e, _, hc⟩ := h.at_ hn
    injection e with e
    injection e with e1 e2 _
    subst e1 e2
    exact ⟨g, off, rfl, hB, fun i hi => (World.cell?_of_block hk).trans (hc i hi)⟩⟩

/-- The memory of the document's Key while it puts the bytes together: the route's box, the bytes so far. -/
structure KE (w W : World) (r : Rt) (v : Value) (l : List Int) : Prop where
  src : RtAt W w.heap.size r
  b : OwnB (w.heap.size + 1) W v l
  low : Below w.heap.size w W
/-- And the 17 bytes of its prefix, in block g. -/
structure KD (w W : World) (r : Rt) (v : Value) (l : List Int) (g : Nat) : Prop extends KE w W r v l where
  ip : Rd W W.heap.size (some ⟨g, 0, none⟩) 17 ([r.pn % 256] ++ r.pl)
  sep : v.ownBlock ≠ some g
  gl : g < W.heap.size
section
variable {w W W' : World} {r : Rt} {v v' : Value} {l l' : List Int} {g : Nat}
theorem KE.lo (h : KE w W r v l) : w.heap.size + 1 ≤ W.heap.size := h.src.lt
theorem KE.below (h : KE w W r v l) (hB : Below W.heap.size W W') : KE w W' r v l := ⟨h.src.below hB h.src.lt, h.b.below hB, h.low.trans (hB.mono h.low.size)⟩
theorem KE.app (h : KE w W r v l) (ho : OwnB (w.heap.size + 1) W' v' l') (hB : Below (w.heap.size + 1) W W') : KE w W' r v' l' := ⟨h.src.below hB (by omega), ho, h.low.trans (hB.mono (by omega))⟩
theorem KD.below (h : KD w W r v l g) (hB : Below W.heap.size W W') : KD w W' r v l g := ⟨h.toKE.below hB, rd_kept h.ip (hB.block g h.gl) (Nat.lt_of_lt_of_le h.gl hB.size), h.sep, Nat.lt_of_lt_of_le h.gl hB.size⟩
theorem KD.app (h : KD w W r v l g) (ho : OwnB (w.heap.size + 1) W' v' l') (hB : Below (w.heap.size + 1) W W') (hg : W.grownBy W' v.ownBlock) (hv : v'.ownBlock = v.ownBlock ∨ v'.ownBlock = some W.heap.size) : KD w W' r v' l' g :=
  ⟨h.toKE.app ho hB, rd_kept h.ip (hg.block g h.gl (fun e => h.sep e.symm)) (Nat.lt_of_lt_of_le h.gl hg.size), by
    have := h.gl
    rcases hv with e | e
    · rw [e]; exact h.sep
    · rw [e]; intro h2; injection h2; omega, Nat.lt_of_lt_of_le h.gl hg.size⟩
end
end Go.Proofs.Ytickcfcncpnaiaa
namespace Go.Proofs.Ytickcfcncpnaiaa
open Go.RowKit
set_option maxRecDepth 100000
set_option linter.unusedSimpArgs false
set_option linter.unusedVariables false

/-- What the regions that draw may read. -/
structure KI (w W : World) (r : Rt) (g : Nat) : Prop where
  src : RtAt W w.heap.size r
  ip : Rd W W.heap.size (some ⟨g, 0, none⟩) 17 ([r.pn % 256] ++ r.pl)
theorem KD.ki {w W : World} {r : Rt} {v : Value} {l : List Int} {g : Nat} (h : KD w W r v l g) : KI w W r g := ⟨h.src, h.ip⟩
theorem KD.more {w W : World} {r : Rt} {v : Value} {l : List Int} {g : Nat} (h : KD w W r v l g) : KD w W.drew r v l g := h.below (below_drew W)
theorem own_rd {lo : Nat} {w : World} {v : Value} {l : List Int} (h : OwnB lo w v l) (hl : 0 < l.length) : ∃ g c, v = .slice (some ⟨g, 0, none⟩) l.length c ∧ l.length ≤ c ∧ lo ≤ g ∧ g < w.heap.size ∧ Rd w w.heap.size (some ⟨g, 0, none⟩) l.length l := by
  obtain ⟨A, c, rfl, hc, hR, hg⟩ := h.at_
  obtain ⟨g, rfl, h1, h2, _⟩ := hg hl
  exact ⟨g, c, rfl, hc, h1, h2, hR⟩
theorem KD.pl {w W : World} {r : Rt} {v : Value} {l : List Int} {g B : Nat} (h : KD w W r v l g) (hr : RtOk r) (hB : g < B) : Rd W B (some ⟨g, 1, none⟩) 16 r.pl :=
  ⟨hr.pl, hr.opl, fun _ => ⟨g, 1, rfl, hB, fun i hi => by
    obtain ⟨b, o, e, _, hc⟩ := h.ip.at_ (by omega)
    injection e with e
    injection e with e1 e2 _
    subst e1 e2
    have := hc (1 + i) (by omega)
    rw [Nat.zero_add] at this
    rw [this]
    rw [Nat.add_comm 1 i]
    simp [List.getD]⟩⟩
theorem KI.c0 {w W : World} {r : Rt} {g : Nat} (h : KI w W r g) : W.cell? ⟨g, 0, none⟩ = some (.int .u8 (r.pn % 256)) := by
  obtain ⟨b, o, e, _, hc⟩ := h.ip.at_ (by omega)
  injection e with e
  injection e with e1 e2 _
  subst e1 e2
  have := hc 0 (by omega)
  rw [this]
  rfl
theorem rd_lit (w : World) (l : List Int) (ho : Oct l) : Rd (w.alloc (.cells (u8s l).toArray 5)) (w.alloc (.cells (u8s l).toArray 5)).heap.size (some ⟨w.heap.size, 0, none⟩) l.length l := by
  have hb : Byt (w.alloc (.cells (u8s l).toArray 5)) w.heap.size 5 l := Blk.new w 5 _
  exact hb.rd_all ho (by simp)
theorem oct_two {x y : Int} (hx : 0 ≤ x ∧ x < 256) (hy : 0 ≤ y ∧ y < 256) : Oct [x, y] := fun z hz => by
  simp only [List.mem_cons, List.mem_nil_iff, or_false] at hz
  rcases hz with rfl | rfl <;> assumption

set_option maxHeartbeats 8000000 in
set_option maxRecDepth 100000 in
theorem rkey_is (w : World) (r : Rt) (hr : RtOk r) : Calls Try.prog 19 #[.agg (rtc r).toArray] w fun e w' => e = .returned (.string (strOfNums (hexS (keyR r)))) ∧ Below w.heap.size w w' := by
  have HR := Lib.hid hr
  have HA := Lib.hid (show RtAt ((w.alloc (.cells (rtc r).toArray 36)).drew) w.heap.size r ∧ Below w.heap.size w ((w.alloc (.cells (rtc r).toArray 36)).drew) from ⟨(RtAt.new w r hr 36).keep rfl, below_drewN ((Below.refl w.heap.size w).alloc (Nat.le_refl _) _) 1⟩)
  have HN4 : Hid (∀ W, Calls Try.prog 24 #[.int .u32 r.tg, .int .i64 4] W fun e W' => ∃ g, e = .returned (.slice (some ⟨g, 0, none⟩) 4 4) ∧ W.heap.size ≤ g ∧ Rd W' W'.heap.size (some ⟨g, 0, none⟩) 4 (be 4 r.tg) ∧ Below W.heap.size W W') := Lib.hid (fun W => rnum6_is W r.tg 4 hr.tg (by omega) (by omega) (be4_fit hr.tg))
  have hs8 : ∀ W, (Instr.sliceAt 24 (.pointer (some ⟨w.heap.size, 1, none⟩)) none none none).run Try.prog W = .ok (.slice (some ⟨w.heap.size, 1, none⟩) 8 8) W := fun W => by go_simp
  have hs10 : ∀ W, (Instr.sliceAt 26 (.pointer (some ⟨w.heap.size, 9, none⟩)) none none none).run Try.prog W = .ok (.slice (some ⟨w.heap.size, 9, none⟩) 10 10) W := fun W => by go_simp
  have hs6 : ∀ W, (Instr.sliceAt 29 (.pointer (some ⟨w.heap.size, 20, none⟩)) none none none).run Try.prog W = .ok (.slice (some ⟨w.heap.size, 20, none⟩) 6 6) W := fun W => by go_simp
  have hs16 : ∀ W, (Instr.sliceAt 30 (.pointer (some ⟨w.heap.size, 27, none⟩)) none none none).run Try.prog W = .ok (.slice (some ⟨w.heap.size, 27, none⟩) 16 16) W := fun W => by go_simp
  have hle := keyR_le hr
  clear hr
  go_enter Try.func19, Try.ntmps19
  go_wp2
  refine wp_region_held_drew (S := fun W => RtAt W w.heap.size r ∧ Below w.heap.size w W) (by kernel_rfl) (HA.out) (fun hS => ?_)
  refine wpAnyH_take (i := 0) (oi := ⟨some 9, _, _, _, _, _⟩) (v := ?_) rfl (by kernel_rfl) (by kernel_rfl) (by kernel_rfl) (fun _ _ _ h => h) (Or.inl ⟨by rfl, ?_⟩) hS ?_
  rotate_left
  · intro wq hq
    first | (go_simp; done) | (go_simp; rfl)
  try simp only [Act.put, List.setIfInBounds_toArray, List.set_cons_zero, List.set_cons_succ]
  refine wpAnyH_take (i := 1) (oi := ⟨some 10, _, _, _, _, _⟩) (v := ?_) rfl (by kernel_rfl) (by kernel_rfl) (by kernel_rfl) (fun _ _ _ h => h) (Or.inl ⟨by rfl, ?_⟩) hS ?_
  rotate_left
  · intro wq hq
    have hc := hq.1.cK
    first | (go_simp; done) | (go_simp; rfl)
  try simp only [Act.put, List.setIfInBounds_toArray, List.set_cons_zero, List.set_cons_succ]
  refine wpAnyH_take (i := 2) (oi := ⟨some 11, _, _, _, _, _⟩) (v := ?_) rfl (by kernel_rfl) (by kernel_rfl) (by kernel_rfl) (fun _ _ _ h => h) (Or.inl ⟨by rfl, ?_⟩) hS ?_
  rotate_left
  · intro wq hq
    first | (go_simp; done) | (go_simp; rfl)
  try simp only [Act.put, List.setIfInBounds_toArray, List.set_cons_zero, List.set_cons_succ]
  refine wpAnyH_take (i := 4) (oi := ⟨some 13, _, _, _, _, _⟩) (v := ?_) rfl (by kernel_rfl) (by kernel_rfl) (by kernel_rfl) (fun _ _ _ h => h) (Or.inl ⟨by rfl, ?_⟩) hS ?_
  rotate_left
  · intro wq hq
    first | (go_simp; done) | (go_simp; rfl)
  try simp only [Act.put, List.setIfInBounds_toArray, List.set_cons_zero, List.set_cons_succ]
  refine wpAnyH_take (i := 5) (oi := ⟨some 14, _, _, _, _, _⟩) (v := ?_) rfl (by kernel_rfl) (by kernel_rfl) (by kernel_rfl) (fun _ _ _ h => h) (Or.inl ⟨by rfl, ?_⟩) hS ?_
  rotate_left
  · intro wq hq
    first | (go_simp; done) | (go_simp; rfl)
  try simp only [Act.put, List.setIfInBounds_toArray, List.set_cons_zero, List.set_cons_succ]
  generalize (w.alloc (.cells (rtc r).toArray 36)).drew = W1 at *
  refine wpAnyH_ready (rs := [3]) (by kernel_rfl) (by simp) ?_
  refine AllReadyH.cons (o := ⟨some 12, _, _, _, _, _⟩) rfl (fun K hK => ?_) AllReadyH.nil
  rw [if_pos (by rfl)]
  go_wp2
  have hO1 : OwnB (w.heap.size + 1) (W1.alloc (.cells #[.int .u8 (r.k % 256)] 5)) (.slice (some ⟨W1.heap.size, 0, none⟩) 1 1) [r.k % 256] := own_lit hS.1.lt [r.k % 256] (by intro x hx; rw [List.mem_singleton] at hx; subst hx; omega) (by simp)
  have hS2 : RtAt (W1.alloc (.cells #[.int .u8 (r.k % 256)] 5)) w.heap.size r ∧ Below w.heap.size w (W1.alloc (.cells #[.int .u8 (r.k % 256)] 5)) := ⟨hS.1.alloc _, hS.2.alloc hS.2.size _⟩
  refine hK.out _ _ (hS2) (fun hS => ?_)
  clear hK K
  try simp only [Act.put, List.setIfInBounds_toArray, List.set_cons_zero, List.set_cons_succ]
  refine wpAnyH_ready (rs := [6]) (by kernel_rfl) (by simp) ?_
  refine AllReadyH.cons (o := ⟨some 15, _, _, _, _, _⟩) rfl (fun K hK => ?_) AllReadyH.nil
  rw [if_pos (by rfl)]
  refine app_wp6 _ _ rfl hO1 hS2.1.lt (hS2.1.sRd HR.out hS2.1.lt) (by simp) rfl rfl ?_
  intro v3 W3 ho3 hB3 _ _
  have hE3 := KE.app (⟨hS2.1, hO1, hS2.2⟩ : KE w _ r _ _) ho3 hB3
  have hS3 : RtAt W3 w.heap.size r ∧ Below w.heap.size w W3 := ⟨hE3.src, hE3.low⟩
  clear ho3 hB3
  refine hK.out _ _ (hS3) (fun hS => ?_)
  clear hK K
  try simp only [Act.put, List.setIfInBounds_toArray, List.set_cons_zero, List.set_cons_succ]
  refine wpAnyH_take (i := 7) (oi := ⟨some 3, _, _, _, _, _⟩) (v := ?_) rfl (by kernel_rfl) (by kernel_rfl) (by kernel_rfl) (fun _ _ _ h => h) (Or.inl ⟨by rfl, ?_⟩) hS ?_
  rotate_left
  · intro wq hq
    first | (go_simp; done) | (go_simp; rfl)
  try simp only [Act.put, List.setIfInBounds_toArray, List.set_cons_zero, List.set_cons_succ]
  refine wpAnyH_done (by kernel_rfl) ?_ _
  have HE3 := Lib.hid (hE3.below (below_drew W3))
  clear hS hS2 hS3 hE3 hO1 HA hs8
  go_wp2
  refine wp_region_held_drew (S := fun W => RtAt W w.heap.size r) (by kernel_rfl) (HE3.out.src) (fun hS => ?_)
  refine wpAnyH_take (i := 0) (oi := ⟨some 16, _, _, _, _, _⟩) (v := ?_) rfl (by kernel_rfl) (by kernel_rfl) (by kernel_rfl) (fun _ _ _ h => h) (Or.inl ⟨by rfl, ?_⟩) hS ?_
  rotate_left
  · intro wq hq
    first | (go_simp; done) | (go_simp; rfl)
  try simp only [Act.put, List.setIfInBounds_toArray, List.set_cons_zero, List.set_cons_succ]
  refine wpAnyH_take (i := 1) (oi := ⟨some 17, _, _, _, _, _⟩) (v := ?_) rfl (by kernel_rfl) (by kernel_rfl) (by kernel_rfl) (fun _ _ _ h => h) (Or.inl ⟨by rfl, ?_⟩) hS ?_
  rotate_left
  · intro wq hq
    first | (go_simp; done) | (go_simp; rfl)
  try simp only [Act.put, List.setIfInBounds_toArray, List.set_cons_zero, List.set_cons_succ]
  refine wpAnyH_take (i := 2) (oi := ⟨some 18, _, _, _, _, _⟩) (v := ?_) rfl (by kernel_rfl) (by kernel_rfl) (by kernel_rfl) (fun _ _ _ h => h) (Or.inl ⟨by rfl, ?_⟩) hS ?_
  rotate_left
  · intro wq hq
    have hc := hq.cPn HR.out
    first | (go_simp; done) | (go_simp; rfl)
  try simp only [Act.put, List.setIfInBounds_toArray, List.set_cons_zero, List.set_cons_succ]
  refine wpAnyH_take (i := 3) (oi := ⟨some 19, _, _, _, _, _⟩) (v := ?_) rfl (by kernel_rfl) (by kernel_rfl) (by kernel_rfl) (fun _ _ _ h => h) (Or.inl ⟨by rfl, ?_⟩) hS ?_
  rotate_left
  · intro wq hq
    first | (go_simp; done) | (go_simp; rfl)
  try simp only [Act.put, List.setIfInBounds_toArray, List.set_cons_zero, List.set_cons_succ]
  refine wpAnyH_take (i := 5) (oi := ⟨some 21, _, _, _, _, _⟩) (v := ?_) rfl (by kernel_rfl) (by kernel_rfl) (by kernel_rfl) (fun _ _ _ h => h) (Or.inl ⟨by rfl, ?_⟩) hS ?_
  rotate_left
  · intro wq hq
    first | (go_simp; done) | (go_simp; rfl)
  try simp only [Act.put, List.setIfInBounds_toArray, List.set_cons_zero, List.set_cons_succ]
  refine wpAnyH_take (i := 6) (oi := ⟨some 22, _, _, _, _, _⟩) (v := ?_) rfl (by kernel_rfl) (by kernel_rfl) (by kernel_rfl) (fun _ _ _ h => h) (Or.inl ⟨by rfl, ?_⟩) hS ?_
  rotate_left
  · intro wq hq
    first | (go_simp; done) | (go_simp; rfl)
  try simp only [Act.put, List.setIfInBounds_toArray, List.set_cons_zero, List.set_cons_succ]
  refine wpAnyH_take (i := 7) (oi := ⟨some 23, _, _, _, _, _⟩) (v := ?_) rfl (by kernel_rfl) (by kernel_rfl) (by kernel_rfl) (fun _ _ _ h => h) (Or.inl ⟨by rfl, ?_⟩) hS ?_
  rotate_left
  · intro wq hq
    first | (go_simp; done) | (go_simp; rfl)
  try simp only [Act.put, List.setIfInBounds_toArray, List.set_cons_zero, List.set_cons_succ]
  refine wpAnyH_take (i := 8) (oi := ⟨some 24, _, _, _, _, _⟩) (v := ?_) rfl (by kernel_rfl) (by kernel_rfl) (by kernel_rfl) (fun _ _ _ h => h) (Or.inl ⟨by rfl, ?_⟩) hS ?_
  rotate_left
  · intro wq hq
    first | (go_simp; done) | (go_simp; rfl)
  try simp only [Act.put, List.setIfInBounds_toArray, List.set_cons_zero, List.set_cons_succ]
  generalize W3.drew = W4 at *
  refine wpAnyH_ready (rs := [4]) (by kernel_rfl) (by simp) ?_
  refine AllReadyH.cons (o := ⟨some 20, _, _, _, _, _⟩) rfl (fun K hK => ?_) AllReadyH.nil
  rw [if_pos (by rfl)]
  go_wp2
  have hO4 : OwnB W4.heap.size (W4.alloc (.cells #[.int .u8 (r.pn % 256)] 5)) (.slice (some ⟨W4.heap.size, 0, none⟩) 1 1) [r.pn % 256] := own_lit (Nat.le_refl _) [r.pn % 256] (by intro x hx; rw [List.mem_singleton] at hx; subst hx; omega) (by simp)
  have hS2 : RtAt (W4.alloc (.cells #[.int .u8 (r.pn % 256)] 5)) w.heap.size r := hS.alloc _
  have hB4 := below_one W4 (.cells #[.int .u8 (r.pn % 256)] 5)
  refine hK.out _ _ (hS2) (fun hS => ?_)
  clear hK K
  try simp only [Act.put, List.setIfInBounds_toArray, List.set_cons_zero, List.set_cons_succ]
  refine wpAnyH_ready (rs := [9]) (by kernel_rfl) (by simp) ?_
  refine AllReadyH.cons (o := ⟨some 25, _, _, _, _, _⟩) rfl (fun K hK => ?_) AllReadyH.nil
  rw [if_pos (by rfl)]
  refine app_wp6 _ _ rfl hO4 (by simp) (hS2.sPl HR.out hS2.lt) (by simp) rfl rfl ?_
  intro v4 W5 ho5 hB5 _ _
  have hE5 := HE3.out.below (hB4.trans hB5)
  obtain ⟨g, c4, rfl, hc4, hg4, hg5, hR5⟩ := own_rd ho5 (by simp)
  have h17 : ([r.pn % 256] ++ r.pl).length = 17 := by simp [HR.out.pl]
  rw [h17] at hR5 hc4 ⊢
  have hD5 : KD w W5 r v3 ([r.k % 256] ++ r.rd) g := ⟨hE5, hR5, fun e => by have := (HE3.out.b.own.lt g e).2; omega, hg5⟩
  have hS5 := hE5.src
  refine hK.out _ _ (hS5) (fun hS => ?_)
  clear hK K
  try simp only [Act.put, List.setIfInBounds_toArray, List.set_cons_zero, List.set_cons_succ]
  refine wpAnyH_take (i := 10) (oi := ⟨some 4, _, _, _, _, _⟩) (v := ?_) rfl (by kernel_rfl) (by kernel_rfl) (by kernel_rfl) (fun _ _ _ h => h) (Or.inl ⟨by rfl, ?_⟩) hS ?_
  rotate_left
  · intro wq hq
    first | (go_simp; done) | (go_simp; rfl)
  try simp only [Act.put, List.setIfInBounds_toArray, List.set_cons_zero, List.set_cons_succ]
  refine wpAnyH_done (by kernel_rfl) ?_ _
  have HD := Lib.hid hD5
  have hcK := HD.out.src.cK
  clear hS hS2 hO4 hB4 ho5 hB5 hE5 hg4 hg5 hR5 h17 hD5 hS5 HE3 hs16
  go_upto_block 0 with fail
  go_cut [3] (fun s3 wx => KE w wx r s3 (keyR r))
  case first =>
    by_cases h1 : r.k = 1
    · skip
      have HF : Hid (keyR r = ([r.k % 256] ++ r.rd) ++ r.es ++ be 4 r.tg) := Lib.hid (by unfold keyR; rw [if_pos (by omega)]; simp)
      have e1 : (r.k == 1) = true := by rw [beq_iff_eq]; omega
      clear h1
      go_wp2
      refine wp_region_held_drew (S := fun W => KI w W r g) (by kernel_rfl) (HD.out.more.ki) (fun hS => ?_)
      refine wpAnyH_take (i := 0) (oi := ⟨some 30, _, _, _, _, _⟩) (v := ?_) rfl (by kernel_rfl) (by kernel_rfl) (by kernel_rfl) (fun _ _ _ h => h) (Or.inl ⟨by rfl, ?_⟩) hS ?_
      rotate_left
      · intro wq hq
        first | (go_simp; done) | (go_simp; rfl)
      try simp only [Act.put, List.setIfInBounds_toArray, List.set_cons_zero, List.set_cons_succ]
      refine wpAnyH_take (i := 1) (oi := ⟨some 31, _, _, _, _, _⟩) (v := ?_) rfl (by kernel_rfl) (by kernel_rfl) (by kernel_rfl) (fun _ _ _ h => h) (Or.inl ⟨by rfl, ?_⟩) hS ?_
      rotate_left
      · intro wq hq
        first | (go_simp; done) | (go_simp; rfl)
      try simp only [Act.put, List.setIfInBounds_toArray, List.set_cons_zero, List.set_cons_succ]
      refine wpAnyH_take (i := 2) (oi := ⟨some 32, _, _, _, _, _⟩) (v := ?_) rfl (by kernel_rfl) (by kernel_rfl) (by kernel_rfl) (fun _ _ _ h => h) (Or.inl ⟨by rfl, ?_⟩) hS ?_
      rotate_left
      · intro wq hq
        first | (go_simp; done) | (go_simp; rfl)
      try simp only [Act.put, List.setIfInBounds_toArray, List.set_cons_zero, List.set_cons_succ]
      refine wpAnyH_take (i := 4) (oi := ⟨some 34, _, _, _, _, _⟩) (v := ?_) rfl (by kernel_rfl) (by kernel_rfl) (by kernel_rfl) (fun _ _ _ h => h) (Or.inl ⟨by rfl, ?_⟩) hS ?_
      rotate_left
      · intro wq hq
        first | (go_simp; done) | (go_simp; rfl)
      try simp only [Act.put, List.setIfInBounds_toArray, List.set_cons_zero, List.set_cons_succ]
      refine wpAnyH_take (i := 5) (oi := ⟨some 35, _, _, _, _, _⟩) (v := ?_) rfl (by kernel_rfl) (by kernel_rfl) (by kernel_rfl) (fun _ _ _ h => h) (Or.inl ⟨by rfl, ?_⟩) hS ?_
      rotate_left
      · intro wq hq
        have hc := hq.src.cTg HR.out
        first | (go_simp; done) | (go_simp; rfl)
      try simp only [Act.put, List.setIfInBounds_toArray, List.set_cons_zero, List.set_cons_succ]
      have hA := HD.out.more
      generalize W5.drew = Wa at *
      refine wpAnyH_ready (rs := [3]) (by kernel_rfl) (by simp) ?_
      refine AllReadyH.cons (o := ⟨some 33, _, _, _, _, _⟩) rfl (fun K hK => ?_) AllReadyH.nil
      rw [if_pos (by rfl)]
      refine app_wp6 _ _ rfl hA.b hA.lo (hA.src.sEs HR.out hA.src.lt) (by simp [HR.out.rd, HR.out.es, HR.out.mc, HR.out.pl, be_len] <;> omega) rfl rfl ?_
      intro vhB1 WhB1 ho hB hg hv
      have hB1 := hA.app ho hB hg hv
      have hShB1 := hB1.ki
      clear ho hB
      refine hK.out _ _ (hShB1) (fun hS => ?_)
      clear hK K
      try simp only [Act.put, List.setIfInBounds_toArray, List.set_cons_zero, List.set_cons_succ]
      refine wpAnyH_ready (rs := [6]) (by kernel_rfl) (by simp) ?_
      refine AllReadyH.cons (o := ⟨some 36, _, _, _, _, _⟩) rfl (fun K hK => ?_) AllReadyH.nil
      rw [if_pos (by rfl)]
      go_wp2_with fail
      refine (HN4.out _).mono ?_
      rintro e WhC1 ⟨g6, rfl, hg6, hr6, hB6⟩
      have hC1 := hB1.below hB6
      have hShC1 := hC1.ki
      refine hK.out _ _ (hShC1) (fun hS => ?_)
      clear hK K
      try simp only [Act.put, List.setIfInBounds_toArray, List.set_cons_zero, List.set_cons_succ]
      refine wpAnyH_ready (rs := [7]) (by kernel_rfl) (by simp) ?_
      refine AllReadyH.cons (o := ⟨some 37, _, _, _, _, _⟩) rfl (fun K hK => ?_) AllReadyH.nil
      rw [if_pos (by rfl)]
      refine app_wp6 _ _ rfl hC1.b hC1.lo (hr6) (by simp [HR.out.rd, HR.out.es, HR.out.mc, HR.out.pl, be_len] <;> omega) rfl rfl ?_
      intro vhD1 WhD1 ho hB hg hv
      have hD1 := hC1.app ho hB hg hv
      have hShD1 := hD1.ki
      clear ho hB
      refine hK.out _ _ (hShD1) (fun hS => ?_)
      clear hK K
      try simp only [Act.put, List.setIfInBounds_toArray, List.set_cons_zero, List.set_cons_succ]
      refine wpAnyH_take (i := 8) (oi := ⟨some 3, _, _, _, _, _⟩) (v := ?_) rfl (by kernel_rfl) (by kernel_rfl) (by kernel_rfl) (fun _ _ _ h => h) (Or.inl ⟨by rfl, ?_⟩) hS ?_
      rotate_left
      · intro wq hq
        first | (go_simp; done) | (go_simp; rfl)
      try simp only [Act.put, List.setIfInBounds_toArray, List.set_cons_zero, List.set_cons_succ]
      refine wpAnyH_done (by kernel_rfl) ?_ _
      go_wp2_with fail
      go_meet
      rw [HF.out]
      first | exact hD1.toKE | simpa using hD1.toKE
    by_cases h2 : r.k = 2
    · skip
      have HF : Hid (keyR r = ([r.k % 256] ++ r.rd) ++ be 4 r.tg ++ r.mc ++ ([r.pn % 256] ++ r.pl)) := Lib.hid (by unfold keyR; rw [if_neg (by omega), if_pos (by omega)]; simp)
      have e1 : (r.k == 1) = false := by rw [beq_eq_false_iff_ne]; omega
      have e2 : (r.k == 2) = true := by rw [beq_iff_eq]; omega
      clear h1 h2
      go_wp2
      refine wp_region_held_drew (S := fun W => KI w W r g) (by kernel_rfl) (HD.out.more.ki) (fun hS => ?_)
      refine wpAnyH_take (i := 0) (oi := ⟨some 40, _, _, _, _, _⟩) (v := ?_) rfl (by kernel_rfl) (by kernel_rfl) (by kernel_rfl) (fun _ _ _ h => h) (Or.inl ⟨by rfl, ?_⟩) hS ?_
      rotate_left
      · intro wq hq
        first | (go_simp; done) | (go_simp; rfl)
      try simp only [Act.put, List.setIfInBounds_toArray, List.set_cons_zero, List.set_cons_succ]
      refine wpAnyH_take (i := 1) (oi := ⟨some 41, _, _, _, _, _⟩) (v := ?_) rfl (by kernel_rfl) (by kernel_rfl) (by kernel_rfl) (fun _ _ _ h => h) (Or.inl ⟨by rfl, ?_⟩) hS ?_
      rotate_left
      · intro wq hq
        first | (go_simp; done) | (go_simp; rfl)
      try simp only [Act.put, List.setIfInBounds_toArray, List.set_cons_zero, List.set_cons_succ]
      refine wpAnyH_take (i := 2) (oi := ⟨some 42, _, _, _, _, _⟩) (v := ?_) rfl (by kernel_rfl) (by kernel_rfl) (by kernel_rfl) (fun _ _ _ h => h) (Or.inl ⟨by rfl, ?_⟩) hS ?_
      rotate_left
      · intro wq hq
        have hc := hq.src.cTg HR.out
        first | (go_simp; done) | (go_simp; rfl)
      try simp only [Act.put, List.setIfInBounds_toArray, List.set_cons_zero, List.set_cons_succ]
      refine wpAnyH_take (i := 5) (oi := ⟨some 45, _, _, _, _, _⟩) (v := ?_) rfl (by kernel_rfl) (by kernel_rfl) (by kernel_rfl) (fun _ _ _ h => h) (Or.inl ⟨by rfl, ?_⟩) hS ?_
      rotate_left
      · intro wq hq
        first | (go_simp; done) | (go_simp; rfl)
      try simp only [Act.put, List.setIfInBounds_toArray, List.set_cons_zero, List.set_cons_succ]
      refine wpAnyH_take (i := 6) (oi := ⟨some 46, _, _, _, _, _⟩) (v := ?_) rfl (by kernel_rfl) (by kernel_rfl) (by kernel_rfl) (fun _ _ _ h => h) (Or.inl ⟨by rfl, ?_⟩) hS ?_
      rotate_left
      · intro wq hq
        first | (go_simp; done) | (go_simp; rfl)
      try simp only [Act.put, List.setIfInBounds_toArray, List.set_cons_zero, List.set_cons_succ]
      refine wpAnyH_take (i := 8) (oi := ⟨some 48, _, _, _, _, _⟩) (v := ?_) rfl (by kernel_rfl) (by kernel_rfl) (by kernel_rfl) (fun _ _ _ h => h) (Or.inl ⟨by rfl, ?_⟩) hS ?_
      rotate_left
      · intro wq hq
        first | (go_simp; done) | (go_simp; rfl)
      try simp only [Act.put, List.setIfInBounds_toArray, List.set_cons_zero, List.set_cons_succ]
      have hA := HD.out.more
      generalize W5.drew = Wa at *
      refine wpAnyH_ready (rs := [3]) (by kernel_rfl) (by simp) ?_
      refine AllReadyH.cons (o := ⟨some 43, _, _, _, _, _⟩) rfl (fun K hK => ?_) AllReadyH.nil
      rw [if_pos (by rfl)]
      go_wp2_with fail
      refine (HN4.out _).mono ?_
      rintro e WhB1 ⟨g6, rfl, hg6, hr6, hB6⟩
      have hB1 := hA.below hB6
      have hShB1 := hB1.ki
      refine hK.out _ _ (hShB1) (fun hS => ?_)
      clear hK K
      try simp only [Act.put, List.setIfInBounds_toArray, List.set_cons_zero, List.set_cons_succ]
      refine wpAnyH_ready (rs := [4]) (by kernel_rfl) (by simp) ?_
      refine AllReadyH.cons (o := ⟨some 44, _, _, _, _, _⟩) rfl (fun K hK => ?_) AllReadyH.nil
      rw [if_pos (by rfl)]
      refine app_wp6 _ _ rfl hB1.b hB1.lo (hr6) (by simp [HR.out.rd, HR.out.es, HR.out.mc, HR.out.pl, be_len] <;> omega) rfl rfl ?_
      intro vhC1 WhC1 ho hB hg hv
      have hC1 := hB1.app ho hB hg hv
      have hShC1 := hC1.ki
      clear ho hB
      refine hK.out _ _ (hShC1) (fun hS => ?_)
      clear hK K
      try simp only [Act.put, List.setIfInBounds_toArray, List.set_cons_zero, List.set_cons_succ]
      refine wpAnyH_ready (rs := [7]) (by kernel_rfl) (by simp) ?_
      refine AllReadyH.cons (o := ⟨some 47, _, _, _, _, _⟩) rfl (fun K hK => ?_) AllReadyH.nil
      rw [if_pos (by rfl)]
      refine app_wp6 _ _ rfl hC1.b hC1.lo (hC1.src.sMc HR.out hC1.src.lt) (by simp [HR.out.rd, HR.out.es, HR.out.mc, HR.out.pl, be_len] <;> omega) rfl rfl ?_
      intro vhD1 WhD1 ho hB hg hv
      have hD1 := hC1.app ho hB hg hv
      have hShD1 := hD1.ki
      clear ho hB
      refine hK.out _ _ (hShD1) (fun hS => ?_)
      clear hK K
      try simp only [Act.put, List.setIfInBounds_toArray, List.set_cons_zero, List.set_cons_succ]
      refine wpAnyH_ready (rs := [9]) (by kernel_rfl) (by simp) ?_
      refine AllReadyH.cons (o := ⟨some 49, _, _, _, _, _⟩) rfl (fun K hK => ?_) AllReadyH.nil
      rw [if_pos (by rfl)]
      refine app_wp6 _ _ rfl hD1.b hD1.lo (hD1.ip) (by simp [HR.out.rd, HR.out.es, HR.out.mc, HR.out.pl, be_len] <;> omega) rfl rfl ?_
      intro vhE1 WhE1 ho hB hg hv
      have hE1 := hD1.app ho hB hg hv
      have hShE1 := hE1.ki
      clear ho hB
      refine hK.out _ _ (hShE1) (fun hS => ?_)
      clear hK K
      try simp only [Act.put, List.setIfInBounds_toArray, List.set_cons_zero, List.set_cons_succ]
      refine wpAnyH_take (i := 10) (oi := ⟨some 3, _, _, _, _, _⟩) (v := ?_) rfl (by kernel_rfl) (by kernel_rfl) (by kernel_rfl) (fun _ _ _ h => h) (Or.inl ⟨by rfl, ?_⟩) hS ?_
      rotate_left
      · intro wq hq
        first | (go_simp; done) | (go_simp; rfl)
      try simp only [Act.put, List.setIfInBounds_toArray, List.set_cons_zero, List.set_cons_succ]
      refine wpAnyH_done (by kernel_rfl) ?_ _
      go_wp2_with fail
      go_meet
      rw [HF.out]
      first | exact hE1.toKE | simpa using hE1.toKE
    by_cases h3 : r.k = 3
    · skip
      have HF : Hid (keyR r = ([r.k % 256] ++ r.rd) ++ be 4 r.tg ++ ([r.pn % 256] ++ r.pl)) := Lib.hid (by unfold keyR; rw [if_neg (by omega), if_neg (by omega), if_pos (by omega)]; simp)
      have e1 : (r.k == 1) = false := by rw [beq_eq_false_iff_ne]; omega
      have e2 : (r.k == 2) = false := by rw [beq_eq_false_iff_ne]; omega
      have e3 : (r.k == 3) = true := by rw [beq_iff_eq]; omega
      clear h1 h2 h3
      go_upto_region 9 with fail
      clear e1 e2 e3
      have hcT := HD.out.src.cTg HR.out
      go_wp2_with fail
      refine (HN4.out _).mono ?_
      rintro e W7 ⟨g6, rfl, _, hr6, hB6⟩
      have HD2 := Lib.hid (HD.out.below hB6)
      have HR6 := Lib.hid hr6
      clear hr6 hB6
      go_wp2_with (at_builtin; refine app_bs2 rfl _ _ rfl HD2.out.b HD2.out.lo (HR6.out) (by simp [HR.out.rd, HR.out.es, HR.out.mc, HR.out.pl, be_len] <;> omega) rfl rfl ?_)
      intro vHD3 WHD3 ho hB hg hv
      have HD3 := Lib.hid (HD2.out.app ho hB hg hv)
      clear ho hB hg hv
      go_wp2_with (at_builtin; refine app_bs2 rfl _ _ rfl HD3.out.b HD3.out.lo (HD3.out.ip) (by simp [HR.out.rd, HR.out.es, HR.out.mc, HR.out.pl, be_len] <;> omega) rfl rfl ?_)
      intro vHD4 WHD4 ho hB hg hv
      have HD4 := Lib.hid (HD3.out.app ho hB hg hv)
      clear ho hB hg hv
      go_wp2_with fail
      go_meet
      rw [HF.out]
      first | exact HD4.out.toKE | simpa using HD4.out.toKE
    by_cases h4 : r.k = 4
    · skip
      have HF : Hid (keyR r = ([r.k % 256] ++ r.rd) ++ r.es ++ ([r.pn % 256] ++ r.pl)) := Lib.hid (by unfold keyR; rw [if_neg (by omega), if_neg (by omega), if_neg (by omega), if_pos (by omega)]; simp)
      have e1 : (r.k == 1) = false := by rw [beq_eq_false_iff_ne]; omega
      have e2 : (r.k == 2) = false := by rw [beq_eq_false_iff_ne]; omega
      have e3 : (r.k == 3) = false := by rw [beq_eq_false_iff_ne]; omega
      have e4 : (r.k == 4) = true := by rw [beq_iff_eq]; omega
      clear h1 h2 h3 h4
      go_upto_region 11 with fail
      clear e1 e2 e3 e4
      go_wp2_with (at_builtin; refine app_bs2 rfl _ _ rfl HD.out.b HD.out.lo (HD.out.src.sEs HR.out HD.out.src.lt) (by simp [HR.out.rd, HR.out.es, HR.out.mc, HR.out.pl, be_len] <;> omega) rfl rfl ?_)
      intro vHD3 WHD3 ho hB hg hv
      have HD3 := Lib.hid (HD.out.app ho hB hg hv)
      clear ho hB hg hv
      go_wp2_with (at_builtin; refine app_bs2 rfl _ _ rfl HD3.out.b HD3.out.lo (HD3.out.ip) (by simp [HR.out.rd, HR.out.es, HR.out.mc, HR.out.pl, be_len] <;> omega) rfl rfl ?_)
      intro vHD4 WHD4 ho hB hg hv
      have HD4 := Lib.hid (HD3.out.app ho hB hg hv)
      clear ho hB hg hv
      go_wp2_with fail
      go_meet
      rw [HF.out]
      first | exact HD4.out.toKE | simpa using HD4.out.toKE
    by_cases h5 : r.k = 5
    · skip
      cases hv6 : r.v6
      · have HF : Hid (keyR r = ([r.k % 256] ++ r.rd) ++ be 4 r.tg ++ [r.pn % 256, 0] ++ r.pl) := Lib.hid (by unfold keyR; rw [hv6]; rw [if_neg (by omega), if_neg (by omega), if_neg (by omega), if_neg (by omega), if_pos (by omega)]; simp)
        have e1 : (r.k == 1) = false := by rw [beq_eq_false_iff_ne]; omega
        have e2 : (r.k == 2) = false := by rw [beq_eq_false_iff_ne]; omega
        have e3 : (r.k == 3) = false := by rw [beq_eq_false_iff_ne]; omega
        have e4 : (r.k == 4) = false := by rw [beq_eq_false_iff_ne]; omega
        have e5 : (r.k == 5) = true := by rw [beq_iff_eq]; omega
        clear h1 h2 h3 h4 h5
        have hcV := HD.out.src.cV6 HR.out
        rw [hv6] at hcV
        clear hv6
        go_upto_region 13 with fail
        clear e1 e2 e3 e4 e5
        go_wp2
        refine wp_region_held_drew (S := fun W => KI w W r g) (by kernel_rfl) (HD.out.more.ki) (fun hS => ?_)
        refine wpAnyH_take (i := 0) (oi := ⟨some 73, _, _, _, _, _⟩) (v := ?_) rfl (by kernel_rfl) (by kernel_rfl) (by kernel_rfl) (fun _ _ _ h => h) (Or.inl ⟨by rfl, ?_⟩) hS ?_
        rotate_left
        · intro wq hq
          first | (go_simp; done) | (go_simp; rfl)
        try simp only [Act.put, List.setIfInBounds_toArray, List.set_cons_zero, List.set_cons_succ]
        refine wpAnyH_take (i := 1) (oi := ⟨some 74, _, _, _, _, _⟩) (v := ?_) rfl (by kernel_rfl) (by kernel_rfl) (by kernel_rfl) (fun _ _ _ h => h) (Or.inl ⟨by rfl, ?_⟩) hS ?_
        rotate_left
        · intro wq hq
          first | (go_simp; done) | (go_simp; rfl)
        try simp only [Act.put, List.setIfInBounds_toArray, List.set_cons_zero, List.set_cons_succ]
        refine wpAnyH_take (i := 2) (oi := ⟨some 75, _, _, _, _, _⟩) (v := ?_) rfl (by kernel_rfl) (by kernel_rfl) (by kernel_rfl) (fun _ _ _ h => h) (Or.inl ⟨by rfl, ?_⟩) hS ?_
        rotate_left
        · intro wq hq
          have hc := hq.src.cTg HR.out
          first | (go_simp; done) | (go_simp; rfl)
        try simp only [Act.put, List.setIfInBounds_toArray, List.set_cons_zero, List.set_cons_succ]
        refine wpAnyH_take (i := 5) (oi := ⟨some 78, _, _, _, _, _⟩) (v := ?_) rfl (by kernel_rfl) (by kernel_rfl) (by kernel_rfl) (fun _ _ _ h => h) (Or.inl ⟨by rfl, ?_⟩) hS ?_
        rotate_left
        · intro wq hq
          first | (go_simp; done) | (go_simp; rfl)
        try simp only [Act.put, List.setIfInBounds_toArray, List.set_cons_zero, List.set_cons_succ]
        refine wpAnyH_take (i := 6) (oi := ⟨some 79, _, _, _, _, _⟩) (v := ?_) rfl (by kernel_rfl) (by kernel_rfl) (by kernel_rfl) (fun _ _ _ h => h) (Or.inl ⟨by rfl, ?_⟩) hS ?_
        rotate_left
        · intro wq hq
          first | (go_simp; done) | (go_simp; rfl)
        try simp only [Act.put, List.setIfInBounds_toArray, List.set_cons_zero, List.set_cons_succ]
        refine wpAnyH_take (i := 7) (oi := ⟨some 80, _, _, _, _, _⟩) (v := ?_) rfl (by kernel_rfl) (by kernel_rfl) (by kernel_rfl) (fun _ _ _ h => h) (Or.inl ⟨by rfl, ?_⟩) hS ?_
        rotate_left
        · intro wq hq
          have hc := hq.c0
          first | (go_simp; done) | (go_simp; rfl)
        try simp only [Act.put, List.setIfInBounds_toArray, List.set_cons_zero, List.set_cons_succ]
        refine wpAnyH_take (i := 8) (oi := ⟨some 81, _, _, _, _, _⟩) (v := ?_) rfl (by kernel_rfl) (by kernel_rfl) (by kernel_rfl) (fun _ _ _ h => h) (Or.inl ⟨by rfl, ?_⟩) hS ?_
        rotate_left
        · intro wq hq
          first | (go_simp; done) | (go_simp; rfl)
        try simp only [Act.put, List.setIfInBounds_toArray, List.set_cons_zero, List.set_cons_succ]
        have hA := HD.out.more
        generalize W5.drew = Wa at *
        have o2 : Oct [r.pn % 256, 0] := oct_two (by omega) (by omega)
        refine wpAnyH_ready (rs := [3, 9]) (by kernel_rfl) (by simp) ?_
        refine AllReadyH.cons (o := ⟨some 76, _, _, _, _, _⟩) rfl (fun K hK => ?_) (AllReadyH.cons (o := ⟨some 82, _, _, _, _, _⟩) rfl (fun K hK => ?_) AllReadyH.nil)
        · rw [if_pos (by rfl)]
          go_wp2_with fail
          refine (HN4.out _).mono ?_
          rintro e WhB1 ⟨g6, rfl, hg6, hr6, hB6⟩
          have hB1 := hA.below hB6
          have hShB1 := hB1.ki
          refine hK.out _ _ (hShB1) (fun hS => ?_)
          clear hK K
          try simp only [Act.put, List.setIfInBounds_toArray, List.set_cons_zero, List.set_cons_succ]
          refine wpAnyH_ready (rs := [4, 9]) (by kernel_rfl) (by simp) ?_
          refine AllReadyH.cons (o := ⟨some 77, _, _, _, _, _⟩) rfl (fun K hK => ?_) (AllReadyH.cons (o := ⟨some 82, _, _, _, _, _⟩) rfl (fun K hK => ?_) AllReadyH.nil)
          · rw [if_pos (by rfl)]
            refine app_wp6 _ _ rfl hB1.b hB1.lo (hr6) (by simp [HR.out.rd, HR.out.es, HR.out.mc, HR.out.pl, be_len] <;> omega) rfl rfl ?_
            intro vhC1 WhC1 ho hB hg hv
            have hC1 := hB1.app ho hB hg hv
            have hShC1 := hC1.ki
            clear ho hB
            refine hK.out _ _ (hShC1) (fun hS => ?_)
            clear hK K
            try simp only [Act.put, List.setIfInBounds_toArray, List.set_cons_zero, List.set_cons_succ]
            refine wpAnyH_ready (rs := [9]) (by kernel_rfl) (by simp) ?_
            refine AllReadyH.cons (o := ⟨some 82, _, _, _, _, _⟩) rfl (fun K hK => ?_) AllReadyH.nil
            rw [if_pos (by rfl)]
            go_wp2
            have hLhD1 := rd_lit WhC1 [r.pn % 256, 0] o2
            have hBhD1 := below_one WhC1 (.cells #[.int .u8 (r.pn % 256), .int .u8 0] 5)
            have hD1 := hC1.below hBhD1
            have hShD1 := hD1.ki
            refine hK.out _ _ (hShD1) (fun hS => ?_)
            clear hK K
            try simp only [Act.put, List.setIfInBounds_toArray, List.set_cons_zero, List.set_cons_succ]
            refine wpAnyH_ready (rs := [10]) (by kernel_rfl) (by simp) ?_
            refine AllReadyH.cons (o := ⟨some 83, _, _, _, _, _⟩) rfl (fun K hK => ?_) AllReadyH.nil
            rw [if_pos (by rfl)]
            refine app_wp6 _ _ rfl hD1.b hD1.lo (hLhD1) (by simp [HR.out.rd, HR.out.es, HR.out.mc, HR.out.pl, be_len] <;> omega) rfl rfl ?_
            intro vhE1 WhE1 ho hB hg hv
            have hE1 := hD1.app ho hB hg hv
            have hShE1 := hE1.ki
            clear ho hB
            refine hK.out _ _ (hShE1) (fun hS => ?_)
            clear hK K
            try simp only [Act.put, List.setIfInBounds_toArray, List.set_cons_zero, List.set_cons_succ]
            refine wpAnyH_take (i := 11) (oi := ⟨some 3, _, _, _, _, _⟩) (v := ?_) rfl (by kernel_rfl) (by kernel_rfl) (by kernel_rfl) (fun _ _ _ h => h) (Or.inl ⟨by rfl, ?_⟩) hS ?_
            rotate_left
            · intro wq hq
              first | (go_simp; done) | (go_simp; rfl)
            try simp only [Act.put, List.setIfInBounds_toArray, List.set_cons_zero, List.set_cons_succ]
            refine wpAnyH_done (by kernel_rfl) ?_ _
            have HX := Lib.hid hE1
            have hc0 : (0 : Int) ≤ 1 := by omega
            have hc17 : (17 : Int) ≤ (c4 : Int) := by omega
            go_wp2_with (at_builtin; refine app_bs2 rfl _ _ rfl HX.out.b HX.out.lo (HX.out.pl HR.out HX.out.gl) (by simp [HR.out.rd, HR.out.es, HR.out.mc, HR.out.pl, be_len] <;> omega) rfl rfl ?_)
            intro v9 W9 ho hB hg hv
            have HY := Lib.hid (HX.out.app ho hB hg hv)
            clear ho hB hg hv
            go_wp2_with fail
            go_meet
            rw [HF.out]
            first | exact HY.out.toKE | simpa using HY.out.toKE
          · rw [if_pos (by rfl)]
            go_wp2
            have hLhC1 := rd_lit WhB1 [r.pn % 256, 0] o2
            have hBhC1 := below_one WhB1 (.cells #[.int .u8 (r.pn % 256), .int .u8 0] 5)
            have hC1 := hB1.below hBhC1
            have hShC1 := hC1.ki
            refine hK.out _ _ (hShC1) (fun hS => ?_)
            clear hK K
            try simp only [Act.put, List.setIfInBounds_toArray, List.set_cons_zero, List.set_cons_succ]
            have hr7 := (hr6.below hBhC1).more hBhC1.size
            refine wpAnyH_ready (rs := [4]) (by kernel_rfl) (by simp) ?_
            refine AllReadyH.cons (o := ⟨some 77, _, _, _, _, _⟩) rfl (fun K hK => ?_) AllReadyH.nil
            rw [if_pos (by rfl)]
            refine app_wp6 _ _ rfl hC1.b hC1.lo (hr7) (by simp [HR.out.rd, HR.out.es, HR.out.mc, HR.out.pl, be_len] <;> omega) rfl rfl ?_
            intro vhD1 WhD1 ho hB hg hv
            have hD1 := hC1.app ho hB hg hv
            have hShD1 := hD1.ki
            have hl7 := rd_kept hLhC1 (hg.block WhB1.heap.size (by simp) (fun e => by have := (hB1.b.own.lt _ e.symm).2; omega)) (Nat.lt_of_lt_of_le (by simp) hg.size)
            clear ho hB
            refine hK.out _ _ (hShD1) (fun hS => ?_)
            clear hK K
            try simp only [Act.put, List.setIfInBounds_toArray, List.set_cons_zero, List.set_cons_succ]
            refine wpAnyH_ready (rs := [10]) (by kernel_rfl) (by simp) ?_
            refine AllReadyH.cons (o := ⟨some 83, _, _, _, _, _⟩) rfl (fun K hK => ?_) AllReadyH.nil
            rw [if_pos (by rfl)]
            refine app_wp6 _ _ rfl hD1.b hD1.lo (hl7) (by simp [HR.out.rd, HR.out.es, HR.out.mc, HR.out.pl, be_len] <;> omega) rfl rfl ?_
            intro vhE1 WhE1 ho hB hg hv
            have hE1 := hD1.app ho hB hg hv
            have hShE1 := hE1.ki
            clear ho hB
            refine hK.out _ _ (hShE1) (fun hS => ?_)
            clear hK K
            try simp only [Act.put, List.setIfInBounds_toArray, List.set_cons_zero, List.set_cons_succ]
            refine wpAnyH_take (i := 11) (oi := ⟨some 3, _, _, _, _, _⟩) (v := ?_) rfl (by kernel_rfl) (by kernel_rfl) (by kernel_rfl) (fun _ _ _ h => h) (Or.inl ⟨by rfl, ?_⟩) hS ?_
            rotate_left
            · intro wq hq
              first | (go_simp; done) | (go_simp; rfl)
            try simp only [Act.put, List.setIfInBounds_toArray, List.set_cons_zero, List.set_cons_succ]
            refine wpAnyH_done (by kernel_rfl) ?_ _
            have HX := Lib.hid hE1
            have hc0 : (0 : Int) ≤ 1 := by omega
            have hc17 : (17 : Int) ≤ (c4 : Int) := by omega
            go_wp2_with (at_builtin; refine app_bs2 rfl _ _ rfl HX.out.b HX.out.lo (HX.out.pl HR.out HX.out.gl) (by simp [HR.out.rd, HR.out.es, HR.out.mc, HR.out.pl, be_len] <;> omega) rfl rfl ?_)
            intro v9 W9 ho hB hg hv
            have HY := Lib.hid (HX.out.app ho hB hg hv)
            clear ho hB hg hv
            go_wp2_with fail
            go_meet
            rw [HF.out]
            first | exact HY.out.toKE | simpa using HY.out.toKE
        · rw [if_pos (by rfl)]
          go_wp2
          have hLhB1 := rd_lit Wa [r.pn % 256, 0] o2
          have hBhB1 := below_one Wa (.cells #[.int .u8 (r.pn % 256), .int .u8 0] 5)
          have hB1 := hA.below hBhB1
          have hShB1 := hB1.ki
          refine hK.out _ _ (hShB1) (fun hS => ?_)
          clear hK K
          try simp only [Act.put, List.setIfInBounds_toArray, List.set_cons_zero, List.set_cons_succ]
          refine wpAnyH_ready (rs := [3]) (by kernel_rfl) (by simp) ?_
          refine AllReadyH.cons (o := ⟨some 76, _, _, _, _, _⟩) rfl (fun K hK => ?_) AllReadyH.nil
          rw [if_pos (by rfl)]
          go_wp2_with fail
          refine (HN4.out _).mono ?_
          rintro e WhC1 ⟨g6, rfl, hg6, hr6, hB6⟩
          have hC1 := hB1.below hB6
          have hShC1 := hC1.ki
          refine hK.out _ _ (hShC1) (fun hS => ?_)
          clear hK K
          try simp only [Act.put, List.setIfInBounds_toArray, List.set_cons_zero, List.set_cons_succ]
          have hl6 := (hLhB1.below hB6).more hB6.size
          refine wpAnyH_ready (rs := [4]) (by kernel_rfl) (by simp) ?_
          refine AllReadyH.cons (o := ⟨some 77, _, _, _, _, _⟩) rfl (fun K hK => ?_) AllReadyH.nil
          rw [if_pos (by rfl)]
          refine app_wp6 _ _ rfl hC1.b hC1.lo (hr6) (by simp [HR.out.rd, HR.out.es, HR.out.mc, HR.out.pl, be_len] <;> omega) rfl rfl ?_
          intro vhD1 WhD1 ho hB hg hv
          have hD1 := hC1.app ho hB hg hv
          have hShD1 := hD1.ki
          have hl7 := rd_kept hl6 (hg.block Wa.heap.size (Nat.lt_of_lt_of_le (by simp) hB6.size) (fun e => by have := (hA.b.own.lt _ e.symm).2; omega)) (Nat.lt_of_lt_of_le (Nat.lt_of_lt_of_le (by simp) hB6.size) hg.size)
          clear ho hB
          refine hK.out _ _ (hShD1) (fun hS => ?_)
          clear hK K
          try simp only [Act.put, List.setIfInBounds_toArray, List.set_cons_zero, List.set_cons_succ]
          refine wpAnyH_ready (rs := [10]) (by kernel_rfl) (by simp) ?_
          refine AllReadyH.cons (o := ⟨some 83, _, _, _, _, _⟩) rfl (fun K hK => ?_) AllReadyH.nil
          rw [if_pos (by rfl)]
          refine app_wp6 _ _ rfl hD1.b hD1.lo (hl7) (by simp [HR.out.rd, HR.out.es, HR.out.mc, HR.out.pl, be_len] <;> omega) rfl rfl ?_
          intro vhE1 WhE1 ho hB hg hv
          have hE1 := hD1.app ho hB hg hv
          have hShE1 := hE1.ki
          clear ho hB
          refine hK.out _ _ (hShE1) (fun hS => ?_)
          clear hK K
          try simp only [Act.put, List.setIfInBounds_toArray, List.set_cons_zero, List.set_cons_succ]
          refine wpAnyH_take (i := 11) (oi := ⟨some 3, _, _, _, _, _⟩) (v := ?_) rfl (by kernel_rfl) (by kernel_rfl) (by kernel_rfl) (fun _ _ _ h => h) (Or.inl ⟨by rfl, ?_⟩) hS ?_
          rotate_left
          · intro wq hq
            first | (go_simp; done) | (go_simp; rfl)
          try simp only [Act.put, List.setIfInBounds_toArray, List.set_cons_zero, List.set_cons_succ]
          refine wpAnyH_done (by kernel_rfl) ?_ _
          have HX := Lib.hid hE1
          have hc0 : (0 : Int) ≤ 1 := by omega
          have hc17 : (17 : Int) ≤ (c4 : Int) := by omega
          go_wp2_with (at_builtin; refine app_bs2 rfl _ _ rfl HX.out.b HX.out.lo (HX.out.pl HR.out HX.out.gl) (by simp [HR.out.rd, HR.out.es, HR.out.mc, HR.out.pl, be_len] <;> omega) rfl rfl ?_)
          intro v9 W9 ho hB hg hv
          have HY := Lib.hid (HX.out.app ho hB hg hv)
          clear ho hB hg hv
          go_wp2_with fail
          go_meet
          rw [HF.out]
          first | exact HY.out.toKE | simpa using HY.out.toKE
      · have HF : Hid (keyR r = ([r.k % 256] ++ r.rd) ++ be 4 r.tg ++ [r.pn % 256, 1] ++ r.pl) := Lib.hid (by unfold keyR; rw [hv6]; rw [if_neg (by omega), if_neg (by omega), if_neg (by omega), if_neg (by omega), if_pos (by omega)]; simp)
        have e1 : (r.k == 1) = false := by rw [beq_eq_false_iff_ne]; omega
        have e2 : (r.k == 2) = false := by rw [beq_eq_false_iff_ne]; omega
        have e3 : (r.k == 3) = false := by rw [beq_eq_false_iff_ne]; omega
        have e4 : (r.k == 4) = false := by rw [beq_eq_false_iff_ne]; omega
        have e5 : (r.k == 5) = true := by rw [beq_iff_eq]; omega
        clear h1 h2 h3 h4 h5
        have hcV := HD.out.src.cV6 HR.out
        rw [hv6] at hcV
        clear hv6
        go_upto_region 13 with fail
        clear e1 e2 e3 e4 e5
        go_wp2
        refine wp_region_held_drew (S := fun W => KI w W r g) (by kernel_rfl) (HD.out.more.ki) (fun hS => ?_)
        refine wpAnyH_take (i := 0) (oi := ⟨some 73, _, _, _, _, _⟩) (v := ?_) rfl (by kernel_rfl) (by kernel_rfl) (by kernel_rfl) (fun _ _ _ h => h) (Or.inl ⟨by rfl, ?_⟩) hS ?_
        rotate_left
        · intro wq hq
          first | (go_simp; done) | (go_simp; rfl)
        try simp only [Act.put, List.setIfInBounds_toArray, List.set_cons_zero, List.set_cons_succ]
        refine wpAnyH_take (i := 1) (oi := ⟨some 74, _, _, _, _, _⟩) (v := ?_) rfl (by kernel_rfl) (by kernel_rfl) (by kernel_rfl) (fun _ _ _ h => h) (Or.inl ⟨by rfl, ?_⟩) hS ?_
        rotate_left
        · intro wq hq
          first | (go_simp; done) | (go_simp; rfl)
        try simp only [Act.put, List.setIfInBounds_toArray, List.set_cons_zero, List.set_cons_succ]
        refine wpAnyH_take (i := 2) (oi := ⟨some 75, _, _, _, _, _⟩) (v := ?_) rfl (by kernel_rfl) (by kernel_rfl) (by kernel_rfl) (fun _ _ _ h => h) (Or.inl ⟨by rfl, ?_⟩) hS ?_
        rotate_left
        · intro wq hq
          have hc := hq.src.cTg HR.out
          first | (go_simp; done) | (go_simp; rfl)
        try simp only [Act.put, List.setIfInBounds_toArray, List.set_cons_zero, List.set_cons_succ]
        refine wpAnyH_take (i := 5) (oi := ⟨some 78, _, _, _, _, _⟩) (v := ?_) rfl (by kernel_rfl) (by kernel_rfl) (by kernel_rfl) (fun _ _ _ h => h) (Or.inl ⟨by rfl, ?_⟩) hS ?_
        rotate_left
        · intro wq hq
          first | (go_simp; done) | (go_simp; rfl)
        try simp only [Act.put, List.setIfInBounds_toArray, List.set_cons_zero, List.set_cons_succ]
        refine wpAnyH_take (i := 6) (oi := ⟨some 79, _, _, _, _, _⟩) (v := ?_) rfl (by kernel_rfl) (by kernel_rfl) (by kernel_rfl) (fun _ _ _ h => h) (Or.inl ⟨by rfl, ?_⟩) hS ?_
        rotate_left
        · intro wq hq
          first | (go_simp; done) | (go_simp; rfl)
        try simp only [Act.put, List.setIfInBounds_toArray, List.set_cons_zero, List.set_cons_succ]
        refine wpAnyH_take (i := 7) (oi := ⟨some 80, _, _, _, _, _⟩) (v := ?_) rfl (by kernel_rfl) (by kernel_rfl) (by kernel_rfl) (fun _ _ _ h => h) (Or.inl ⟨by rfl, ?_⟩) hS ?_
        rotate_left
        · intro wq hq
          have hc := hq.c0
          first | (go_simp; done) | (go_simp; rfl)
        try simp only [Act.put, List.setIfInBounds_toArray, List.set_cons_zero, List.set_cons_succ]
        refine wpAnyH_take (i := 8) (oi := ⟨some 81, _, _, _, _, _⟩) (v := ?_) rfl (by kernel_rfl) (by kernel_rfl) (by kernel_rfl) (fun _ _ _ h => h) (Or.inl ⟨by rfl, ?_⟩) hS ?_
        rotate_left
        · intro wq hq
          first | (go_simp; done) | (go_simp; rfl)
        try simp only [Act.put, List.setIfInBounds_toArray, List.set_cons_zero, List.set_cons_succ]
        have hA := HD.out.more
        generalize W5.drew = Wa at *
        have o2 : Oct [r.pn % 256, 1] := oct_two (by omega) (by omega)
        refine wpAnyH_ready (rs := [3, 9]) (by kernel_rfl) (by simp) ?_
        refine AllReadyH.cons (o := ⟨some 76, _, _, _, _, _⟩) rfl (fun K hK => ?_) (AllReadyH.cons (o := ⟨some 82, _, _, _, _, _⟩) rfl (fun K hK => ?_) AllReadyH.nil)
        · rw [if_pos (by rfl)]
          go_wp2_with fail
          refine (HN4.out _).mono ?_
          rintro e WhB1 ⟨g6, rfl, hg6, hr6, hB6⟩
          have hB1 := hA.below hB6
          have hShB1 := hB1.ki
          refine hK.out _ _ (hShB1) (fun hS => ?_)
          clear hK K
          try simp only [Act.put, List.setIfInBounds_toArray, List.set_cons_zero, List.set_cons_succ]
          refine wpAnyH_ready (rs := [4, 9]) (by kernel_rfl) (by simp) ?_
          refine AllReadyH.cons (o := ⟨some 77, _, _, _, _, _⟩) rfl (fun K hK => ?_) (AllReadyH.cons (o := ⟨some 82, _, _, _, _, _⟩) rfl (fun K hK => ?_) AllReadyH.nil)
          · rw [if_pos (by rfl)]
            refine app_wp6 _ _ rfl hB1.b hB1.lo (hr6) (by simp [HR.out.rd, HR.out.es, HR.out.mc, HR.out.pl, be_len] <;> omega) rfl rfl ?_
            intro vhC1 WhC1 ho hB hg hv
            have hC1 := hB1.app ho hB hg hv
            have hShC1 := hC1.ki
            clear ho hB
            refine hK.out _ _ (hShC1) (fun hS => ?_)
            clear hK K
            try simp only [Act.put, List.setIfInBounds_toArray, List.set_cons_zero, List.set_cons_succ]
            refine wpAnyH_ready (rs := [9]) (by kernel_rfl) (by simp) ?_
            refine AllReadyH.cons (o := ⟨some 82, _, _, _, _, _⟩) rfl (fun K hK => ?_) AllReadyH.nil
            rw [if_pos (by rfl)]
            go_wp2
            have hLhD1 := rd_lit WhC1 [r.pn % 256, 1] o2
            have hBhD1 := below_one WhC1 (.cells #[.int .u8 (r.pn % 256), .int .u8 1] 5)
            have hD1 := hC1.below hBhD1
            have hShD1 := hD1.ki
            refine hK.out _ _ (hShD1) (fun hS => ?_)
            clear hK K
            try simp only [Act.put, List.setIfInBounds_toArray, List.set_cons_zero, List.set_cons_succ]
            refine wpAnyH_ready (rs := [10]) (by kernel_rfl) (by simp) ?_
            refine AllReadyH.cons (o := ⟨some 83, _, _, _, _, _⟩) rfl (fun K hK => ?_) AllReadyH.nil
            rw [if_pos (by rfl)]
            refine app_wp6 _ _ rfl hD1.b hD1.lo (hLhD1) (by simp [HR.out.rd, HR.out.es, HR.out.mc, HR.out.pl, be_len] <;> omega) rfl rfl ?_
            intro vhE1 WhE1 ho hB hg hv
            have hE1 := hD1.app ho hB hg hv
            have hShE1 := hE1.ki
            clear ho hB
            refine hK.out _ _ (hShE1) (fun hS => ?_)
            clear hK K
            try simp only [Act.put, List.setIfInBounds_toArray, List.set_cons_zero, List.set_cons_succ]
            refine wpAnyH_take (i := 11) (oi := ⟨some 3, _, _, _, _, _⟩) (v := ?_) rfl (by kernel_rfl) (by kernel_rfl) (by kernel_rfl) (fun _ _ _ h => h) (Or.inl ⟨by rfl, ?_⟩) hS ?_
            rotate_left
            · intro wq hq
              first | (go_simp; done) | (go_simp; rfl)
            try simp only [Act.put, List.setIfInBounds_toArray, List.set_cons_zero, List.set_cons_succ]
            refine wpAnyH_done (by kernel_rfl) ?_ _
            have HX := Lib.hid hE1
            have hc0 : (0 : Int) ≤ 1 := by omega
            have hc17 : (17 : Int) ≤ (c4 : Int) := by omega
            go_wp2_with (at_builtin; refine app_bs2 rfl _ _ rfl HX.out.b HX.out.lo (HX.out.pl HR.out HX.out.gl) (by simp [HR.out.rd, HR.out.es, HR.out.mc, HR.out.pl, be_len] <;> omega) rfl rfl ?_)
            intro v9 W9 ho hB hg hv
            have HY := Lib.hid (HX.out.app ho hB hg hv)
            clear ho hB hg hv
            go_wp2_with fail
            go_meet
            rw [HF.out]
            first | exact HY.out.toKE | simpa using HY.out.toKE
          · rw [if_pos (by rfl)]
            go_wp2
            have hLhC1 := rd_lit WhB1 [r.pn % 256, 1] o2
            have hBhC1 := below_one WhB1 (.cells #[.int .u8 (r.pn % 256), .int .u8 1] 5)
            have hC1 := hB1.below hBhC1
            have hShC1 := hC1.ki
            refine hK.out _ _ (hShC1) (fun hS => ?_)
            clear hK K
            try simp only [Act.put, List.setIfInBounds_toArray, List.set_cons_zero, List.set_cons_succ]
            have hr7 := (hr6.below hBhC1).more hBhC1.size
            refine wpAnyH_ready (rs := [4]) (by kernel_rfl) (by simp) ?_
            refine AllReadyH.cons (o := ⟨some 77, _, _, _, _, _⟩) rfl (fun K hK => ?_) AllReadyH.nil
            rw [if_pos (by rfl)]
            refine app_wp6 _ _ rfl hC1.b hC1.lo (hr7) (by simp [HR.out.rd, HR.out.es, HR.out.mc, HR.out.pl, be_len] <;> omega) rfl rfl ?_
            intro vhD1 WhD1 ho hB hg hv
            have hD1 := hC1.app ho hB hg hv
            have hShD1 := hD1.ki
            have hl7 := rd_kept hLhC1 (hg.block WhB1.heap.size (by simp) (fun e => by have := (hB1.b.own.lt _ e.symm).2; omega)) (Nat.lt_of_lt_of_le (by simp) hg.size)
            clear ho hB
            refine hK.out _ _ (hShD1) (fun hS => ?_)
            clear hK K
            try simp only [Act.put, List.setIfInBounds_toArray, List.set_cons_zero, List.set_cons_succ]
            refine wpAnyH_ready (rs := [10]) (by kernel_rfl) (by simp) ?_
            refine AllReadyH.cons (o := ⟨some 83, _, _, _, _, _⟩) rfl (fun K hK => ?_) AllReadyH.nil
            rw [if_pos (by rfl)]
            refine app_wp6 _ _ rfl hD1.b hD1.lo (hl7) (by simp [HR.out.rd, HR.out.es, HR.out.mc, HR.out.pl, be_len] <;> omega) rfl rfl ?_
            intro vhE1 WhE1 ho hB hg hv
            have hE1 := hD1.app ho hB hg hv
            have hShE1 := hE1.ki
            clear ho hB
            refine hK.out _ _ (hShE1) (fun hS => ?_)
            clear hK K
            try simp only [Act.put, List.setIfInBounds_toArray, List.set_cons_zero, List.set_cons_succ]
            refine wpAnyH_take (i := 11) (oi := ⟨some 3, _, _, _, _, _⟩) (v := ?_) rfl (by kernel_rfl) (by kernel_rfl) (by kernel_rfl) (fun _ _ _ h => h) (Or.inl ⟨by rfl, ?_⟩) hS ?_
            rotate_left
            · intro wq hq
              first | (go_simp; done) | (go_simp; rfl)
            try simp only [Act.put, List.setIfInBounds_toArray, List.set_cons_zero, List.set_cons_succ]
            refine wpAnyH_done (by kernel_rfl) ?_ _
            have HX := Lib.hid hE1
            have hc0 : (0 : Int) ≤ 1 := by omega
            have hc17 : (17 : Int) ≤ (c4 : Int) := by omega
            go_wp2_with (at_builtin; refine app_bs2 rfl _ _ rfl HX.out.b HX.out.lo (HX.out.pl HR.out HX.out.gl) (by simp [HR.out.rd, HR.out.es, HR.out.mc, HR.out.pl, be_len] <;> omega) rfl rfl ?_)
            intro v9 W9 ho hB hg hv
            have HY := Lib.hid (HX.out.app ho hB hg hv)
            clear ho hB hg hv
            go_wp2_with fail
            go_meet
            rw [HF.out]
            first | exact HY.out.toKE | simpa using HY.out.toKE
        · rw [if_pos (by rfl)]
          go_wp2
          have hLhB1 := rd_lit Wa [r.pn % 256, 1] o2
          have hBhB1 := below_one Wa (.cells #[.int .u8 (r.pn % 256), .int .u8 1] 5)
          have hB1 := hA.below hBhB1
          have hShB1 := hB1.ki
          refine hK.out _ _ (hShB1) (fun hS => ?_)
          clear hK K
          try simp only [Act.put, List.setIfInBounds_toArray, List.set_cons_zero, List.set_cons_succ]
          refine wpAnyH_ready (rs := [3]) (by kernel_rfl) (by simp) ?_
          refine AllReadyH.cons (o := ⟨some 76, _, _, _, _, _⟩) rfl (fun K hK => ?_) AllReadyH.nil
          rw [if_pos (by rfl)]
          go_wp2_with fail
          refine (HN4.out _).mono ?_
          rintro e WhC1 ⟨g6, rfl, hg6, hr6, hB6⟩
          have hC1 := hB1.below hB6
          have hShC1 := hC1.ki
          refine hK.out _ _ (hShC1) (fun hS => ?_)
          clear hK K
          try simp only [Act.put, List.setIfInBounds_toArray, List.set_cons_zero, List.set_cons_succ]
          have hl6 := (hLhB1.below hB6).more hB6.size
          refine wpAnyH_ready (rs := [4]) (by kernel_rfl) (by simp) ?_
          refine AllReadyH.cons (o := ⟨some 77, _, _, _, _, _⟩) rfl (fun K hK => ?_) AllReadyH.nil
          rw [if_pos (by rfl)]
          refine app_wp6 _ _ rfl hC1.b hC1.lo (hr6) (by simp [HR.out.rd, HR.out.es, HR.out.mc, HR.out.pl, be_len] <;> omega) rfl rfl ?_
          intro vhD1 WhD1 ho hB hg hv
          have hD1 := hC1.app ho hB hg hv
          have hShD1 := hD1.ki
          have hl7 := rd_kept hl6 (hg.block Wa.heap.size (Nat.lt_of_lt_of_le (by simp) hB6.size) (fun e => by have := (hA.b.own.lt _ e.symm).2; omega)) (Nat.lt_of_lt_of_le (Nat.lt_of_lt_of_le (by simp) hB6.size) hg.size)
          clear ho hB
          refine hK.out _ _ (hShD1) (fun hS => ?_)
          clear hK K
          try simp only [Act.put, List.setIfInBounds_toArray, List.set_cons_zero, List.set_cons_succ]
          refine wpAnyH_ready (rs := [10]) (by kernel_rfl) (by simp) ?_
          refine AllReadyH.cons (o := ⟨some 83, _, _, _, _, _⟩) rfl (fun K hK => ?_) AllReadyH.nil
          rw [if_pos (by rfl)]
          refine app_wp6 _ _ rfl hD1.b hD1.lo (hl7) (by simp [HR.out.rd, HR.out.es, HR.out.mc, HR.out.pl, be_len] <;> omega) rfl rfl ?_
          intro vhE1 WhE1 ho hB hg hv
          have hE1 := hD1.app ho hB hg hv
          have hShE1 := hE1.ki
          clear ho hB
          refine hK.out _ _ (hShE1) (fun hS => ?_)
          clear hK K
          try simp only [Act.put, List.setIfInBounds_toArray, List.set_cons_zero, List.set_cons_succ]
          refine wpAnyH_take (i := 11) (oi := ⟨some 3, _, _, _, _, _⟩) (v := ?_) rfl (by kernel_rfl) (by kernel_rfl) (by kernel_rfl) (fun _ _ _ h => h) (Or.inl ⟨by rfl, ?_⟩) hS ?_
          rotate_left
          · intro wq hq
            first | (go_simp; done) | (go_simp; rfl)
          try simp only [Act.put, List.setIfInBounds_toArray, List.set_cons_zero, List.set_cons_succ]
          refine wpAnyH_done (by kernel_rfl) ?_ _
          have HX := Lib.hid hE1
          have hc0 : (0 : Int) ≤ 1 := by omega
          have hc17 : (17 : Int) ≤ (c4 : Int) := by omega
          go_wp2_with (at_builtin; refine app_bs2 rfl _ _ rfl HX.out.b HX.out.lo (HX.out.pl HR.out HX.out.gl) (by simp [HR.out.rd, HR.out.es, HR.out.mc, HR.out.pl, be_len] <;> omega) rfl rfl ?_)
          intro v9 W9 ho hB hg hv
          have HY := Lib.hid (HX.out.app ho hB hg hv)
          clear ho hB hg hv
          go_wp2_with fail
          go_meet
          rw [HF.out]
          first | exact HY.out.toKE | simpa using HY.out.toKE
    have HF : Hid (keyR r = ([r.k % 256] ++ r.rd)) := Lib.hid (by unfold keyR; rw [if_neg (by omega), if_neg (by omega), if_neg (by omega), if_neg (by omega), if_neg (by omega)]; simp)
    have e1 : (r.k == 1) = false := by rw [beq_eq_false_iff_ne]; omega
    have e2 : (r.k == 2) = false := by rw [beq_eq_false_iff_ne]; omega
    have e3 : (r.k == 3) = false := by rw [beq_eq_false_iff_ne]; omega
    have e4 : (r.k == 4) = false := by rw [beq_eq_false_iff_ne]; omega
    have e5 : (r.k == 5) = false := by rw [beq_eq_false_iff_ne]; omega
    clear h1 h2 h3 h4 h5
    go_wp2_with fail
    go_meet
    rw [HF.out]
    first | exact HD.out.toKE | simpa using HD.out.toKE
  case rest =>
    have HK := Lib.hid hcut
    clear hcut
    obtain ⟨g, c, rfl, hgc, hg1, hg2, hgR⟩ := own_rd HK.out.b (by unfold keyR; simp)
    have HLow := Lib.hid HK.out.low
    have HO := Lib.hid HK.out.b.oct
    clear HK
    obtain ⟨l, hl⟩ : ∃ l, l = keyR r := ⟨_, rfl⟩
    have HKe := Lib.hid hl
    rw [← hl] at hle hgc hgR HO ⊢
    clear hl
    obtain ⟨n, hn⟩ : ∃ n, n = l.length := ⟨_, rfl⟩
    rw [← hn] at hle hgc hgR ⊢
    have HLen := Lib.hid hn
    have HRd := Lib.hid hgR
    clear hn hgR hgc hg1
    have m2 : (n : Int) * 2 = ((2 * n : Nat) : Int) := by omega
    have m3 : 2 * (n : Int) = ((2 * n : Nat) : Int) := by omega
    have hn2 : 2 * n ≤ 200 := by omega
    have HMkA : ∀ m : Nat, m ≤ 1000 → (Instr.makeSlice 22 (.int .i64 0) (.int .i64 (m : Int))).run Try.prog wc = .ok (.slice (some ⟨wc.heap.size, 0, none⟩) 0 m) (wc.alloc (.cells (madeCells #[.int .u8 0] m) 5)) := fun m hm => by
      obtain ⟨i0, hi, hz0, hz1, hz2⟩ := info_parts info_byte
      have h := run_make (P := Try.prog) wc 22 5 i0 (.int .u8 0) Try.underlying22 hi hz0 .i64 .i64 0 (m : Int) (by omega) (by omega) (by rw [hz2]; omega) (by omega)
      rw [Int.toNat_natCast] at h
      simpa [hz1, Value.cells] using h
    have HMk := Lib.hid (HMkA (2 * n) (by omega))
    clear HMkA
    have HOwnA : ∀ m : Nat, m ≤ 1000 → OwnB wc.heap.size (wc.alloc (.cells (madeCells #[.int .u8 0] m) 5)) (.slice (some ⟨wc.heap.size, 0, none⟩) 0 m) [] := fun m hm => ⟨⟨rfl, Or.inr ⟨wc.heap.size, m, (madeCells #[.int .u8 0] m), rfl, Nat.le_refl _, Blk.new wc 5 _, Nat.zero_le _, by unfold maxLen; omega, by simp [madeCells], by simp⟩⟩, fun x h => by cases h⟩
    have HOwn : Hid (OwnB wc.heap.size (wc.alloc (.cells (madeCells #[.int .u8 0] (2 * n)) 5)) (.slice (some ⟨wc.heap.size, 0, none⟩) 0 (2 * n)) (hexS (l.take 0))) := Lib.hid (HOwnA (2 * n) (by omega))
    clear HOwnA
    have HB0 := Lib.hid (below_one wc (.cells (madeCells #[.int .u8 0] (2 * n)) 5))
    have hmk := HMk.out
    clear HMk
    generalize h2n : 2 * n = n2 at *
    clear h2n
    go_wp2
    clear hmk m2 m3
    go_loopw [6, 8, 94] (fun v _ i wr => ∃ k : Nat, k ≤ n ∧ i = .int .i64 k ∧ OwnB wc.heap.size wr v (hexS (l.take k)) ∧ Below wc.heap.size wc wr) (fun _ _ i _ => n - (intOf i).toNat)
    case atStart => exact ⟨0, by omega, rfl, HOwn.out, HB0.out⟩
    case round =>
      obtain ⟨k, hk, rfl, ho, hb⟩ := hrel
      have HW := Lib.hid ho
      have HB := Lib.hid hb
      clear ho hb HOwn HB0
      by_cases hlt : k < n
      · have hkl : k < l.length := by have := HLen.out; omega
        have hcx : wr.cell? ⟨g, k, none⟩ = some (.int .u8 (l.getD k 0)) := (HB.out.cell (p := ⟨g, k, none⟩) hg2).trans (by
          obtain ⟨b, o, e, _, hc⟩ := HRd.out.at_ (by omega)
          injection e with e
          injection e with e1 e2 _
          subst e1 e2
          have := hc k hlt
          rwa [Nat.zero_add] at this)
        have hx := HO.out.getD k
        have HStep := Lib.hid (hexS_step hkl)
        have hpl : (hexS (l.take k)).length = 2 * k := by rw [hexS_len, List.length_take]; omega
        generalize l.getD k 0 = x at *
        generalize hexS (l.take k) = P at *
        obtain ⟨d, hd⟩ := Int.eq_ofNat_of_zero_le (show 0 ≤ x / 16 by omega)
        obtain ⟨e, he⟩ := Int.eq_ofNat_of_zero_le (show 0 ≤ x % 16 by omega)
        have hd16 : d < 16 := by omega
        have he16 : e < 16 := by omega
        have HXD := Lib.hid (hex_atN ⟨d, hd16⟩)
        have HXE := Lib.hid (hex_atN ⟨e, he16⟩)
        have HOd : Hid (Oct [hexN d, hexN e]) := Lib.hid (fun y hy => by
          simp only [List.mem_cons, List.mem_nil_iff, or_false] at hy
          rcases hy with rfl | rfl
          · exact hexN_bd _ (by omega) (by omega)
          · exact hexN_bd _ (by omega) (by omega))
        have hq1 : x.tdiv 16 = (d : Int) := by rw [Int.tdiv_eq_ediv_of_nonneg hx.1]; exact hd
        have hq2 : x.tmod 16 = (e : Int) := by rw [Int.tmod_eq_emod_of_nonneg hx.1]; exact he
        have hwd : IntKind.u8.wrap (d : Int) = (d : Int) := by rw [IntKind.wrap_u8]; omega
        have hwe : IntKind.u8.wrap (e : Int) = (e : Int) := by rw [IntKind.wrap_u8]; omega
        rw [hd, he] at HStep
        have hdI : (d : Int) < 16 := by omega
        have heI : (e : Int) < 16 := by omega
        have hk0 : (0 : Int) ≤ (k : Int) := by omega
        have hk1 : (k : Int) < (n : Int) := by omega
        have HPl := Lib.hid hpl
        clear hd he hpl hkl
        generalize u6 = vv at *
        generalize hwr : wr = wz at *
        clear hwr
        go_wp2
        refine wp_region_held_drew (S := fun w' => Below wc.heap.size wc w') (by kernel_rfl) (below_drewN HB.out 1) (fun hS => ?_)
        refine wpAnyH_take (i := 0) (oi := ⟨some 98, _, _, _, _, _⟩) (v := ?_) rfl (by kernel_rfl) (by kernel_rfl) (by kernel_rfl) (fun _ _ _ h => h) (Or.inl ⟨by rfl, ?_⟩) hS ?_
        rotate_left
        · intro wq hq
          first | (go_simp; done) | (go_simp; rfl)
        try simp only [Act.put, List.setIfInBounds_toArray, List.set_cons_zero, List.set_cons_succ]
        refine wpAnyH_take (i := 1) (oi := ⟨some 99, _, _, _, _, _⟩) (v := ?_) rfl (by kernel_rfl) (by kernel_rfl) (by kernel_rfl) (fun _ _ _ h => h) (Or.inl ⟨by rfl, ?_⟩) hS ?_
        rotate_left
        · intro wq hq
          first | (go_simp; done) | (go_simp; rfl)
        try simp only [Act.put, List.setIfInBounds_toArray, List.set_cons_zero, List.set_cons_succ]
        refine wpAnyH_take (i := 2) (oi := ⟨some 100, _, _, _, _, _⟩) (v := ?_) rfl (by kernel_rfl) (by kernel_rfl) (by kernel_rfl) (fun _ _ _ h => h) (Or.inl ⟨by rfl, ?_⟩) hS ?_
        rotate_left
        · intro wq hq
          first | (go_simp; done) | (go_simp; rfl)
        try simp only [Act.put, List.setIfInBounds_toArray, List.set_cons_zero, List.set_cons_succ]
        refine wpAnyH_take (i := 3) (oi := ⟨some 101, _, _, _, _, _⟩) (v := ?_) rfl (by kernel_rfl) (by kernel_rfl) (by kernel_rfl) (fun _ _ _ h => h) (Or.inl ⟨by rfl, ?_⟩) hS ?_
        rotate_left
        · intro wq hq
          first | (go_simp; done) | (go_simp; rfl)
        try simp only [Act.put, List.setIfInBounds_toArray, List.set_cons_zero, List.set_cons_succ]
        refine wpAnyH_take (i := 4) (oi := ⟨some 102, _, _, _, _, _⟩) (v := ?_) rfl (by kernel_rfl) (by kernel_rfl) (by kernel_rfl) (fun _ _ _ h => h) (Or.inl ⟨by rfl, ?_⟩) hS ?_
        rotate_left
        · intro wq hq
          first | (go_simp; done) | (go_simp; rfl)
        try simp only [Act.put, List.setIfInBounds_toArray, List.set_cons_zero, List.set_cons_succ]
        refine wpAnyH_take (i := 5) (oi := ⟨some 103, _, _, _, _, _⟩) (v := ?_) rfl (by kernel_rfl) (by kernel_rfl) (by kernel_rfl) (fun _ _ _ h => h) (Or.inl ⟨by rfl, ?_⟩) hS ?_
        rotate_left
        · intro wq hq
          first | (go_simp; done) | (go_simp; rfl)
        try simp only [Act.put, List.setIfInBounds_toArray, List.set_cons_zero, List.set_cons_succ]
        refine wpAnyH_take (i := 6) (oi := ⟨some 104, _, _, _, _, _⟩) (v := ?_) rfl (by kernel_rfl) (by kernel_rfl) (by kernel_rfl) (fun _ _ _ h => h) (Or.inl ⟨by rfl, ?_⟩) hS ?_
        rotate_left
        · intro wq hq
          first | (go_simp; done) | (go_simp; rfl)
        try simp only [Act.put, List.setIfInBounds_toArray, List.set_cons_zero, List.set_cons_succ]
        refine wpAnyH_ready (rs := [7]) (by kernel_rfl) (by simp) ?_
        refine AllReadyH.cons (o := ⟨some 105, _, _, _, _, _⟩) rfl (fun K hK => ?_) AllReadyH.nil
        rw [if_pos (by rfl)]
        have hL := rd_lit wz.drew [hexN d, hexN e] HOd.out
        rw [← HXD.out, ← HXE.out] at hL
        go_wp2
        refine hK.out _ _ ((below_drewN HB.out 1).alloc (HB.out.size) _) (fun hS => ?_)
        clear hK K
        try simp only [Act.put, List.setIfInBounds_toArray, List.set_cons_zero, List.set_cons_succ]
        refine wpAnyH_ready (rs := [8]) (by kernel_rfl) (by simp) ?_
        refine AllReadyH.cons (o := ⟨some 106, _, _, _, _, _⟩) rfl (fun K hK => ?_) AllReadyH.nil
        rw [if_pos (by rfl)]
        refine app_wp6 _ _ rfl (((HW.out.below (below_drewN (Below.refl _ _) 1)).below (below_one wz.drew _))) (by have := HB.out.size; simp; omega) hL (by simp [HPl.out] <;> omega) rfl rfl ?_
        intro v2 w2 ho2 hb2 _ _
        rw [HXD.out, HXE.out, ← HStep.out] at ho2
        have HO2 := Lib.hid ho2
        have HB2 := Lib.hid (((below_drewN HB.out 1).alloc (HB.out.size) _).trans hb2)
        clear ho2 hb2
        refine hK.out _ _ HB2.out (fun hS => ?_)
        clear hK K
        try simp only [Act.put, List.setIfInBounds_toArray, List.set_cons_zero, List.set_cons_succ]
        refine wpAnyH_take (i := 9) (oi := ⟨some 6, _, _, _, _, _⟩) (v := ?_) rfl (by kernel_rfl) (by kernel_rfl) (by kernel_rfl) (fun _ _ _ h => h) (Or.inl ⟨by rfl, ?_⟩) hS ?_
        rotate_left
        · intro wq hq
          first | (go_simp; done) | (go_simp; rfl)
        try simp only [Act.put, List.setIfInBounds_toArray, List.set_cons_zero, List.set_cons_succ]
        refine wpAnyH_done (by kernel_rfl) ?_ _
        clear hS
        go_wp2
        exact ⟨⟨k + 1, by omega, by go_num, HO2.out, HB2.out⟩, by simp [intOf]; omega⟩
      · obtain rfl : k = n := by omega
        obtain ⟨A2, c2, hv, _, hR2, _⟩ := HW.out.at_
        rw [List.take_of_length_le (by have := HLen.out; omega)] at hv hR2
        subst hv
        have hconv := run_conv_rd (P := Try.prog) wr 22 9 5 Try.underlying22 Try.underlying5 Try.underlying9 c2 hR2
        have HEnd := Lib.hid (HLow.out.trans (HB.out.mono HLow.out.size))
        clear hR2 HW
        generalize (hexS l).length = m2 at *
        go_wp2
        go_ret
        exact ⟨by rw [← HKe.out]; rfl, HEnd.out⟩
end Go.Proofs.Ytickcfcncpnaiaa
namespace Go.Proofs.Ytickcfcncpnaiaa
open Go.RowKit
set_option maxRecDepth 100000
set_option linter.unusedSimpArgs false
set_option linter.unusedVariables false

theorem less_cb : ∀ a b : List UInt8, Op.bytesLess a b = decide (Lib.compareBytes a b = -1)
  | [], [] => by simp [Op.bytesLess, Lib.compareBytes]
  | [], _ :: _ => by simp [Op.bytesLess, Lib.compareBytes]
  | _ :: _, [] => by simp [Op.bytesLess, Lib.compareBytes]
  | x :: a, y :: b => by
    unfold Op.bytesLess Lib.compareBytes
    rw [less_cb a b]
    by_cases h1 : x < y
    · simp [h1]
    · rw [if_neg h1]
      by_cases h2 : y < x
      · have : ¬ x = y := fun e => by subst e; exact absurd h2 (UInt8.lt_irrefl x)
        simp [h1, h2, this]
      · have : x = y := u8_eq h1 h2
        subst this
        simp [h1]
theorem less_key (a b : Rt) : Op.bytesLess (strOfNums (hexS (keyR a))).toList (strOfNums (hexS (keyR b))).toList = decide (cmpK a b = -1) := by
  rw [ByteArray.toList_eq, ByteArray.toList_eq, less_cb]
  rfl
theorem more_key (a b : Rt) : (!Op.bytesLess (strOfNums (hexS (keyR a))).toList (strOfNums (hexS (keyR b))).toList && !((strOfNums (hexS (keyR a))).toList == (strOfNums (hexS (keyR b))).toList)) = decide (cmpK a b = 1) := by
  rw [less_key]
  have h0 : ((strOfNums (hexS (keyR a))).toList == (strOfNums (hexS (keyR b))).toList) = decide (cmpK a b = 0) := by
    rw [Bool.eq_iff_iff, beq_iff_eq, decide_eq_true_iff, ByteArray.toList_eq, ByteArray.toList_eq]
    exact (cb_zero _ _).symm
  rw [h0]
  have := cb_range (ktext a).data.toList (ktext b).data.toList
  change cmpK a b = -1 ∨ cmpK a b = 0 ∨ cmpK a b = 1 at this
  generalize cmpK a b = z at *
  rcases this with rfl | rfl | rfl <;> rfl
set_option maxHeartbeats 4000000 in
theorem rcompare_is (w : World) (a b : Rt) (ha : RtOk a) (hb : RtOk b) : Calls Try.prog 21 #[.agg (rtc a).toArray, .agg (rtc b).toArray] w fun e w' => e = .returned (.int .i64 (cmpK a b)) ∧ Below w.heap.size w w' := by
  have H := Lib.hid (TwoR.new w ha hb)
  have HA := Lib.hid ha
  have HB := Lib.hid hb
  have hl := less_key a b
  have hm := more_key a b
  have HR := Lib.hid (cb_range (ktext a).data.toList (ktext b).data.toList)
  change Hid (cmpK a b = -1 ∨ cmpK a b = 0 ∨ cmpK a b = 1) at HR
  generalize hx : strOfNums (hexS (keyR a)) = x at *
  generalize hy : strOfNums (hexS (keyR b)) = y at *
  have HX := Lib.hid hx
  have HY := Lib.hid hy
  clear ha hb hx hy
  generalize cmpK a b = z at *
  have HL := Lib.hid hl
  have HM := Lib.hid hm
  clear hl hm
  go_enter Try.func21, Try.ntmps21
  go_wp2
  refine wp_region_held_drew (S := fun w' => TwoR w w' a b) (by kernel_rfl) (H.out.drew) (fun hS => ?_)
  refine wpAnyH_take (i := 0) (oi := ⟨some 7, _, _, _, _, _⟩) rfl (by kernel_rfl) (by kernel_rfl) (by kernel_rfl) (fun _ _ _ h => h) (yieldsIf_load_mid (by rfl) 36 _ rfl _ _ rfl (rtc a) _ (fun wq hq => hq.l.rng) Try.underlying36 rfl (by rw [rt_size, rtc_len HA.out])) hS ?_
  try simp only [Act.put, List.setIfInBounds_toArray, List.set_cons_zero, List.set_cons_succ]
  refine wpAnyH_take (i := 2) (oi := ⟨some 9, _, _, _, _, _⟩) rfl (by kernel_rfl) (by kernel_rfl) (by kernel_rfl) (fun _ _ _ h => h) (yieldsIf_load_mid (by rfl) 36 _ rfl _ _ rfl (rtc b) _ (fun wq hq => hq.r.rng) Try.underlying36 rfl (by rw [rt_size, rtc_len HB.out])) hS ?_
  try simp only [Act.put, List.setIfInBounds_toArray, List.set_cons_zero, List.set_cons_succ]
  refine wpAnyH_ready (rs := [1]) (by kernel_rfl) (by simp) ?_
  refine AllReadyH.cons (o := ⟨some 8, _, _, _, _, _⟩) rfl (fun K hK => ?_) AllReadyH.nil
  rw [if_pos (by rfl)]
  go_wp2_with fail
  refine (rkey_is _ a HA.out).mono ?_
  rw [HX.out]
  rintro e w6 ⟨rfl, hB6⟩
  have hS6 := hS.step hB6
  clear hB6 hS
  refine hK.out _ _ (hS6) (fun hS => ?_)
  clear hK K
  try simp only [Act.put, List.setIfInBounds_toArray, List.set_cons_zero, List.set_cons_succ]
  clear hS6
  refine wpAnyH_ready (rs := [3]) (by kernel_rfl) (by simp) ?_
  refine AllReadyH.cons (o := ⟨some 10, _, _, _, _, _⟩) rfl (fun K hK => ?_) AllReadyH.nil
  rw [if_pos (by rfl)]
  go_wp2_with fail
  refine (rkey_is _ b HB.out).mono ?_
  rw [HY.out]
  rintro e w8 ⟨rfl, hB8⟩
  have hS8 := hS.step hB8
  clear hB8 hS
  refine hK.out _ _ (hS8) (fun hS => ?_)
  clear hK K
  try simp only [Act.put, List.setIfInBounds_toArray, List.set_cons_zero, List.set_cons_succ]
  clear hS8
  refine wpAnyH_take (i := 4) (oi := ⟨some 5, _, _, _, _, _⟩) (v := ?_) rfl (by kernel_rfl) (by kernel_rfl) (by kernel_rfl) (fun _ _ _ h => h) (Or.inl ⟨by rfl, ?_⟩) hS ?_
  rotate_left
  · intro wq hq
    first | (go_simp; done) | (go_simp; rfl)
  try simp only [Act.put, List.setIfInBounds_toArray, List.set_cons_zero, List.set_cons_succ]
  refine wpAnyH_take (i := 5) (oi := ⟨some 6, _, _, _, _, _⟩) (v := ?_) rfl (by kernel_rfl) (by kernel_rfl) (by kernel_rfl) (fun _ _ _ h => h) (Or.inl ⟨by rfl, ?_⟩) hS ?_
  rotate_left
  · intro wq hq
    first | (go_simp; done) | (go_simp; rfl)
  try simp only [Act.put, List.setIfInBounds_toArray, List.set_cons_zero, List.set_cons_succ]
  refine wpAnyH_done (by kernel_rfl) ?_ _
  have HLow := Lib.hid hS.low
  clear hS H
  rcases HR.out with rfl | rfl | rfl
  · have h1 : Op.bytesLess x.toList y.toList = true := by rw [HL.out]; rfl
    go_wp2
    go_ret
    exact ⟨rfl, HLow.out⟩
  · have h1 : Op.bytesLess x.toList y.toList = false := by rw [HL.out]; rfl
    have h2 : (!Op.bytesLess x.toList y.toList && !(x.toList == y.toList)) = false := by rw [HM.out]; rfl
    rw [h1] at h2
    have h3 : (x.toList == y.toList) = true := by simpa using h2
    clear h2
    go_wp2
    go_ret
    exact ⟨rfl, HLow.out⟩
  · have h1 : Op.bytesLess x.toList y.toList = false := by rw [HL.out]; rfl
    have h2 : (!Op.bytesLess x.toList y.toList && !(x.toList == y.toList)) = true := by rw [HM.out]; rfl
    rw [h1] at h2
    have h3 : (x.toList == y.toList) = false := by simpa using h2
    clear h2
    go_wp2
    go_ret
    exact ⟨rfl, HLow.out⟩
end Go.Proofs.Ytickcfcncpnaiaa
