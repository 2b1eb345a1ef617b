/-
  Layer 1: contracts of the document's side: Same, Spoil, Lent, Kept.
-/
import Derived.Test.YtgfjjkckamppoaaDoorOctE
namespace Go.Proofs.YtgfjjkckamppoaaDoor
open Go.RowKit
set_option maxRecDepth 100000

theorem same_is (w : World) (B : Nat) (A A2 : Option Addr) (n n2 c c2 : Nat) (l l2 : List Int) (h : Rd w B A n l) (h2 : Rd w B A2 n2 l2) (r : Bool) (hr : decide (l = l2) = r) :
    Calls Tryd.prog 12 #[.slice A n c, .slice A2 n2 c2] w fun e w' => e = .returned (.bool r) ∧ w = w' := by
  have k1 := run_conv_rd (P := Tryd.prog) w 25 9 5 Tryd.underlying25 Tryd.underlying5 Tryd.underlying9 c h
  have k2 := run_conv_rd (P := Tryd.prog) w 25 9 5 Tryd.underlying25 Tryd.underlying5 Tryd.underlying9 c2 h2
  have H := Lib.hid (beq_str l l2 h.oct h2.oct r hr)
  clear h h2 hr
  go_enter Tryd.func12, Tryd.ntmps12
  go_wp2
  go_ret
  rw [H.out]
  exact ⟨rfl, rfl⟩

/-- A row of bytes, whatever they are. -/
def Row (w : World) (g : Nat) (m : Nat) : Prop := ∃ l, Byt w g 5 l ∧ Oct l ∧ l.length = m

theorem Row.set_ {w : World} {g m : Nat} (h : Row w g m) (i : Nat) {x : Int} (h0 : 0 ≤ x) (h1 : x < 256) : Row (w.setCell ⟨g, i, none⟩ (.int .u8 x)) g m := by
  obtain ⟨l, hb, ho, hl⟩ := h
  refine ⟨l.set i x, hb.set_ i x, fun y hy => ?_, by simpa using hl⟩
  rcases List.mem_or_eq_of_mem_set hy with hy | rfl
  · exact ho y hy
  · exact ⟨h0, h1⟩

theorem xor_u8_bd (a b : Int) : 0 ≤ bits .xor .u8 a b ∧ bits .xor .u8 a b < 256 := by
  show 0 ≤ IntKind.u8.wrap _ ∧ IntKind.u8.wrap _ < 256
  rw [wrap_u8_mod]
  omega

set_option maxHeartbeats 1000000 in
theorem spoil_row (w : World) (g n c m : Nat) (h : Row w g m) (hn : n ≤ m) (hm : m ≤ 281474976710656) :
    Calls Tryd.prog 29 #[.slice (some ⟨g, 0, none⟩) n c] w fun e w' => e = .returned (.tuple #[]) ∧ Row w' g m ∧ w.grownBy w' (some g) := by
  have H := Lib.hid h
  clear h
  go_enter Tryd.func29, Tryd.ntmps29
  go_wp2
  go_loopw [2, 5] (fun _ i wr => ∃ k : Nat, k ≤ n ∧ i = .int .i64 k ∧ Row wr g m ∧ w.grownBy wr (some g)) (fun _ i _ => n - (intOf i).toNat)
  case atStart => exact ⟨0, Nat.zero_le _, rfl, H.out, only_refl w _⟩
  case round =>
    obtain ⟨k, hk, rfl, hr, hg⟩ := hrel
    by_cases hlt : k < n
    · have H1 := Lib.hid hr
      have H2 := Lib.hid hg
      obtain ⟨l, hb, ho, hl⟩ := hr
      have hc := hb.cell (i := k) (by omega)
      have hf := hb.frozen k
      have hx := ho.getD k
      generalize l.getD k 0 = x at *
      clear hb ho hl hg
      go_wp2
      exact ⟨⟨k + 1, by omega, by go_num, H1.out.set_ k (xor_u8_bd _ _).1 (xor_u8_bd _ _).2, only_setCell H2.out (.inl rfl) _⟩, by simp [intOf]; omega⟩
    · have H1 := Lib.hid hr
      have H2 := Lib.hid hg
      clear hr hg
      go_wp2
      go_end0
      exact ⟨rfl, H1.out, H2.out⟩

set_option maxHeartbeats 400000 in
theorem spoil_none (w : World) (A : Option Addr) (c : Nat) : Calls Tryd.prog 29 #[.slice A 0 c] w fun e w' => e = .returned (.tuple #[]) ∧ w = w' := by
  go_enter Tryd.func29, Tryd.ntmps29
  go_wp2
  refine wp_loop_rounds 1 ?_
  rw [rounds_succ]
  go_wp2
  go_end0
  exact ⟨rfl, rfl⟩

theorem set_next (l : List Int) (k m : Nat) (hk : k < l.length) : (l.take k ++ List.replicate (m + 1) 0).set k l[k] = l.take (k + 1) ++ List.replicate m 0 := by
  rw [List.set_append_right _ _ (by simp; omega), List.take_succ_eq_append_getElem hk, List.length_take, Nat.min_eq_left (by omega), Nat.sub_self, List.replicate_succ, List.set_cons_zero, List.append_assoc]
  rfl

def Lent (w : World) (n : Nat) (l : List Int) (e : Ending) (w' : World) : Prop :=
  e = .returned (.slice (some ⟨w.heap.size, 0, none⟩) n (n + 2)) ∧ Byt w' w.heap.size 5 (l ++ [165, 90]) ∧ Below w.heap.size w w'

set_option maxHeartbeats 1000000 in
theorem lent_is (w : World) (A : Option Addr) (n c : Nat) (l : List Int) (hr : Rd w w.heap.size A n l) (hm : n ≤ 140737488355328) :
    Calls Tryd.prog 14 #[.slice A n c] w (Lent w n l) := by
  have hmk := run_make_row' (P := Tryd.prog) 25 5 (.int .u8 0) 1 Tryd.underlying25 info_byte rfl .i64 .i64 (n + 2) (by omega) (by omega) w
  rw [show ((n + 2 : Nat) : Int) = (n : Int) + 2 from by omega] at hmk
  have H := Lib.hid hr
  have H0 := Lib.hid (byt_made w (n + 2) 5)
  have hlen := hr.len
  have HL := Lib.hid hlen
  clear hr hlen
  go_enter Tryd.func14, Tryd.ntmps14
  go_wp2
  go_loopw [4, 11] (fun _ i wr => ∃ k : Nat, k ≤ n ∧ i = .int .i64 k ∧ Byt wr w.heap.size 5 (l.take k ++ List.replicate (n + 2 - k) 0) ∧ Below w.heap.size w wr) (fun _ i _ => n - (intOf i).toNat)
  case atStart => exact ⟨0, Nat.zero_le _, rfl, by simpa using H0.out, (Below.refl _ _).alloc (Nat.le_refl _) _⟩
  case round =>
    obtain ⟨k, hk, rfl, hb, hB⟩ := hrel
    by_cases hlt : k < n
    · obtain ⟨b, off, rfl, hbb, hcell⟩ := H.out.at_ (by omega)
      have hkl : k < l.length := by have := HL.out; omega
      have hc : wr.cell? ⟨b, off + k, none⟩ = some (.int .u8 l[k]) := by
        rw [hB.cell (p := ⟨b, off + k, none⟩) hbb, hcell k hlt]
        simp [List.getD, List.getElem?_eq_getElem hkl]
      have hco := hb.cell (i := k) (by simp; omega)
      have hfo := hb.frozen k
      have hs := hb.set_ k l[k]
      rw [show n + 2 - k = n + 2 - (k + 1) + 1 from by omega, set_next l k _ hkl] at hs
      have H1 := Lib.hid hs
      have H2 := Lib.hid hB
      clear hs hb hB hcell
      generalize l[k] = x at *
      go_wp2
      exact ⟨⟨k + 1, by omega, by go_num, H1.out, H2.out.setCell (Nat.le_refl _) _⟩, by simp [intOf]; omega⟩
    · obtain rfl : k = n := by omega
      have hlen := HL.out
      rw [List.take_of_length_le (by omega), show k + 2 - k = 2 from by omega] at hb
      have hc1 := hb.cell (i := k) (by simp; omega)
      have hf1 := hb.frozen k
      have hs := hb.set_ k 165
      have hc2 := hs.cell (i := k + 1) (by simp; omega)
      have hf2 := hs.frozen (k + 1)
      have hs2 := hs.set_ (k + 1) 90
      have e2 : ((l ++ List.replicate 2 0).set k 165).set (k + 1) 90 = l ++ [165, 90] := by
        subst hlen
        rw [List.set_append_right _ _ (by omega), List.set_append_right _ _ (by omega), Nat.sub_self, Nat.add_sub_cancel_left]
        rfl
      rw [e2] at hs2
      have H1 := Lib.hid hs2
      have H2 := Lib.hid hB
      clear hs hs2 hb hB e2 hlen
      generalize (((l ++ List.replicate 2 0).set k 165).getD (k + 1) 0) = y at *
      generalize ((l ++ List.replicate 2 0).getD k 0) = z at *
      go_wp2
      go_ret
      exact ⟨rfl, H1.out, (H2.out.setCell (Nat.le_refl _) _).setCell (Nat.le_refl _) _⟩
end Go.Proofs.YtgfjjkckamppoaaDoor
