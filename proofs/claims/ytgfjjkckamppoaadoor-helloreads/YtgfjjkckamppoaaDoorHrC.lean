/-
  Layer 8: the document's caps: mathematics, what stands in its loop.
-/
import Derived.Test.YtgfjjkckamppoaaDoorHrB
import Derived.Test.YtgfjjkckamppoaaDoorHeS
import Derived.Test.YtgfjjkckamppoaaDoorHeG
namespace Go.Proofs.YtgfjjkckamppoaaDoor
open Go.RowKit
set_option maxRecDepth 100000
set_option linter.unusedSimpArgs false
set_option linter.unusedVariables false

theorem same8_is (w : World) (B : Nat) (A A2 : Option Addr) (n n2 c c2 : Nat) (l l2 : List Int) (h : Rd w B A n l) (h2 : Rd w B A2 n2 l2) (r : Bool) (hr : decide (l = l2) = r) :
    Calls Tryd.prog 73 #[.slice A n c, .slice A2 n2 c2] w fun e w' => e = .returned (.bool r) ∧ w = w' := by
  have k1 := run_conv_rd (P := Tryd.prog) w 25 9 5 Tryd.underlying25 Tryd.underlying5 Tryd.underlying9 c h
  have k2 := run_conv_rd (P := Tryd.prog) w 25 9 5 Tryd.underlying25 Tryd.underlying5 Tryd.underlying9 c2 h2
  have H := Lib.hid (beq_str l l2 h.oct h2.oct r hr)
  clear h h2 hr
  go_enter Tryd.func73, Tryd.ntmps73
  go_wp2
  go_ret
  rw [H.out]
  exact ⟨rfl, rfl⟩
theorem or_add (a b k : Nat) (hb : b < 2 ^ k) (h : a * 2 ^ k + b < 4294967296) : bits .or .u32 ((a * 2 ^ k : Nat) : Int) (b : Int) = ((a * 2 ^ k + b : Nat) : Int) := by
  rw [u32_or_nat _ _ (by omega) (by omega), ← Nat.shiftLeft_eq, Nat.shiftLeft_add_eq_or_of_lt hb]
theorem or4v (a b c d : Int) (ha : 0 ≤ a ∧ a < 256) (hb : 0 ≤ b ∧ b < 256) (hc : 0 ≤ c ∧ c < 256) (hd : 0 ≤ d ∧ d < 256) :
    bits .or .u32 (bits .or .u32 (bits .or .u32 (a * 16777216) (b * 65536)) (c * 256)) d = a * 16777216 + b * 65536 + c * 256 + d := by
  obtain ⟨a, rfl⟩ := Int.eq_ofNat_of_zero_le ha.1
  obtain ⟨b, rfl⟩ := Int.eq_ofNat_of_zero_le hb.1
  obtain ⟨c, rfl⟩ := Int.eq_ofNat_of_zero_le hc.1
  obtain ⟨d, rfl⟩ := Int.eq_ofNat_of_zero_le hd.1
  have h1 := or_add a (b * 65536) 24 (by omega) (by omega)
  have h2 := or_add (a * 256 + b) (c * 256) 16 (by omega) (by omega)
  have h3 := or_add ((a * 256 + b) * 256 + c) d 8 (by omega) (by omega)
  have q1 : (a : Int) * 16777216 = ((a * 2 ^ 24 : Nat) : Int) := by omega
  have q2 : (b : Int) * 65536 = ((b * 65536 : Nat) : Int) := by omega
  have q3 : (c : Int) * 256 = ((c * 256 : Nat) : Int) := by omega
  have q4 : ((a * 2 ^ 24 + b * 65536 : Nat) : Int) = (((a * 256 + b) * 2 ^ 16 : Nat) : Int) := by omega
  have q5 : (((a * 256 + b) * 2 ^ 16 + c * 256 : Nat) : Int) = ((((a * 256 + b) * 256 + c) * 2 ^ 8 : Nat) : Int) := congrArg Nat.cast (show (a * 256 + b) * 2 ^ 16 + c * 256 = ((a * 256 + b) * 256 + c) * 2 ^ 8 from by simp only [Nat.reducePow]; omega)
  rw [q1, q2, q3, h1, q4, h2, q5, h3]
  simp only [Nat.reducePow]
  omega

/-- A hello with what a list of capabilities says. -/
def capsL : Hl → List Raw → Option Hl
  | h, [] => some h
  | h, r :: rs => match capStep h r.2.1 r.2.2 with
    | none => none
    | some h' => capsL h' rs
theorem capsR_parts : ∀ (m : Nat) (h : Hl) (l : List Int), l.length ≤ m → capsR h l = match capsL h (partsR l).1 with
    | none => none
    | some h' => if (partsR l).2 then some h' else none
  | 0, h, l, hm => by
    obtain rfl : l = [] := List.eq_nil_of_length_eq_zero (by omega)
    rfl
  | m + 1, h, l, hm => by
    by_cases h0 : l = []
    · subst h0; rfl
    · cases hp : part1 l with
      | none => rw [capsR_none h0 hp, partsR_none h0 hp]; rfl
      | some q =>
        obtain ⟨k, v, r'⟩ := q
        have := part1_lt hp
        rw [capsR_some h0 hp, partsR_some h0 hp]
        simp only [capsL]
        cases capStep h k v with
        | none => rfl
        | some h' => exact capsR_parts m h' r' (by omega)
theorem capsL_step {rs : List Raw} {m : Nat} (hm : m < rs.length) (h : Hl) {f k : Int} {b : List Int} (hr : rs[m] = (f, k, b)) : capsL h (rs.drop m) = match capStep h k b with
    | none => none
    | some h' => capsL h' (rs.drop (m + 1)) := by
  rw [List.drop_eq_getElem_cons hm, hr]; rfl

/-- What stands in the loop of caps. -/
structure CpS (w W : World) (h : Hl) (lo : Nat) (v : Value) (rs : List Raw) : Prop where
  low : Below w.heap.size w W
  box : Blk W w.heap.size 24 (hlc h).toArray
  res : ∃ old, Blk W (w.heap.size + 1) 24 old ∧ old.size = 6
  own : OwnR lo W v rs
  lo_ : w.heap.size + 2 ≤ lo
  le : lo ≤ W.heap.size
theorem CpS.below {w W W' : World} {h : Hl} {lo : Nat} {v : Value} {rs : List Raw} (k : CpS w W h lo v rs) (hB : Below W.heap.size W W') : CpS w W' h lo v rs := by
  obtain ⟨old, h1, h2⟩ := k.res
  exact ⟨k.low.trans (hB.mono k.low.size), k.box.below hB k.box.lt, ⟨old, h1.below hB h1.lt, h2⟩, k.own.below hB, k.lo_, Nat.le_trans k.le hB.size⟩
theorem CpS.set {w W : World} {h h' : Hl} {lo : Nat} {v : Value} {rs : List Raw} (k : CpS w W h lo v rs) (i : Nat) (u : Value) (hu : (hlc h).toArray.setIfInBounds i u = (hlc h').toArray) : CpS w (W.setCell ⟨w.heap.size, i, none⟩ u) h' lo v rs := by
  obtain ⟨old, h1, h2⟩ := k.res
  have hb := k.box.set_ i u
  rw [hu] at hb
  refine ⟨k.low.setCell (p := ⟨w.heap.size, i, none⟩) (Nat.le_refl _) _, hb, ⟨old, h1.far (p := ⟨w.heap.size, i, none⟩) (by simp) _, h2⟩, k.own.keep fun j c t hj hlo _ => Below.heap_setCell W ⟨w.heap.size, i, none⟩ u j (by have := k.lo_; simp; omega), k.lo_, by simpa using k.le⟩
theorem RdR.get {w : World} {B : Nat} {A : Option Addr} {n : Nat} {rs : List Raw} (h : RdR w B A n rs) {m : Nat} (hm : m < rs.length) : ∃ b off A1 n1 c1, A = some ⟨b, off, none⟩ ∧ b < B ∧ w.cell? ⟨b, off + m * 3, none⟩ = some (.int .i64 rs[m].1) ∧ w.cell? ⟨b, off + m * 3 + 1, none⟩ = some (.int .i64 rs[m].2.1) ∧ w.cell? ⟨b, off + m * 3 + 2, none⟩ = some (.slice A1 n1 c1) ∧ Rd w B A1 n1 rs[m].2.2 := by
  obtain ⟨b, off, rfl, hb, hc⟩ := h.at_ (by have := h.len; omega)
  obtain ⟨A1, n1, c1, h1, h2, h3, h4⟩ := hc m hm
  exact ⟨b, off, A1, n1, c1, rfl, hb, h1, h2, h3, h4⟩
def CapsP (w : World) (h : Hl) (l : List Int) (e : Ending) (w' : World) : Prop :=
  Below w.heap.size w w' ∧ ∃ h', HlOk h' ∧ e = .returned (.tuple #[.agg (hlc h').toArray, .bool (capsR h l).isSome]) ∧ (∀ h2, capsR h l = some h2 → h' = h2)
end Go.Proofs.YtgfjjkckamppoaaDoor
