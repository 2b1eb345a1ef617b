/-
  Layer 3 (frame): contracts of lengthFault, headerFault.
-/
import Derived.Test.YtoiigalaijnoeaaFrA
import Derived.StillTailTactics
import Derived.RegionTactic
namespace Go.Proofs.Ytoiigalaijnoeaa
open Go.RowKit

/-- A fault as a value, its data in new memory. -/
def FltV (lo : Nat) (w : World) (f : Flt) (v : Value) : Prop :=
  ∃ A n, v = .agg #[.int .i64 f.code, .int .i64 f.sub, .slice A n n] ∧ Fresh lo w A n f.data
def LenF (w : World) (f : Flt) (e : Ending) (w' : World) : Prop :=
  ∃ v, e = .returned v ∧ FltV w.heap.size w' f v ∧ Below w.heap.size w w'
theorem byt_new (w : World) (t : TypeId) (l : List Int) (cs : Array Value) (h : cs = (l.map (Value.int .u8)).toArray) : Byt (w.alloc (.cells cs t)) w.heap.size t l := by
  subst h
  exact Blk.new w t _
theorem byt_new' {w : World} {g : Nat} {t : TypeId} {l : List Int} {cs : Array Value} (hg : w.heap.size = g) (h : cs = (l.map (Value.int .u8)).toArray) : Byt (w.alloc (.cells cs t)) g t l := by
  subst hg
  exact byt_new w t l cs h
theorem below_undrew {B : Nat} {a w : World} {k : Nat} (h : Below B (a.drewN k) w) : Below B a w := ⟨h.os, h.tape, h.output, h.size, h.block⟩
theorem heap_far3 (w : World) (g i : Nat) (h : i ≠ g) (a b c : Value) : (((w.setCell ⟨g, 0, none⟩ a).setCell ⟨g, 1, none⟩ b).setCell ⟨g, 2, none⟩ c).heap[i]? = w.heap[i]? := by
  rw [Below.heap_setCell _ _ _ _ (by exact h), Below.heap_setCell _ _ _ _ (by exact h), Below.heap_setCell _ _ _ _ (by exact h)]
theorem oct2 {x y : Int} (hx : 0 ≤ x ∧ x < 256) (hy : 0 ≤ y ∧ y < 256) : Oct [x, y] := by
  intro z hz
  simp only [List.mem_cons, List.mem_nil_iff, or_false] at hz
  rcases hz with rfl | rfl
  · exact hx
  · exact hy
theorem oct1 {x : Int} (hx : 0 ≤ x ∧ x < 256) : Oct [x] := by
  intro z hz
  simp only [List.mem_cons, List.mem_nil_iff, or_false] at hz
  subst hz
  exact hx

set_option maxHeartbeats 1000000 in
theorem lengthFault_is (w : World) (A : Option Addr) (n c : Nat) (l : List Int) (h : Rd w w.heap.size A n l) (hn : 19 ≤ n) (hm : n ≤ 140737488355328) :
    Calls Try.prog 42 #[.slice A n c] w (LenF w (lenFlt l)) := by
  obtain ⟨b, off, rfl, hb, hc⟩ := h.at_ (by omega)
  have h16 := hc 16 (by omega)
  have h17 := hc 17 (by omega)
  have hx := h.oct.getD 16
  have hy := h.oct.getD 17
  have HF : Hid (lenFlt l = ⟨1, 2, [l.getD 16 0, l.getD 17 0]⟩) := Lib.hid rfl
  generalize lenFlt l = f at *
  generalize l.getD 16 0 = x at *
  generalize l.getD 17 0 = y at *
  clear hc h
  go_enter Try.func42, Try.ntmps42
  go_wp2
  go_region
  go_wp2
  refine bodyPost_ret (v := .agg #[.int .i64 1, .int .i64 2, .slice (some ⟨w.heap.size + 1, 0, none⟩) 2 2]) (by simp [results, Try.results42, go_sem]) rfl ?_
  rw [HF.out]
  refine ⟨_, rfl, ⟨_, _, rfl, oct2 hx hy, rfl, .inr ⟨_, rfl, by omega, ?_⟩⟩, ?_⟩
  · have e := byt_new (w.alloc (.cells #[.int .i64 1, .int .i64 2, .slice (some ⟨w.heap.size + 1, 0, none⟩) 2 2] 43)) 5 [x, y] #[.int .u8 x, .int .u8 y] rfl
    simp only [World.size_alloc] at e
    exact e
  · exact below_drewN (((Below.refl _ _).alloc (Nat.le_refl _) _).alloc (by simp) _) 1

/-- What headerFault tells: the fault, in new memory, and whether there is one. -/
def HdrF (w : World) (o : Option Flt) (e : Ending) (w' : World) : Prop :=
  ∃ v, e = .returned (.tuple #[v, .bool o.isSome]) ∧ FltV w.heap.size w' (o.getD ⟨0, 0, []⟩) v ∧ Below w.heap.size w w'

theorem hdr_1 {l : List Int} (h : mk16 l = false) : hdr l = some ⟨1, 1, []⟩ := by unfold hdr; rw [if_pos h]
theorem hdr_2 {l : List Int} (h : mk16 l = true) (h2 : isLenB (lenI l) = false) : hdr l = some (lenFlt l) := by unfold hdr; rw [if_neg (by simp [h]), if_pos h2]
theorem hdr_3 {l : List Int} (h : mk16 l = true) (h2 : isLenB (lenI l) = true) (h3 : isKindB (kindI l) = false) : hdr l = some ⟨1, 3, [kindI l]⟩ := by unfold hdr; rw [if_neg (by simp [h]), if_neg (by simp [h2]), if_pos h3]
theorem hdr_4 {l : List Int} (h : mk16 l = true) (h2 : isLenB (lenI l) = true) (h3 : isKindB (kindI l) = true) (h4 : isBodyB (lenI l - 19) (kindI l) = false) : hdr l = some (lenFlt l) := by
  unfold hdr; rw [if_neg (by simp [h]), if_neg (by simp [h2]), if_neg (by simp [h3]), if_pos h4]
theorem hdr_5 {l : List Int} (h : mk16 l = true) (h2 : isLenB (lenI l) = true) (h3 : isKindB (kindI l) = true) (h4 : isBodyB (lenI l - 19) (kindI l) = true) : hdr l = none := by
  unfold hdr; rw [if_neg (by simp [h]), if_neg (by simp [h2]), if_neg (by simp [h3]), if_neg (by simp [h4])]
theorem lenI_bd {l : List Int} (h : Oct l) : 0 ≤ lenI l ∧ lenI l < 65536 := by
  have h16 := h.getD 16
  have h17 := h.getD 17
  unfold lenI
  omega

abbrev flt0 : Array Value := #[.int .i64 0, .int .i64 0, .slice none 0 0]
set_option maxHeartbeats 2000000 in
theorem headerFault_is (w : World) (A : Option Addr) (n c : Nat) (l : List Int) (h : Rd w w.heap.size A n l) (hn : 19 ≤ n) (hnc : n ≤ c) (hm : n ≤ 140737488355328) :
    Calls Try.prog 37 #[.slice A n c] w (HdrF w (hdr l)) := by
  have H := Lib.hid h
  have hk : 0 ≤ kindI l ∧ kindI l < 256 := h.oct.getD 18
  have hL := lenI_bd h.oct
  obtain ⟨b, off, rfl, hb, hc⟩ := h.at_ (by omega)
  have h18 : w.cell? ⟨b, off + 18, none⟩ = some (.int .u8 (kindI l)) := hc 18 (by omega)
  clear h hc
  have HA : Hid (∀ k, Rd ((w.alloc (.cells flt0 43)).drewN k) (w.alloc (.cells flt0 43)).heap.size (some ⟨b, off, none⟩) n l) := Lib.hid fun k => Rd.more (w := (w.alloc (.cells flt0 43)).drewN k) (H.out.keep fun p hp => World.cell?_alloc_lt _ _ _ hp) (by simp)
  have HA0 : Hid (Rd ((w.alloc (.cells flt0 43))) (w.alloc (.cells flt0 43)).heap.size (some ⟨b, off, none⟩) n l) := Lib.hid (HA.out 0)
  have HL0 : Hid (Below w.heap.size w (w.alloc (.cells flt0 43))) := Lib.hid ((Below.refl _ _).alloc (Nat.le_refl _) _)
  have HB0 : Hid (Blk (w.alloc (.cells flt0 43)) w.heap.size 43 flt0) := Lib.hid (Blk.new w _ _)
  cases hmk : mk16 l
  · rw [hdr_1 hmk]
    have HM := Lib.hid hmk
    clear hmk
    go_enter Try.func37, Try.ntmps37
    go_wp2_with fail
    refine (kindOf_is _ _ _ n c l HA0.out hn hm).mono ?_
    rintro e w' ⟨rfl, rfl⟩
    go_wp2_with fail
    refine (isMarked_is _ _ _ n c l HA0.out hn hnc hm false HM.out).mono ?_
    rintro e w' ⟨rfl, rfl⟩
    go_wp2
    refine bodyPost_ret (v := .tuple #[.agg #[.int .i64 1, .int .i64 1, .slice none 0 0], .bool true]) (by simp [results, Try.results37, go_sem]) rfl ⟨_, rfl, ⟨_, _, rfl, Fresh.none_⟩, ?_⟩
    exact (Below.refl _ _).alloc (Nat.le_refl _) _
  cases hlb : isLenB (lenI l)
  · rw [hdr_2 hmk hlb]
    have HM := Lib.hid hmk
    have HLB := Lib.hid hlb
    clear hmk hlb
    go_enter Try.func37, Try.ntmps37
    go_wp2_with fail
    refine (kindOf_is _ _ _ n c l HA0.out hn hm).mono ?_
    rintro e w' ⟨rfl, rfl⟩
    go_wp2_with fail
    refine (isMarked_is _ _ _ n c l HA0.out hn hnc hm true HM.out).mono ?_
    rintro e w' ⟨rfl, rfl⟩
    go_wp2_with fail
    refine (lengthOf_is _ _ _ n c l HA0.out hn hm).mono ?_
    rintro e w' ⟨rfl, k1, rfl⟩
    go_wp2_with fail
    refine (isLength_is _ (lenI l) false HLB.out).mono ?_
    rintro e w' ⟨rfl, rfl⟩
    go_wp2_with fail
    refine (lengthFault_is _ _ n c l (HA.out k1) hn hm).mono ?_
    rintro e w1 ⟨v, rfl, ⟨A1, n1, rfl, hf⟩, hbl⟩
    have HF := Lib.hid hf
    have HW : Hid (Below (w.alloc (.cells flt0 43)).heap.size (w.alloc (.cells flt0 43)) w1) := Lib.hid (below_undrew hbl)
    have hB1 := HB0.out.below HW.out (by simp)
    have c0 : w1.cell? ⟨w.heap.size, 0, none⟩ = some (.int .i64 0) := hB1.cell 0
    have c1 : w1.cell? ⟨w.heap.size, 1, none⟩ = some (.int .i64 0) := hB1.cell 1
    have c2 : w1.cell? ⟨w.heap.size, 2, none⟩ = some (.slice none 0 0) := hB1.cell 2
    have f0 : w1.frozen? ⟨w.heap.size, 0, none⟩ = false := hB1.frozen 0
    have f1 : w1.frozen? ⟨w.heap.size, 1, none⟩ = false := hB1.frozen 1
    have f2 : w1.frozen? ⟨w.heap.size, 2, none⟩ = false := hB1.frozen 2
    clear hf hbl hB1
    go_wp2
    refine bodyPost_ret (v := .tuple #[.agg #[.int .i64 (lenFlt l).code, .int .i64 (lenFlt l).sub, .slice A1 n1 n1], .bool true]) (by simp [results, Try.results37, go_sem, c0, c1, c2]) rfl ?_
    refine ⟨_, rfl, ⟨_, _, rfl, (HF.out.keep fun i hi _ => heap_far3 _ _ _ (by simp at hi; omega) _ _ _).more (by simp)⟩, ?_⟩
    · exact (((HL0.out.trans (HW.out.mono (by simp))).setCell (Nat.le_refl _) _).setCell (Nat.le_refl _) _).setCell (Nat.le_refl _) _
  cases hkb : isKindB (kindI l)
  · rw [hdr_3 hmk hlb hkb]
    have HM := Lib.hid hmk
    have HLB := Lib.hid hlb
    have HKB := Lib.hid hkb
    clear hmk hlb hkb
    go_enter Try.func37, Try.ntmps37
    go_wp2_with fail
    refine (kindOf_is _ _ _ n c l HA0.out hn hm).mono ?_
    rintro e w' ⟨rfl, rfl⟩
    go_wp2_with fail
    refine (isMarked_is _ _ _ n c l HA0.out hn hnc hm true HM.out).mono ?_
    rintro e w' ⟨rfl, rfl⟩
    go_wp2_with fail
    refine (lengthOf_is _ _ _ n c l HA0.out hn hm).mono ?_
    rintro e w' ⟨rfl, k1, rfl⟩
    go_wp2_with fail
    refine (isLength_is _ (lenI l) true HLB.out).mono ?_
    rintro e w' ⟨rfl, rfl⟩
    go_wp2_with fail
    refine (isKind_is _ (kindI l) false HKB.out).mono ?_
    rintro e w' ⟨rfl, rfl⟩
    go_wp2
    refine bodyPost_ret (v := .tuple #[.agg #[.int .i64 1, .int .i64 3, .slice (some ⟨w.heap.size + 1, 0, none⟩) 1 1], .bool true]) (by simp [results, Try.results37, go_sem]) rfl ?_
    refine ⟨_, rfl, ⟨_, _, rfl, oct1 hk, rfl, .inr ⟨_, rfl, by omega, byt_new' (by simp [World.setCell]) rfl⟩⟩, ?_⟩
    exact ((((below_drewN HL0.out k1).setCell (Nat.le_refl _) _).setCell (Nat.le_refl _) _).setCell (Nat.le_refl _) _).alloc (by simp [World.setCell]) _
  cases hbb : isBodyB (lenI l - 19) (kindI l)
  · rw [hdr_4 hmk hlb hkb hbb]
    have HM := Lib.hid hmk
    have HLB := Lib.hid hlb
    have HKB := Lib.hid hkb
    have HBB := Lib.hid hbb
    clear hmk hlb hkb hbb
    go_enter Try.func37, Try.ntmps37
    go_wp2_with fail
    refine (kindOf_is _ _ _ n c l HA0.out hn hm).mono ?_
    rintro e w' ⟨rfl, rfl⟩
    go_wp2_with fail
    refine (isMarked_is _ _ _ n c l HA0.out hn hnc hm true HM.out).mono ?_
    rintro e w' ⟨rfl, rfl⟩
    go_wp2_with fail
    refine (lengthOf_is _ _ _ n c l HA0.out hn hm).mono ?_
    rintro e w' ⟨rfl, k1, rfl⟩
    go_wp2_with fail
    refine (isLength_is _ (lenI l) true HLB.out).mono ?_
    rintro e w' ⟨rfl, rfl⟩
    go_wp2_with fail
    refine (isKind_is _ (kindI l) true HKB.out).mono ?_
    rintro e w' ⟨rfl, rfl⟩
    go_wp2_with fail
    refine (lengthOf_is _ _ _ n c l (HA.out k1) hn hm).mono ?_
    rintro e w' ⟨rfl, k2, rfl⟩
    go_wp2_with fail
    refine (isBody_is _ (lenI l - 19) (kindI l) false HBB.out).mono ?_
    rintro e w' ⟨rfl, rfl⟩
    go_wp2_with fail
    refine (lengthFault_is _ _ n c l (HA.out (k1 + k2)) hn hm).mono ?_
    rintro e w1 ⟨v, rfl, ⟨A1, n1, rfl, hf⟩, hbl⟩
    have HF := Lib.hid hf
    have HW : Hid (Below (w.alloc (.cells flt0 43)).heap.size (w.alloc (.cells flt0 43)) w1) := Lib.hid (below_undrew hbl)
    have hB1 := HB0.out.below HW.out (by simp)
    have c0 : w1.cell? ⟨w.heap.size, 0, none⟩ = some (.int .i64 0) := hB1.cell 0
    have c1 : w1.cell? ⟨w.heap.size, 1, none⟩ = some (.int .i64 0) := hB1.cell 1
    have c2 : w1.cell? ⟨w.heap.size, 2, none⟩ = some (.slice none 0 0) := hB1.cell 2
    have f0 : w1.frozen? ⟨w.heap.size, 0, none⟩ = false := hB1.frozen 0
    have f1 : w1.frozen? ⟨w.heap.size, 1, none⟩ = false := hB1.frozen 1
    have f2 : w1.frozen? ⟨w.heap.size, 2, none⟩ = false := hB1.frozen 2
    clear hf hbl hB1
    go_wp2
    refine bodyPost_ret (v := .tuple #[.agg #[.int .i64 (lenFlt l).code, .int .i64 (lenFlt l).sub, .slice A1 n1 n1], .bool true]) (by simp [results, Try.results37, go_sem, c0, c1, c2]) rfl ?_
    refine ⟨_, rfl, ⟨_, _, rfl, (HF.out.keep fun i hi _ => heap_far3 _ _ _ (by simp at hi; omega) _ _ _).more (by simp)⟩, ?_⟩
    · exact (((HL0.out.trans (HW.out.mono (by simp))).setCell (Nat.le_refl _) _).setCell (Nat.le_refl _) _).setCell (Nat.le_refl _) _
  · rw [hdr_5 hmk hlb hkb hbb]
    have HM := Lib.hid hmk
    have HLB := Lib.hid hlb
    have HKB := Lib.hid hkb
    have HBB := Lib.hid hbb
    clear hmk hlb hkb hbb
    go_enter Try.func37, Try.ntmps37
    go_wp2_with fail
    refine (kindOf_is _ _ _ n c l HA0.out hn hm).mono ?_
    rintro e w' ⟨rfl, rfl⟩
    go_wp2_with fail
    refine (isMarked_is _ _ _ n c l HA0.out hn hnc hm true HM.out).mono ?_
    rintro e w' ⟨rfl, rfl⟩
    go_wp2_with fail
    refine (lengthOf_is _ _ _ n c l HA0.out hn hm).mono ?_
    rintro e w' ⟨rfl, k1, rfl⟩
    go_wp2_with fail
    refine (isLength_is _ (lenI l) true HLB.out).mono ?_
    rintro e w' ⟨rfl, rfl⟩
    go_wp2_with fail
    refine (isKind_is _ (kindI l) true HKB.out).mono ?_
    rintro e w' ⟨rfl, rfl⟩
    go_wp2_with fail
    refine (lengthOf_is _ _ _ n c l (HA.out k1) hn hm).mono ?_
    rintro e w' ⟨rfl, k2, rfl⟩
    go_wp2_with fail
    refine (isBody_is _ (lenI l - 19) (kindI l) true HBB.out).mono ?_
    rintro e w' ⟨rfl, rfl⟩
    go_wp2
    refine bodyPost_ret (v := .tuple #[.agg #[.int .i64 0, .int .i64 0, .slice none 0 0], .bool false]) (by simp [results, Try.results37, go_sem]) rfl ⟨_, rfl, ⟨_, _, rfl, Fresh.none_⟩, ?_⟩
    exact (((below_drewN ((Below.refl _ _).alloc (Nat.le_refl _) _) (k1 + k2)).setCell (Nat.le_refl _) _).setCell (Nat.le_refl _) _).setCell (Nat.le_refl _) _
end Go.Proofs.Ytoiigalaijnoeaa
