/-
  Layer 8: the document's parts.
-/
import Derived.Test.YtgfjjkckamppoaaDoorHrA
namespace Go.Proofs.YtgfjjkckamppoaaDoor
open Go.RowKit
set_option maxRecDepth 100000
set_option linter.unusedSimpArgs false
set_option linter.unusedVariables false

/-- The parts of bytes, up to the first that goes beyond; is there none such? -/
def partsF : Nat → List Int → List Raw × Bool
  | 0, r => ([], true)
  | m + 1, r => if r = [] then ([], true) else match part1 r with
    | none => ([], false)
    | some (k, v, r') => ((0, k, v) :: (partsF m r').1, (partsF m r').2)
def partsR (l : List Int) : List Raw × Bool := partsF l.length l
theorem partsF_nil (m : Nat) : partsF m [] = ([], true) := by cases m <;> rfl
theorem partsF_none {m : Nat} {r : List Int} (h0 : r ≠ []) (h : part1 r = none) : partsF (m + 1) r = ([], false) := by simp only [partsF, if_neg h0, h]
theorem partsF_some {m : Nat} {r r' v : List Int} {k : Int} (h0 : r ≠ []) (h : part1 r = some (k, v, r')) : partsF (m + 1) r = ((0, k, v) :: (partsF m r').1, (partsF m r').2) := by simp only [partsF, if_neg h0, h]
theorem partsF_more : ∀ (m n : Nat) (r : List Int), r.length ≤ m → r.length ≤ n → partsF m r = partsF n r
  | 0, n, r, hm, hn => by
    obtain rfl : r = [] := List.eq_nil_of_length_eq_zero (by omega)
    rw [partsF_nil, partsF_nil]
  | m + 1, 0, r, hm, hn => by
    obtain rfl : r = [] := List.eq_nil_of_length_eq_zero (by omega)
    rw [partsF_nil, partsF_nil]
  | m + 1, n + 1, r, hm, hn => by
    by_cases h0 : r = []
    · subst h0; rw [partsF_nil, partsF_nil]
    · cases hp : part1 r with
      | none => rw [partsF_none h0 hp, partsF_none h0 hp]
      | some q =>
        obtain ⟨k, v, r'⟩ := q
        have := part1_lt hp
        rw [partsF_some h0 hp, partsF_some h0 hp, partsF_more m n r' (by omega) (by omega)]
theorem partsR_nil : partsR [] = ([], true) := rfl
theorem partsR_none {r : List Int} (h0 : r ≠ []) (h : part1 r = none) : partsR r = ([], false) := by
  unfold partsR
  obtain ⟨m, hm⟩ : ∃ m, r.length = m + 1 := ⟨r.length - 1, by have := List.length_pos_iff.2 h0; omega⟩
  rw [hm, partsF_none h0 h]
theorem partsR_some {r r' v : List Int} {k : Int} (h0 : r ≠ []) (h : part1 r = some (k, v, r')) : partsR r = ((0, k, v) :: (partsR r').1, (partsR r').2) := by
  unfold partsR
  obtain ⟨m, hm⟩ : ∃ m, r.length = m + 1 := ⟨r.length - 1, by have := List.length_pos_iff.2 h0; omega⟩
  have := part1_lt h
  rw [hm, partsF_some h0 h, partsF_more m r'.length r' (by omega) (Nat.le_refl _)]

def PartsP (w : World) (l : List Int) (e : Ending) (w' : World) : Prop :=
  Below w.heap.size w w' ∧ ∃ v, e = .returned (.tuple #[v, .bool (partsR l).2]) ∧ OwnR w.heap.size w' v (partsR l).1
/-- A step that turns a cursor's block leaves attributes as they are. -/
theorem OwnR.cur {lo : Nat} {w w' : World} {v : Value} {rs : List Raw} {g : Nat} {T : TypeId} {l : List Int} {a : Nat} {e : Int} (h : OwnR lo w v rs) (hc : IsCurT T w g l a e) (hg : w.grownBy w' (some g)) (h1 : T ≠ 77) (h2 : T ≠ 5) : OwnR lo w' v rs :=
  h.keep fun i c t hi _ ht => hg.block i (Array.getElem?_eq_some_iff.1 hi).1 (fun e => by
    injection e with e
    subst e
    obtain ⟨_, _, q, _, _⟩ := hc.ex
    unfold CurT Blk at q
    rw [hi] at q
    injection q with q
    injection q with _ q
    rcases ht with rfl | rfl
    · exact h1 q.symm
    · exact h2 q.symm)
/-- What the loop carries on. -/
structure PaRel (w : World) (g : Nat) (l : List Int) (v : Value) (wr : World) (at_ : Nat) (done : List Raw) : Prop where
  cur : IsRef wr g l at_ 0
  own : OwnR (g + 1) wr v done
  bel : Below w.heap.size w wr
  goes : partsR l = (done ++ (partsR (l.drop at_)).1, (partsR (l.drop at_)).2)
  cnt : done.length ≤ at_
theorem only_then {a b w : World} {B : Nat} {row : Option Nat} (h : a.grownBy b row) (hB : Below B b w) (hB2 : a.heap.size ≤ B) : a.grownBy w row :=
  ⟨hB.os.trans h.os, hB.tape.trans h.tape, hB.output.trans h.output, Nat.le_trans h.size hB.size, fun i hi hne => (hB.block i (by omega)).trans (h.block i hi hne)⟩
theorem late_err0 (l : List Int) (a : Nat) (k : Int) : stepErr l a 3 k = 3 := by unfold stepErr; rw [if_neg (by decide)]

set_option maxHeartbeats 4000000 in
theorem rparts_is (w : World) (A : Option Addr) (n c : Nat) (l : List Int) (hr : Rd w w.heap.size A n l) (hm : n ≤ 100000) : Calls Tryd.prog 53 #[.slice A n c] w (PartsP w l) := by
  have HO := Lib.hid hr.oct
  have hln := hr.len
  have HR := Lib.hid hr
  clear hr
  go_enter Tryd.func53, Tryd.ntmps53
  go_wp2_with fail
  refine (rnew_is w A n c l HR.out (by omega)).mono ?_
  rintro e w1 ⟨g, rfl, hg, hcur, hB⟩
  have HC := Lib.hid hcur
  have HB := Lib.hid hB
  have HG := Lib.hid hg
  clear hcur hB hg
  go_wp2
  go_loopw [5] (fun v wr => ∃ at_ done, PaRel w g l v wr at_ done) (fun _ wr => l.length - (intOf ((wr.cell? ⟨g, 1, none⟩).getD (.int .i64 0))).toNat)
  case atStart => exact ⟨0, [], HC.out, OwnR.nil_ _ _, HB.out, by simp, Nat.zero_le _⟩
  case round =>
    obtain ⟨at_, done, hrel⟩ := hrel
    have HRel := Lib.hid hrel
    have hle := hrel.cur.le
    clear hrel HC HB HR
    go_wp2_with fail
    refine (rleft_is _ g l at_ 0 HRel.out.cur).mono ?_
    rintro e w2 ⟨rfl, k1, rfl⟩
    by_cases hlt : at_ < l.length
    · have hp : (0 : Int) < (l.length : Int) - at_ := by omega
      have HM := Lib.hid (part_math l HO.out at_ hlt)
      have HN0 : Hid (l.drop at_ ≠ []) := Lib.hid (fun e => by have := congrArg List.length e; simp at this; omega)
      have HM0 : Hid ((wr.cell? ⟨g, 1, none⟩) = some (.int .i64 at_)) := Lib.hid (by obtain ⟨_, _, q, _, _⟩ := HRel.out.cur.ex; exact Blk.cell q 1)
      have HGs := Lib.hid HRel.out.cur.lt
      go_wp2_with fail
      refine (rnum_is _ g l at_ 0 1 (HRel.out.cur.drewN k1)).mono ?_
      rintro e w3 ⟨rfl, hc3, hg3⟩
      have b1 := num1_bd l HO.out at_ 0
      generalize numVal l at_ 0 1 = k at *
      generalize numAt l at_ 0 1 = a1 at *
      generalize numErr l at_ 0 1 = e1 at *
      have hg3 : wr.grownBy w3 (some g) := only_trans (only_drewN (only_refl wr _) k1) hg3
      have hal : Below w3.heap.size w3 (w3.alloc (.cells #[.int .i64 0, .int .i64 0, .slice none 0 0] 77)) := (Below.refl _ _).alloc (Nat.le_refl _) _
      have hb3 := Blk.new w3 77 #[.int .i64 0, .int .i64 0, .slice none 0 0]
      have hal2 := hal.trans (below_setRow _ w3.heap.size #[.int .i64 0, .int .i64 k, .slice none 0 0] (Nat.le_refl _))
      have HB3 := Lib.hid hb3
      have HC4 := Lib.hid (hc3.keep (hal2.mono hc3.lt))
      have HG4 := Lib.hid (only_then hg3 hal2 hg3.size)
      have HK4 := Lib.hid (Blk.setRow hb3 #[.int .i64 0, .int .i64 k, .slice none 0 0])
      have HL3 := Lib.hid hg3.size
      have hk1 : IntKind.i64.wrap k = k := by rw [IntKind.wrap_i64]; omega
      clear hc3 hg3 hal hb3 hal2
      go_wp2_with (refine raw_store rfl _ _ rfl w3.heap.size 0 k none 0 0 rfl rfl 77 _ HB3.out rfl ?_)
      refine (rnum_is _ g l a1 e1 1 HC4.out).mono ?_
      clear HB3
      generalize ((w3.alloc (.cells #[.int .i64 0, .int .i64 0, .slice none 0 0] 77)).setRow w3.heap.size #[.int .i64 0, .int .i64 k, .slice none 0 0]) = w4 at *
      generalize w3.heap.size = b at *
      rintro e w5 ⟨rfl, hc5, hg5⟩
      have b2 := num1_bd l HO.out a1 e1
      generalize numVal l a1 e1 1 = m at *
      generalize numAt l a1 e1 1 = a2 at *
      generalize numErr l a1 e1 1 = e2 at *
      have hk2 : IntKind.i64.wrap m = m := by rw [IntKind.wrap_i64]; omega
      have HC5 := Lib.hid hc5
      have HG5 := Lib.hid (only_trans HG4.out hg5)
      have HK5 := Lib.hid (HK4.out.grown hg5 (fun e => by injection e with e; have := HGs.out; have := HL3.out; omega))
      clear hc5 hg5 HC4 HG4 HK4
      go_wp2_with fail
      refine (rtake_is w5 g l a2 e2 m HC5.out).mono ?_
      rintro e w6 ⟨Av, cv, rfl, hn6, hc6, hg6⟩
      generalize stepTook l a2 e2 m = tk at *
      generalize stepAt l a2 e2 m = a3 at *
      generalize stepErr l a2 e2 m = e3 at *
      have hbg : g + 1 ≤ b := by have := HGs.out; have := HL3.out; omega
      have hk6 := HK5.out.grown hg6 (fun e => by injection e with e; omega)
      have d2 : w6.cell? ⟨b, 2, none⟩ = some (.slice none 0 0) := hk6.cell 2
      have f2 : w6.frozen? ⟨b, 2, none⟩ = false := hk6.frozen 2
      have hk7 := hk6.set_ 2 (.slice Av tk.length cv)
      have hset : Below b w6 (w6.setCell ⟨b, 2, none⟩ (.slice Av tk.length cv)) := (Below.refl b w6).setCell (p := ⟨b, 2, none⟩) (Nat.le_refl _) _
      have hc7 := hc6.keep (hset.mono hbg)
      have hg7 := only_then (only_trans HG5.out hg6) hset HL3.out
      have ho7 := HRel.out.own.cur HRel.out.cur hg7 (by decide) (by decide)
      have hn7 := (hn6.body (lo := g + 1) HC5.out.lt).keep (w' := w6.setCell ⟨b, 2, none⟩ (.slice Av tk.length cv)) fun i c hi _ => Below.heap_setCell w6 ⟨b, 2, none⟩ _ i (row_ne hi hk6 (by decide))
      have c2 : (w6.setCell ⟨b, 2, none⟩ (.slice Av tk.length cv)).cell? ⟨g, 2, none⟩ = some (.int .i64 e3) := by obtain ⟨_, _, q, _, _⟩ := hc7.ex; exact Blk.cell q 2
      have x0 : (w6.setCell ⟨b, 2, none⟩ (.slice Av tk.length cv)).cell? ⟨b, 0, none⟩ = some (.int .i64 0) := hk7.cell 0
      have x1 : (w6.setCell ⟨b, 2, none⟩ (.slice Av tk.length cv)).cell? ⟨b, 1, none⟩ = some (.int .i64 k) := hk7.cell 1
      have x2 : (w6.setCell ⟨b, 2, none⟩ (.slice Av tk.length cv)).cell? ⟨b, 2, none⟩ = some (.slice Av tk.length cv) := hk7.cell 2
      have hB7 : Below w.heap.size w (w6.setCell ⟨b, 2, none⟩ (.slice Av tk.length cv)) := below_only HRel.out.bel hg7 HRel.out.bel.size (fun j e => by injection e with e; rw [← e]; exact HG.out)
      have HC7 := Lib.hid hc7
      have HSz : Hid ((w6.setCell ⟨b, 2, none⟩ (.slice Av tk.length cv)).heap.size = w6.heap.size) := Lib.hid (by simp)
      have HO7 := Lib.hid ho7
      have HN7 := Lib.hid hn7
      have HB7 := Lib.hid hB7
      have HZ7 : Hid (g + 1 ≤ (w6.setCell ⟨b, 2, none⟩ (.slice Av tk.length cv)).heap.size) := Lib.hid hc7.lt
      clear hn6 hc6 hg6 hk6 hk7 hset hc7 hg7 ho7 hn7 hB7 HC5 HG5 HK5
      rcases HM.out with ⟨r', h1, h2, h3⟩ | ⟨h1, h3⟩
      · have hl1 := part1_lt h1
        subst h2
        have HS : Hid (partsR l = ((done ++ [(0, k, tk)]) ++ (partsR (l.drop a3)).1, (partsR (l.drop a3)).2)) := Lib.hid (by rw [HRel.out.goes, partsR_some HN0.out h1]; simp)
        have hl2 : at_ < a3 := by rw [List.length_drop, List.length_drop] at hl1; omega
        have HCnt : Hid ((done ++ [((0 : Int), k, tk)]).length ≤ a3) := Lib.hid (by have := HRel.out.cnt; simp; omega)
        have HLen : Hid (done.length ≤ 3000000000000) := Lib.hid (by have := HRel.out.cnt; omega)
        subst h3
        clear h1 HM hl1
        have HX := Lib.hid (And.intro x0 (And.intro x1 x2))
        clear x0 x1 x2
        go_wp2_with (first
          | (refine raw_fetch rfl _ rfl b 0 0 k Av tk.length cv rfl HX.out.1 HX.out.2.1 HX.out.2.2 ?_)
          | (at_builtin; refine app_raw (f := 0) (k := k) (body := tk) rfl _ _ rfl HO7.out HZ7.out HLen.out HN7.out rfl (by rw [HSz.out]; rfl) ?_))
        intro v' w8 hO8 hg8 hold
        have hb8 : Below (g + 1) (w6.setCell ⟨b, 2, none⟩ (.slice Av tk.length cv)) w8 := (Below.refl _ _).grown hg8 HZ7.out (fun i e => (hold i e).1)
        have hC8 : IsRef w8 g l a3 0 := HC7.out.keep hb8
        have HR8 : Hid (PaRel w g l v' w8 a3 (done ++ [(0, k, tk)])) := Lib.hid ⟨hC8, hO8, HB7.out.trans (hb8.mono (Nat.le_succ_of_le HG.out)), HS.out, HCnt.out⟩
        clear hO8 hg8 hold hb8 hC8 c2 d2 f2
        go_wp2
        refine ⟨⟨a3, _, HR8.out⟩, ?_⟩
        have hM8 : w8.cell? ⟨g, 1, none⟩ = some (.int .i64 (a3 : Nat)) := by obtain ⟨_, _, q, _, _⟩ := HR8.out.cur.ex; exact Blk.cell q 1
        rw [HM0.out, hM8]
        simp [intOf]
        omega
      · have HS : Hid (partsR l = (done, false)) := Lib.hid (by rw [HRel.out.goes, partsR_none HN0.out h1]; simp)
        subst h3
        clear h1 HM x0 x1 x2
        go_wp2
        go_ret2
        exact ⟨HB7.out, _, by rw [HS.out]; rfl, by rw [HS.out]; exact HO7.out.low (Nat.le_succ_of_le HG.out)⟩
    · obtain rfl : at_ = l.length := by omega
      have HS : Hid (partsR l = (done, true)) := Lib.hid (by have h := HRel.out.goes; rw [List.drop_length, partsR_nil] at h; simpa using h)
      go_wp2
      go_ret2
      exact ⟨below_drewN HRel.out.bel k1, _, by rw [HS.out]; rfl, by rw [HS.out]; exact (HRel.out.own.below (below_drewN (Below.refl _ _) k1)).low (Nat.le_succ_of_le HG.out)⟩
end Go.Proofs.YtgfjjkckamppoaaDoor
