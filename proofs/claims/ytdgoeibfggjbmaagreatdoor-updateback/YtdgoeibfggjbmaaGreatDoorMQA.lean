/-
  Put together: UqA UqB ShelfS UqS UqC.
-/
import Derived.Test.YtdgoeibfggjbmaaGreatDoorMPA
import Derived.Shelf.SlSortCmp.NoneTotal
import Derived.Shelf.SlGeneric
import Derived.Ground.SlsfProg
import Derived.Test.YtdgoeibfggjbmaaGreatDoorProg
namespace Go.Proofs.YtdgoeibfggjbmaaGreatDoor
open Go.RowKit
set_option maxRecDepth 100000
set_option linter.unusedSimpArgs false
set_option linter.unusedVariables false

set_option maxHeartbeats 400000 in
theorem isnt_is (w : World) (r : Rt) (hr : RtOk r) : Calls Tryz.prog 138 #[.agg (rtc r).toArray] w fun e w' => e = .returned (.bool (!rightR r)) ∧ Below w.heap.size w w' := by
  have HR := Lib.hid hr
  have H1 := Lib.hid (RtAt.new w r hr 53)
  have HB1 := Lib.hid (bl_one w (.cells (rtc r).toArray 53))
  have HRi := Lib.hid (fun W => rightRt_is W r hr)
  clear hr
  cases hrr : rightR r
  · have HE : Hid (errR r = 2) := Lib.hid (by unfold errR; rw [hrr]; rfl)
    go_enter Tryz.func138, Tryz.ntmps138
    go_wp2_with (first | (refine rt_fetch rfl _ rfl w.heap.size r HR.out rfl H1.out ?_) | fail)
    refine (HRi.out _).mono ?_
    rintro e w2 ⟨rfl, hB⟩
    have HB2 := Lib.hid (HB1.out.trans (hB.mono HB1.out.size))
    clear hB
    rw [HE.out]
    go_wp2
    go_ret
    exact ⟨rfl, HB2.out⟩
  · have HE : Hid (errR r = 0) := Lib.hid (by unfold errR; rw [hrr]; rfl)
    go_enter Tryz.func138, Tryz.ntmps138
    go_wp2_with (first | (refine rt_fetch rfl _ rfl w.heap.size r HR.out rfl H1.out ?_) | fail)
    refine (HRi.out _).mono ?_
    rintro e w2 ⟨rfl, hB⟩
    have HB2 := Lib.hid (HB1.out.trans (hB.mono HB1.out.size))
    clear hB
    rw [HE.out]
    go_wp2
    go_ret
    exact ⟨rfl, HB2.out⟩
def IdxP (w : World) (rs : List Rt) (e : Ending) (w' : World) : Prop := ∃ i : Int, e = .returned (.int .i64 i) ∧ (decide (0 ≤ i) = !rightsB rs) ∧ Below w.heap.size w w'
theorem rights_no {rs : List Rt} {m : Nat} (hm : m < rs.length) (h : rightR rs[m] = false) : rightsB rs = false := by
  unfold rightsB
  rw [List.all_eq_false]
  exact ⟨rs[m], List.getElem_mem hm, by rw [h]; decide⟩
theorem rights_yes {rs : List Rt} (h : ∀ j (hj : j < rs.length), rightR rs[j] = true) : rightsB rs = true := by
  unfold rightsB
  rw [List.all_eq_true]
  intro r hr
  obtain ⟨j, hj, rfl⟩ := List.getElem_of_mem hr
  exact h j hj
set_option maxHeartbeats 1000000 in
theorem idxRt_is (w : World) (A : Option Addr) (n c : Nat) (rs : List Rt) (hr : RdRt w w.heap.size A n rs) (hn : n ≤ 1000000000000) : Calls Tryz.prog 188 #[.slice A n c, .func (.func 138) #[] #[]] w (IdxP w rs) := by
  have HR := Lib.hid hr
  have HLen := Lib.hid hr.len
  clear hr
  go_enter Tryz.func188, Tryz.ntmps188
  go_wp2
  go_loopw [5, 8] (fun _ i wr => ∃ m : Nat, m ≤ n ∧ i = .int .i64 m ∧ (Below w.heap.size w wr ∧ ∀ j (hj : j < rs.length), j < m → rightR rs[j] = true)) (fun _ i _ => n - (intOf i).toNat)
  case atStart => exact ⟨0, Nat.zero_le _, rfl, Below.refl _ _, fun j hj h => by omega⟩
  case round =>
    obtain ⟨m, hm, rfl, hrel⟩ := hrel
    have HRel := Lib.hid hrel
    clear hrel
    by_cases hlt : m < n
    · have hml : m < rs.length := by have := HLen.out; omega
      obtain ⟨b, off, rfl, hb, hrng, ok⟩ := (HR.out.below HRel.out.1).get hml
      have HRng := Lib.hid hrng
      have HOx := Lib.hid ok
      have HNo := Lib.hid (rights_no hml)
      have HX := Lib.hid (fun (h : rightR rs[m] = true) j (hj : j < rs.length) (hjm : j < m + 1) => (show rightR rs[j] = true from by
        rcases Nat.lt_or_ge j m with h1 | h1
        · exact HRel.out.2 j hj h1
        · obtain rfl : j = m := by omega
          exact h))
      generalize rs[m] = x at *
      have HI := Lib.hid (isnt_is wr x ok)
      have hi0 : (0 : Int) ≤ (m : Int) := by omega
      have hi1 : (m : Int) < (n : Int) := by omega
      clear hrng ok
      cases hrr : rightR x
      · rw [hrr] at HI
        have HN := Lib.hid (HNo.out hrr)
        clear hrr HNo HX
        go_wp2_with (first | (refine part_fetch rfl 53 _ rfl b (off + m * 63) (rtc x) _ rfl HRng.out Tryz.underlying53 rfl (by rw [rt_size, rtc_len HOx.out]) ?_) | (go_at_call 138; refine HI.out.mono ?_; rintro e w2 ⟨rfl, hB⟩; have HB2 := Lib.hid (HRel.out.1.trans (hB.mono HRel.out.1.size)); clear hB) | fail)
        go_ret
        exact ⟨m, rfl, by rw [HN.out]; simp, HB2.out⟩
      · rw [hrr] at HI
        have HN := Lib.hid (HX.out hrr)
        clear hrr HNo HX
        go_wp2_with (first | (refine part_fetch rfl 53 _ rfl b (off + m * 63) (rtc x) _ rfl HRng.out Tryz.underlying53 rfl (by rw [rt_size, rtc_len HOx.out]) ?_) | (go_at_call 138; refine HI.out.mono ?_; rintro e w2 ⟨rfl, hB⟩; have HB2 := Lib.hid (HRel.out.1.trans (hB.mono HRel.out.1.size)); clear hB) | fail)
        exact ⟨⟨m + 1, by omega, by go_num, HB2.out, HN.out⟩, by simp [intOf]; omega⟩
    · obtain rfl : m = n := by omega
      have HY : Hid (rightsB rs = true) := Lib.hid (rights_yes fun j hj => HRel.out.2 j hj (by have := HLen.out; omega))
      go_wp2
      go_ret
      exact ⟨-1, rfl, by rw [HY.out]; rfl, HRel.out.1⟩
theorem areRight_is (w : World) (A : Option Addr) (n c : Nat) (rs : List Rt) (hr : RdRt w w.heap.size A n rs) (hn : n ≤ 1000000000000) : Calls Tryz.prog 88 #[.slice A n c] w fun e w' => e = .returned (.bool (rightsB rs)) ∧ Below w.heap.size w w' := by
  have HI := Lib.hid (idxRt_is w A n c rs hr hn)
  have HC : Calls Tryz.prog 137 #[.slice A n c, .func (.func 138) #[] #[]] w fun e w' => e = .returned (.bool (!rightsB rs)) ∧ Below w.heap.size w w' := by
    clear hr
    go_enter Tryz.func137, Tryz.ntmps137
    go_wp2_with fail
    refine HI.out.mono ?_
    rintro e w2 ⟨i, rfl, hi, hB⟩
    have HB := Lib.hid hB
    have HIi := Lib.hid hi
    clear hB hi
    go_wp2
    go_ret
    exact ⟨by rw [← HIi.out]; rfl, HB.out⟩
  have HCC := Lib.hid HC
  clear HC hr HI
  cases hb : rightsB rs
  · rw [hb] at HCC
    go_enter Tryz.func88, Tryz.ntmps88
    go_wp2_with fail
    refine HCC.out.mono ?_
    rintro e w2 ⟨rfl, hB⟩
    have HB := Lib.hid hB
    clear hB
    go_wp2
    go_ret
    exact ⟨rfl, HB.out⟩
  · rw [hb] at HCC
    go_enter Tryz.func88, Tryz.ntmps88
    go_wp2_with fail
    refine HCC.out.mono ?_
    rintro e w2 ⟨rfl, hB⟩
    have HB := Lib.hid hB
    clear hB
    go_wp2
    go_ret
    exact ⟨rfl, HB.out⟩

/-! Bytes. -/
theorem numU7_is (w : World) (n : Int) (s : Nat) (h0 : 0 ≤ n) (h1 : 1 ≤ s) (h8 : s ≤ 8) (hf : n < 256 ^ s) (hi : n ≤ 4294967295) : Calls Tryz.prog 52 #[.int .i64 n, .int .i64 s] w (NumPost w n s) := by
  have HP := Lib.hid (put_fits w none 0 0 [] n s (Rd.nil_ none) (by omega) h0 (by omega) (by omega) (by omega) (by simpa using hf))
  have hw : n % 18446744073709551616 = n := Int.emod_eq_of_lt h0 (by omega)
  clear hf
  go_enter Tryz.func52, Tryz.ntmps52
  go_wp2_with fail
  refine HP.out.mono ?_
  rintro e w1 ⟨rfl, hb, hB⟩
  have HEnd : Hid (NumPost w n s (.returned (.slice (some ⟨w.heap.size, 0, none⟩) s s)) w1) := Lib.hid ⟨rfl, by simpa using hb, hB⟩
  clear hb hB
  simp only [List.length_nil, Nat.zero_add, Int.toNat_natCast]
  go_wp2
  go_ret
  exact HEnd.out
theorem own_byt {lo g : Nat} {W : World} {l : List Int} {s : Nat} (h : Byt W g 5 l) (ho : Oct l) (hs : l.length = s) (hg : lo ≤ g) (hn : s ≤ 1000000) : OwnB lo W (.slice (some ⟨g, 0, none⟩) s s) l := by
  subst hs
  exact ⟨⟨by simp, .inr ⟨g, l.length, _, rfl, hg, h, Nat.le_refl _, by unfold maxLen; omega, by simp, List.take_of_length_le (by simp)⟩⟩, ho⟩
def FamP (w : World) (e : Ending) (w' : World) : Prop := ∃ v, e = .returned v ∧ OwnB w.heap.size w' v famB ∧ Below w.heap.size w w'
theorem rd_lit (W : World) (l : List Int) (ho : Oct l) : Rd (W.alloc (.cells (l.map (Value.int .u8)).toArray 5)) (W.alloc (.cells (l.map (Value.int .u8)).toArray 5)).heap.size (some ⟨W.heap.size, 0, none⟩) l.length l := by
  have hb : Byt (W.alloc (.cells (l.map (Value.int .u8)).toArray 5)) W.heap.size 5 l := Blk.new W 5 _
  exact hb.rd_all ho (by simp)
theorem oct70 : Oct [70] := by unfold Oct; decide
theorem family7_is (w : World) : Calls Tryz.prog 92 #[] w (FamP w) := by
  go_enter Tryz.func92, Tryz.ntmps92
  go_wp2_with fail
  refine (numU7_is w 25 2 (by omega) (by omega) (by omega) (by decide) (by omega)).mono ?_
  rintro e w1 ⟨rfl, hb, hB⟩
  have hO : OwnB w.heap.size w1 (.slice (some ⟨w.heap.size, 0, none⟩) 2 2) [0, 25] := own_byt hb (by unfold Oct; decide) rfl (Nat.le_refl _) (by omega)
  have HO := Lib.hid (hO.below (bl_one w1 (.cells #[.int .u8 70] 5)))
  have HRd := Lib.hid (show Rd (w1.alloc (.cells #[.int .u8 70] 5)) (w1.alloc (.cells #[.int .u8 70] 5)).heap.size (some ⟨w1.heap.size, 0, none⟩) 1 [70] from rd_lit w1 [70] oct70)
  have hs : w.heap.size ≤ (w1.alloc (.cells #[.int .u8 70] 5)).heap.size := by have := hB.size; simp; omega
  have HB := Lib.hid (hB.trans ((bl_one w1 (.cells #[.int .u8 70] 5)).mono hB.size))
  clear hb hB hO
  go_wp2_with (at_builtin; refine app_bs rfl _ _ rfl HO.out hs HRd.out (by simp) rfl rfl ?_)
  intro v' w2 ho2 hb2 _ _
  have HO2 := Lib.hid ho2
  have HB2 := Lib.hid (HB.out.trans hb2)
  clear ho2 hb2
  go_wp2
  go_ret
  exact ⟨v', rfl, HO2.out, HB2.out⟩

def MadeU (w : World) (k : Int) (l : List Int) (e : Ending) (w' : World) : Prop :=
  ∃ A c, e = .returned (.agg #[.int .i64 (lfl 128 l), .int .i64 k, .slice A l.length c]) ∧ BodyT 67 w.heap.size w' A l.length l ∧ Below w.heap.size w w'
set_option maxHeartbeats 4000000 in
theorem made7_is (w : World) (k : Int) (A : Option Addr) (n c : Nat) (ls : List (List Int)) (hr : RdL w w.heap.size A n ls) (hn : n ≤ 1000000) (hfl : ls.flatten.length ≤ 140737488355328) :
    Calls Tryz.prog 91 #[.int .i64 k, .slice A n c] w (MadeU w k ls.flatten) := by
  have hal := bl_one w (.cells #[.int .i64 0, .int .i64 0, .slice none 0 0] 67)
  have hR0 := Blk.new w 67 #[.int .i64 0, .int .i64 0, .slice none 0 0]
  have HC := Lib.hid (concat_is _ A n c ls ((hr.below hal).more hal.size) hn hfl)
  have HB0 := Lib.hid hal
  have HR0 := Lib.hid hR0
  generalize hl : ls.flatten = l at *
  clear hr hal hR0 hl
  go_enter Tryz.func91, Tryz.ntmps91
  go_wp2_with fail
  refine HC.out.mono ?_
  rintro e w1 ⟨v, rfl, hO, hB⟩
  obtain ⟨A2, c2, rfl, hbd⟩ := hO.bodyT (T0 := 67) (by decide)
  have hs0 : w.heap.size < (w.alloc (.cells #[.int .i64 0, .int .i64 0, .slice none 0 0] 67)).heap.size := by simp
  have hres := HR0.out.below hB hs0
  have hlow := HB0.out.trans (hB.mono (Nat.le_of_lt hs0))
  have hlt : w.heap.size < w1.heap.size := hres.lt
  have hbd1 := hbd.low (Nat.le_of_lt hs0)
  -- the attribute's own block
  have hal2 := bl_one w1 (.cells #[.int .i64 0, .int .i64 0, .slice none 0 0] 67)
  have hq := Blk.new w1 67 #[.int .i64 0, .int .i64 0, .slice none 0 0]
  have HQ := Lib.hid hq
  have hbd2 := (hbd1.below hal2).row hq (cs' := #[.int .i64 128, .int .i64 k, .slice A2 l.length c2])
  have hres2 := Blk.setRow_other5 (hres.below hal2 hlt) (g' := w1.heap.size) (by omega) #[.int .i64 128, .int .i64 k, .slice A2 l.length c2]
  have hlow2 := (hlow.trans (hal2.mono hlow.size)).trans (below_setRow (w1.alloc (.cells #[.int .i64 0, .int .i64 0, .slice none 0 0] 67)) w1.heap.size #[.int .i64 128, .int .i64 k, .slice A2 l.length c2] (B := w.heap.size) (by omega))
  have hq2 := Blk.setRow hq #[.int .i64 128, .int .i64 k, .slice A2 l.length c2]
  have HBd2 := Lib.hid hbd2
  have HRes2 := Lib.hid hres2
  have HLow2 := Lib.hid hlow2
  have HQ2 := Lib.hid hq2
  have f0 := hq2.frozen 0
  have q0 : ((w1.alloc (.cells #[.int .i64 0, .int .i64 0, .slice none 0 0] 67)).setRow w1.heap.size #[.int .i64 128, .int .i64 k, .slice A2 l.length c2]).cell? ⟨w1.heap.size, 0, none⟩ = some (.int .i64 128) := hq2.cell 0
  have q2 : ((w1.alloc (.cells #[.int .i64 0, .int .i64 0, .slice none 0 0] 67)).setRow w1.heap.size #[.int .i64 128, .int .i64 k, .slice A2 l.length c2]).cell? ⟨w1.heap.size, 2, none⟩ = some (.slice A2 l.length c2) := hq2.cell 2
  clear hO hB hbd hres hlow hbd1 hal2 hq hbd2 hres2 hlow2 hq2 HB0 HR0 HC
  by_cases h255 : 255 < l.length
  · have hi : (l.length : Int) > 255 := by omega
    have HLf : Hid (lfl 128 l = 144) := Lib.hid (by unfold lfl; rw [if_pos h255]; rfl)
    have hor : bits .or .i64 128 16 = 144 := by decide
    have hq3 := HQ2.out.set_ 0 (.int .i64 144)
    rw [show (#[Value.int .i64 128, .int .i64 k, .slice A2 l.length c2]).setIfInBounds 0 (.int .i64 144) = #[Value.int .i64 144, .int .i64 k, .slice A2 l.length c2] from rfl] at hq3
    have HW : Hid (Blk (((w1.alloc (.cells #[.int .i64 0, .int .i64 0, .slice none 0 0] 67)).setRow w1.heap.size #[.int .i64 128, .int .i64 k, .slice A2 l.length c2]).setCell ⟨w1.heap.size, 0, none⟩ (.int .i64 144)) w.heap.size 67 #[.int .i64 0, .int .i64 0, .slice none 0 0]) := Lib.hid (HRes2.out.far (p := ⟨w1.heap.size, 0, none⟩) (by show w.heap.size ≠ w1.heap.size; omega) _)
    have HBd3 := Lib.hid (((HBd2.out.cellr (o := 0) (u := .int .i64 144) HQ2.out)).row HW.out (cs' := #[.int .i64 144, .int .i64 k, .slice A2 l.length c2]))
    have HLow3 := Lib.hid ((HLow2.out.setCell (p := ⟨w1.heap.size, 0, none⟩) (by show w.heap.size ≤ w1.heap.size; omega) (.int .i64 144)).trans (below_setRow _ w.heap.size #[.int .i64 144, .int .i64 k, .slice A2 l.length c2] (Nat.le_refl _)))
    have HQ3 := Lib.hid hq3
    have HEnd : Hid (∀ W, W = ((((w1.alloc (.cells #[.int .i64 0, .int .i64 0, .slice none 0 0] 67)).setRow w1.heap.size #[.int .i64 128, .int .i64 k, .slice A2 l.length c2]).setCell ⟨w1.heap.size, 0, none⟩ (.int .i64 144)).setRow w.heap.size #[.int .i64 144, .int .i64 k, .slice A2 l.length c2]) → MadeU w k l (.returned (.agg #[.int .i64 144, .int .i64 k, .slice A2 l.length c2])) W) := Lib.hid (fun W hW => by subst hW; exact ⟨A2, c2, by rw [HLf.out], HBd3.out, HLow3.out⟩)
    clear hq3 h255
    go_wp2_with (first
      | (refine raw_store rfl _ _ rfl w1.heap.size 128 k A2 l.length c2 rfl rfl 67 _ HQ.out rfl ?_)
      | (refine raw_fetch rfl _ rfl w1.heap.size 0 144 k A2 l.length c2 rfl (HQ3.out.cell 0) (HQ3.out.cell 1) (HQ3.out.cell 2) ?_)
      | (refine raw_store rfl _ _ rfl w.heap.size 144 k A2 l.length c2 rfl rfl 67 _ HW.out rfl ?_))
    try simp only [Exit.inBlock, Exit.then]
    exact bodyPost_ret (results_cell_row rfl _ _ w.heap.size 67 _ (0, 0) _ rfl (Blk.setRow HW.out _) Tryz.underlying67 rfl rsz) rfl (HEnd.out _ rfl)
  · have hi : ¬ (l.length : Int) > 255 := by omega
    have HLf : Hid (lfl 128 l = 128) := Lib.hid (by unfold lfl; rw [if_neg h255])
    have HBd3 := Lib.hid (HBd2.out.row HRes2.out (cs' := #[.int .i64 128, .int .i64 k, .slice A2 l.length c2]))
    have HLow3 := Lib.hid (HLow2.out.trans (below_setRow _ w.heap.size #[.int .i64 128, .int .i64 k, .slice A2 l.length c2] (Nat.le_refl _)))
    have HEnd : Hid (∀ W, W = (((w1.alloc (.cells #[.int .i64 0, .int .i64 0, .slice none 0 0] 67)).setRow w1.heap.size #[.int .i64 128, .int .i64 k, .slice A2 l.length c2]).setRow w.heap.size #[.int .i64 128, .int .i64 k, .slice A2 l.length c2]) → MadeU w k l (.returned (.agg #[.int .i64 128, .int .i64 k, .slice A2 l.length c2])) W) := Lib.hid (fun W hW => by subst hW; exact ⟨A2, c2, by rw [HLf.out], HBd3.out, HLow3.out⟩)
    clear h255
    go_wp2_with (first
      | (refine raw_store rfl _ _ rfl w1.heap.size 128 k A2 l.length c2 rfl rfl 67 _ HQ.out rfl ?_)
      | (refine raw_fetch rfl _ rfl w1.heap.size 0 128 k A2 l.length c2 rfl (HQ2.out.cell 0) (HQ2.out.cell 1) (HQ2.out.cell 2) ?_)
      | (refine raw_store rfl _ _ rfl w.heap.size 128 k A2 l.length c2 rfl rfl 67 _ HRes2.out rfl ?_))
    try simp only [Exit.inBlock, Exit.then]
    exact bodyPost_ret (results_cell_row rfl _ _ w.heap.size 67 _ (0, 0) _ rfl (Blk.setRow HRes2.out _) Tryz.underlying67 rfl rsz) rfl (HEnd.out _ rfl)
end Go.Proofs.YtdgoeibfggjbmaaGreatDoor
namespace Go.Proofs.YtdgoeibfggjbmaaGreatDoor
open Go.RowKit
set_option maxRecDepth 100000
set_option linter.unusedSimpArgs false
set_option linter.unusedVariables false

def NxP (w : World) (v : Bool) (l : List Int) (e : Ending) (w' : World) : Prop := ∃ x, e = .returned x ∧ OwnB w.heap.size w' x (nextB v l) ∧ Below w.heap.size w w'
structure NbS (w W : World) (v : Bool) (l : List Int) : Prop where
  rng : W.rangeAt w.heap.size 0 (ipc v l)
  low : Below w.heap.size w W
  lt : w.heap.size < W.heap.size
theorem NbS.below {w W W' : World} {v : Bool} {l : List Int} (h : NbS w W v l) (hB : Below W.heap.size W W') : NbS w W' v l := ⟨range_below h.rng hB h.lt, h.low.trans (hB.mono h.low.size), Nat.lt_of_lt_of_le h.lt hB.size⟩
theorem NbS.rd {w W : World} {v : Bool} {l : List Int} (h : NbS w W v l) (ho : Oct l) (k : Nat) (hk : k ≤ l.length) : Rd W W.heap.size (some ⟨w.heap.size, 1, none⟩) k (l.take k) := by
  have := rd_range (pre := [Value.bool v]) (post := []) (l := l) (b := w.heap.size) (B := W.heap.size) (w := W) (by simpa using h.rng) ho 0 k (by omega) h.lt
  simpa using this
theorem Rd.up7 {W W' : World} {A : Option Addr} {n : Nat} {l : List Int} (h : Rd W W.heap.size A n l) (hB : Below W.heap.size W W') : Rd W' W'.heap.size A n l := (h.below hB).more hB.size
theorem NumPost.rd7 {w W : World} {n : Int} {s : Nat} {e : Ending} (h : NumPost w n s e W) : e = .returned (.slice (some ⟨w.heap.size, 0, none⟩) s s) ∧ Rd W W.heap.size (some ⟨w.heap.size, 0, none⟩) s (be s n) ∧ Below w.heap.size w W := by
  obtain ⟨h1, h2, h3⟩ := h
  have := h2.rd_all (B := W.heap.size) (be_oct _ _) h2.lt
  rw [be_len] at this
  exact ⟨h1, this, h3⟩
set_option maxHeartbeats 2000000 in
theorem next7_is (w : World) (v : Bool) (l : List Int) (hl : l.length = 16) (ho : Oct l) : Calls Tryz.prog 93 #[.agg (ipc v l).toArray] w (NxP w v l) := by
  have h0 := range_new w 27 (ipc v l)
  have H0 := Lib.hid h0
  have HL := Lib.hid hl
  have HO := Lib.hid ho
  have hsl := slice_arr_h (P := Tryz.prog) (t := 25) (e := 5) (n := 16) Tryz.underlying25 (by kernel_rfl) w.heap.size 1 (nb v) (by unfold nb; split <;> omega) (by omega)
  have HB0 := Lib.hid ((Below.refl w.heap.size w).alloc (Nat.le_refl _) (.cells (ipc v l).toArray 27))
  have hbv : (v = true ∧ nb v = 16 ∧ bitsOf v = 128) ∨ (v = false ∧ nb v = 4 ∧ bitsOf v = 32) := by cases v <;> simp [nb, bitsOf]
  have HBt := Lib.hid (fun W => bits_is W v l)
  have HNx : Hid ([be 1 (nb v : Int), l.take (nb v), be 1 0].flatten = nextB v l) := Lib.hid (by
    have e1 : be 1 (nb v : Int) = [(nb v : Int)] := be_num1 _ (by unfold nb; split <;> omega)
    rw [e1]; simp [nextB, be])
  have HNl : Hid ((nextB v l).length ≤ 100) := Lib.hid (by unfold nextB nb; split <;> simp <;> omega)
  clear h0 hl ho
  go_enter Tryz.func93, Tryz.ntmps93
  go_wp2_with (refine ip_fetch rfl _ rfl w.heap.size 0 v l HL.out rfl H0.out ?_)
  refine (HBt.out _).mono ?_
  rintro e w1 ⟨rfl, hB⟩
  have hs1 : w.heap.size < w1.heap.size := by have := hB.size; simp at this; omega
  have HS1 : Hid (NbS w w1 v l) := Lib.hid ⟨range_below H0.out hB (by simp), HB0.out.trans (hB.mono HB0.out.size), hs1⟩
  clear hB hs1
  rcases hbv with ⟨rfl, e1, e2⟩ | ⟨rfl, e1, e2⟩
  · rw [e1] at hsl HNx
    rw [e2]
    have hs2 := hsl 16 rfl
    have hb16 : 16 ≤ l.length := by rw [HL.out]; omega
    clear hsl
    go_wp2_with fail
    refine wp_region_held_drew (S := fun W => NbS w W true l) (by kernel_rfl) (HS1.out.below (below_drewN (Below.refl _ _) 1)) (fun hS => ?_)
    refine wpAnyH_take (i := 0) (oi := ⟨some 7, _, _, _, _, _⟩) (v := ?_) rfl (by kernel_rfl) (by kernel_rfl) (by kernel_rfl) (fun _ _ _ h => h) (Or.inl ⟨by rfl, ?_⟩) hS ?_
    rotate_left
    · intro wq hq
      first | (go_simp; done) | (go_simp; rfl)
    try simp only [Act.put, zP, zQ, zR]
    refine wpAnyH_take (i := 2) (oi := ⟨some 9, _, _, _, _, _⟩) (v := ?_) rfl (by kernel_rfl) (by kernel_rfl) (by kernel_rfl) (fun _ _ _ h => h) (Or.inl ⟨by rfl, ?_⟩) hS ?_
    rotate_left
    · intro wq hq
      first | (go_simp; done) | (go_simp; rfl)
    try simp only [Act.put, zP, zQ, zR]
    refine wpAnyH_take (i := 3) (oi := ⟨some 10, _, _, _, _, _⟩) (v := ?_) rfl (by kernel_rfl) (by kernel_rfl) (by kernel_rfl) (fun _ _ _ h => h) (Or.inl ⟨by rfl, ?_⟩) hS ?_
    rotate_left
    · intro wq hq
      first | (go_simp; done) | (go_simp; rfl)
    try simp only [Act.put, zP, zQ, zR]
    refine wpAnyH_take (i := 4) (oi := ⟨some 11, _, _, _, _, _⟩) (v := ?_) rfl (by kernel_rfl) (by kernel_rfl) (by kernel_rfl) (fun _ _ _ h => h) (Or.inl ⟨by rfl, ?_⟩) hS ?_
    rotate_left
    · intro wq hq
      first | (go_simp; done) | (go_simp; rfl)
    try simp only [Act.put, zP, zQ, zR]
    generalize w1.drew = W1 at *
    clear HS1
    refine wpAnyH_ready (rs := [1]) (by kernel_rfl) (by simp) ?_
    refine AllReadyH.cons (o := ⟨some 8, _, _, _, _, _⟩) rfl (fun K hK => ?_) AllReadyH.nil
    rw [if_pos (by rfl)]
    go_wp2_with fail
    refine (numU7_is W1 16 1 (by omega) (by omega) (by omega) (by decide) (by omega)).mono ?_
    rintro e W2 hnp
    obtain ⟨rfl, r1, hB⟩ := hnp.rd7
    have hS2 := hS.below hB
    clear hB hS hnp
    refine hK.out _ _ (hS2) (fun hS => ?_)
    clear hK K
    try simp only [Act.put, zP, zQ, zR]
    clear hS2
    refine wpAnyH_ready (rs := [5]) (by kernel_rfl) (by simp) ?_
    refine AllReadyH.cons (o := ⟨some 12, _, _, _, _, _⟩) rfl (fun K hK => ?_) AllReadyH.nil
    rw [if_pos (by rfl)]
    go_wp2_with fail
    refine (numU7_is W2 0 1 (by omega) (by omega) (by omega) (by decide) (by omega)).mono ?_
    rintro e W3 hnp
    obtain ⟨rfl, r2, hB⟩ := hnp.rd7
    have hS3 := hS.below hB
    have r1 := r1.up7 hB
    clear hB hS hnp
    refine hK.out _ _ (hS3) (fun hS => ?_)
    clear hK K
    try simp only [Act.put, zP, zQ, zR]
    clear hS3
    refine wpAnyH_ready (rs := [6]) (by kernel_rfl) (by simp) ?_
    refine AllReadyH.cons (o := ⟨some 13, _, _, _, _, _⟩) rfl (fun K hK => ?_) AllReadyH.nil
    rw [if_pos (by rfl)]
    go_wp2
    have hL := rdl_new_at (W := W3) (vs := [(some ⟨W1.heap.size, 0, none⟩, 1, 1), (some ⟨w.heap.size, 1, none⟩, 16, 16), (some ⟨W2.heap.size, 0, none⟩, 1, 1)]) (ls := [be 1 16, l.take 16, be 1 0]) ⟨r1, hS.rd HO.out 16 hb16, r2, trivial⟩ 38 _ rfl _ rfl
    have hSn := hS.below (bl_one W3 (.cells #[.slice (some ⟨W1.heap.size, 0, none⟩) 1 1, .slice (some ⟨w.heap.size, 1, none⟩) 16 16, .slice (some ⟨W2.heap.size, 0, none⟩) 1 1] 38))
    refine hK.out _ _ (hSn) (fun hS => ?_)
    clear hK K
    try simp only [Act.put, zP, zQ, zR]
    clear hSn r1 r2
    have hNx := HNx.out
    have hNl := HNl.out
    refine wpAnyH_ready (rs := [7]) (by kernel_rfl) (by simp) ?_
    refine AllReadyH.cons (o := ⟨some 14, _, _, _, _, _⟩) rfl (fun K hK => ?_) AllReadyH.nil
    rw [if_pos (by rfl)]
    go_wp2_with fail
    refine (concat_is _ _ 3 3 _ hL (by omega) (by rw [show ([be 1 16, l.take 16, be 1 0] : List (List Int)).flatten = nextB true l from hNx]; omega)).mono ?_
    rintro e W4 ⟨x, rfl, hO, hB⟩
    have hS4 := hS.below hB
    have HO4 := Lib.hid (hO.low (lo' := w.heap.size) hS.low.size)
    have HLow := Lib.hid hS4.low
    clear hB hS hO hL hNl
    refine hK.out _ _ (hS4) (fun hS => ?_)
    clear hK K
    try simp only [Act.put, zP, zQ, zR]
    clear hS4
    refine wpAnyH_take (i := 8) (oi := ⟨some 2, _, _, _, _, _⟩) (v := ?_) rfl (by kernel_rfl) (by kernel_rfl) (by kernel_rfl) (fun _ _ _ h => h) (Or.inl ⟨by rfl, ?_⟩) hS ?_
    rotate_left
    · intro wq hq
      first | (go_simp; done) | (go_simp; rfl)
    try simp only [Act.put, zP, zQ, zR]
    refine wpAnyH_done (by kernel_rfl) ?_ _
    go_wp2
    go_ret
    exact ⟨x, rfl, by have := HO4.out; rwa [show ([be 1 16, l.take 16, be 1 0] : List (List Int)).flatten = nextB true l from hNx] at this, HLow.out⟩
  · rw [e1] at hsl HNx
    rw [e2]
    have hs2 := hsl 4 rfl
    have hb16 : 4 ≤ l.length := by rw [HL.out]; omega
    clear hsl
    go_wp2_with fail
    refine wp_region_held_drew (S := fun W => NbS w W false l) (by kernel_rfl) (HS1.out.below (below_drewN (Below.refl _ _) 1)) (fun hS => ?_)
    refine wpAnyH_take (i := 0) (oi := ⟨some 7, _, _, _, _, _⟩) (v := ?_) rfl (by kernel_rfl) (by kernel_rfl) (by kernel_rfl) (fun _ _ _ h => h) (Or.inl ⟨by rfl, ?_⟩) hS ?_
    rotate_left
    · intro wq hq
      first | (go_simp; done) | (go_simp; rfl)
    try simp only [Act.put, zP, zQ, zR]
    refine wpAnyH_take (i := 2) (oi := ⟨some 9, _, _, _, _, _⟩) (v := ?_) rfl (by kernel_rfl) (by kernel_rfl) (by kernel_rfl) (fun _ _ _ h => h) (Or.inl ⟨by rfl, ?_⟩) hS ?_
    rotate_left
    · intro wq hq
      first | (go_simp; done) | (go_simp; rfl)
    try simp only [Act.put, zP, zQ, zR]
    refine wpAnyH_take (i := 3) (oi := ⟨some 10, _, _, _, _, _⟩) (v := ?_) rfl (by kernel_rfl) (by kernel_rfl) (by kernel_rfl) (fun _ _ _ h => h) (Or.inl ⟨by rfl, ?_⟩) hS ?_
    rotate_left
    · intro wq hq
      first | (go_simp; done) | (go_simp; rfl)
    try simp only [Act.put, zP, zQ, zR]
    refine wpAnyH_take (i := 4) (oi := ⟨some 11, _, _, _, _, _⟩) (v := ?_) rfl (by kernel_rfl) (by kernel_rfl) (by kernel_rfl) (fun _ _ _ h => h) (Or.inl ⟨by rfl, ?_⟩) hS ?_
    rotate_left
    · intro wq hq
      first | (go_simp; done) | (go_simp; rfl)
    try simp only [Act.put, zP, zQ, zR]
    generalize w1.drew = W1 at *
    clear HS1
    refine wpAnyH_ready (rs := [1]) (by kernel_rfl) (by simp) ?_
    refine AllReadyH.cons (o := ⟨some 8, _, _, _, _, _⟩) rfl (fun K hK => ?_) AllReadyH.nil
    rw [if_pos (by rfl)]
    go_wp2_with fail
    refine (numU7_is W1 4 1 (by omega) (by omega) (by omega) (by decide) (by omega)).mono ?_
    rintro e W2 hnp
    obtain ⟨rfl, r1, hB⟩ := hnp.rd7
    have hS2 := hS.below hB
    clear hB hS hnp
    refine hK.out _ _ (hS2) (fun hS => ?_)
    clear hK K
    try simp only [Act.put, zP, zQ, zR]
    clear hS2
    refine wpAnyH_ready (rs := [5]) (by kernel_rfl) (by simp) ?_
    refine AllReadyH.cons (o := ⟨some 12, _, _, _, _, _⟩) rfl (fun K hK => ?_) AllReadyH.nil
    rw [if_pos (by rfl)]
    go_wp2_with fail
    refine (numU7_is W2 0 1 (by omega) (by omega) (by omega) (by decide) (by omega)).mono ?_
    rintro e W3 hnp
    obtain ⟨rfl, r2, hB⟩ := hnp.rd7
    have hS3 := hS.below hB
    have r1 := r1.up7 hB
    clear hB hS hnp
    refine hK.out _ _ (hS3) (fun hS => ?_)
    clear hK K
    try simp only [Act.put, zP, zQ, zR]
    clear hS3
    refine wpAnyH_ready (rs := [6]) (by kernel_rfl) (by simp) ?_
    refine AllReadyH.cons (o := ⟨some 13, _, _, _, _, _⟩) rfl (fun K hK => ?_) AllReadyH.nil
    rw [if_pos (by rfl)]
    go_wp2
    have hL := rdl_new_at (W := W3) (vs := [(some ⟨W1.heap.size, 0, none⟩, 1, 1), (some ⟨w.heap.size, 1, none⟩, 4, 16), (some ⟨W2.heap.size, 0, none⟩, 1, 1)]) (ls := [be 1 4, l.take 4, be 1 0]) ⟨r1, hS.rd HO.out 4 hb16, r2, trivial⟩ 38 _ rfl _ rfl
    have hSn := hS.below (bl_one W3 (.cells #[.slice (some ⟨W1.heap.size, 0, none⟩) 1 1, .slice (some ⟨w.heap.size, 1, none⟩) 4 16, .slice (some ⟨W2.heap.size, 0, none⟩) 1 1] 38))
    refine hK.out _ _ (hSn) (fun hS => ?_)
    clear hK K
    try simp only [Act.put, zP, zQ, zR]
    clear hSn r1 r2
    have hNx := HNx.out
    have hNl := HNl.out
    refine wpAnyH_ready (rs := [7]) (by kernel_rfl) (by simp) ?_
    refine AllReadyH.cons (o := ⟨some 14, _, _, _, _, _⟩) rfl (fun K hK => ?_) AllReadyH.nil
    rw [if_pos (by rfl)]
    go_wp2_with fail
    refine (concat_is _ _ 3 3 _ hL (by omega) (by rw [show ([be 1 4, l.take 4, be 1 0] : List (List Int)).flatten = nextB false l from hNx]; omega)).mono ?_
    rintro e W4 ⟨x, rfl, hO, hB⟩
    have hS4 := hS.below hB
    have HO4 := Lib.hid (hO.low (lo' := w.heap.size) hS.low.size)
    have HLow := Lib.hid hS4.low
    clear hB hS hO hL hNl
    refine hK.out _ _ (hS4) (fun hS => ?_)
    clear hK K
    try simp only [Act.put, zP, zQ, zR]
    clear hS4
    refine wpAnyH_take (i := 8) (oi := ⟨some 2, _, _, _, _, _⟩) (v := ?_) rfl (by kernel_rfl) (by kernel_rfl) (by kernel_rfl) (fun _ _ _ h => h) (Or.inl ⟨by rfl, ?_⟩) hS ?_
    rotate_left
    · intro wq hq
      first | (go_simp; done) | (go_simp; rfl)
    try simp only [Act.put, zP, zQ, zR]
    refine wpAnyH_done (by kernel_rfl) ?_ _
    go_wp2
    go_ret
    exact ⟨x, rfl, by have := HO4.out; rwa [show ([be 1 4, l.take 4, be 1 0] : List (List Int)).flatten = nextB false l from hNx] at this, HLow.out⟩

structure RbW (w W : World) (v : Value) (rs : List Rt) : Prop where
  own : OwnB w.heap.size W v (puts rs)
  low : Below w.heap.size w W
def RbP (w : World) (rs : List Rt) (e : Ending) (w' : World) : Prop := ∃ x, e = .returned x ∧ OwnB w.heap.size w' x (puts rs) ∧ Below w.heap.size w w'
theorem puts_take {rs : List Rt} {m : Nat} (hm : m < rs.length) : puts (rs.take (m + 1)) = puts (rs.take m) ++ putR rs[m] := by
  rw [List.take_succ_eq_append_getElem hm, puts_app, puts_one]
set_option maxHeartbeats 2000000 in
theorem rb7_is (w : World) (A : Option Addr) (n c : Nat) (rs : List Rt) (hr : RdRt w w.heap.size A n rs) (hR : rightsB rs = true) (hn : n ≤ 900000) : Calls Tryz.prog 94 #[.slice A n c] w (RbP w rs) := by
  have HR := Lib.hid hr
  have HLen := Lib.hid hr.len
  have HAll := Lib.hid (rights_all hr.ok hR)
  clear hr hR
  go_enter Tryz.func94, Tryz.ntmps94
  go_wp2
  go_loopw [3, 5, 6, 7, 10] (fun v _ _ _ i wr => ∃ m : Nat, m ≤ n ∧ i = .int .i64 m ∧ RbW w wr v (rs.take m)) (fun _ _ _ _ i _ => n - (intOf i).toNat)
  case atStart => exact ⟨0, Nat.zero_le _, rfl, ⟨OwnB.nil_ _ _, Below.refl _ _⟩⟩
  case round =>
    obtain ⟨m, hm, rfl, hW⟩ := hrel
    have HW := Lib.hid hW
    clear hW
    by_cases hlt : m < n
    · have hml : m < rs.length := by have := HLen.out; omega
      obtain ⟨b, off, rfl, hb, hrng, ok⟩ := (HR.out.below HW.out.low).get hml
      have HT := Lib.hid (puts_take hml)
      have hpl := puts_le (rs := rs.take m) (fun r h => HAll.out r (List.mem_of_mem_take h))
      have hlt2 : (rs.take m).length ≤ m := by simp; omega
      have HRight := Lib.hid (HAll.out _ (List.getElem_mem hml)).2
      have HRng := Lib.hid hrng
      have HOx := Lib.hid ok
      generalize rs[m] = x at *
      have hbw : b < wr.heap.size := Nat.lt_of_lt_of_le hb HW.out.low.size
      have hi0 : (0 : Int) ≤ (m : Int) := by omega
      have hi1 : (m : Int) < (n : Int) := by omega
      have HBn := Lib.hid (RtAt.new wr x ok 53)
      have HW1 := Lib.hid (bl_one wr (.cells (rtc x).toArray 53))
      have HPut : Hid (∀ W, Calls Tryz.prog 151 #[.slice none 0 0, .agg (rtc x).toArray] W fun e W' => ∃ v, e = .returned (.tuple #[v, .int .i64 0]) ∧ OwnB W.heap.size W' v (putR x) ∧ Below W.heap.size W W') := Lib.hid (fun W => (putNl_is W none 0 0 [] x ok (Rd.nil_ _) (by omega)).mono (by
        rintro e W' ⟨v, rfl, hO, hB⟩
        rw [HRight.out, if_pos rfl, List.nil_append] at hO
        exact ⟨v, by unfold errR; rw [HRight.out]; rfl, hO, hB⟩))
      have hxl : (putR x).length ≤ 102 := by have := bodyR_le ok; rw [putR_len]; omega
      clear hrng ok
      have HI : Hid (∀ Z W, Blk W wr.heap.size 53 (rtc x).toArray → Below wr.heap.size (wr.alloc (.cells Z 53)) W → RbW w W _ (rs.take m) ∧ Blk W wr.heap.size 53 (rtc x).toArray) := Lib.hid (fun Z W hb hB => by
        have hB2 := (bl_one wr (.cells Z 53)).trans hB
        exact ⟨⟨HW.out.own.below hB2, HW.out.low.trans (hB2.mono HW.out.low.size)⟩, hb⟩)
      have hsz := HW.out.low.size
      clear HBn HW1
      go_wp2_with (first
        | (refine part_fetch rfl 53 _ rfl b (off + m * 63) (rtc x) _ rfl HRng.out Tryz.underlying53 rfl (by rw [rt_size, rtc_len HOx.out]) ?_)
        | (refine rt_store_r rfl _ _ rfl wr.heap.size x HOx.out rfl rfl 53 _ (Blk.new wr 53 _) rfl (fun W => RbW w W _ (rs.take m) ∧ Blk W wr.heap.size 53 (rtc x).toArray) (fun W hb hB => HI.out _ _ hb hB) ?_; intro W8 hW8; have HW8 := Lib.hid hW8; clear hW8)
        | (refine rt_fetch rfl _ rfl wr.heap.size x HOx.out rfl ⟨blk_range HW8.out.2, blk_there HW8.out.2 0 63 (by rw [rtc_len HOx.out]; omega)⟩ ?_)
        | fail)
      refine (HPut.out _).mono ?_
      rintro e W9 ⟨u, rfl, hO, hB⟩
      have HW9 := Lib.hid (show RbW w W9 _ (rs.take m) from ⟨HW8.out.1.own.below hB, HW8.out.1.low.trans (hB.mono HW8.out.1.low.size)⟩)
      obtain ⟨A9, c9, rfl, _, hR9, _⟩ := hO.at_
      have HR9 := Lib.hid hR9
      have hs9 := HW9.out.low.size
      clear hO hB hR9 HW8
      go_wp2_with (at_builtin; refine app_bs rfl _ _ rfl HW9.out.own hs9 HR9.out (by omega) rfl rfl ?_)
      intro v' w2 ho2 hb2 _ _
      have HW2 : Hid (RbW w w2 v' (rs.take (m + 1))) := Lib.hid ⟨by rw [HT.out]; exact ho2, HW9.out.low.trans hb2⟩
      clear ho2 hb2
      go_wp2
      exact ⟨⟨m + 1, by omega, by go_num, HW2.out⟩, by simp [intOf]; omega⟩
    · obtain rfl : m = n := by omega
      rw [List.take_of_length_le (by have := HLen.out; omega)] at HW
      go_wp2
      go_ret
      exact ⟨_, rfl, HW.out.own, HW.out.low⟩
end Go.Proofs.YtdgoeibfggjbmaaGreatDoor
namespace Go.Proofs
open Go.Shelf
def Tryz.shelfs6_ren : Go.Shelf.Ren := ⟨fun | 6 => 95 | 15 => 153 | 14 => 152 | 28 => 205 | 29 => 206 | 20 => 197 | 21 => 198 | 22 => 199 | 23 => 200 | 24 => 201 | 25 => 202 | 26 => 203 | 27 => 204 | 46 => 223 | 47 => 224 | 48 => 225 | 49 => 226 | 50 => 227 | 57 => 234 | n => n, fun | 22 => 64 | 24 => 67 | 25 => 147 | 3 => 3 | 39 => 202 | 0 => 0 | 53 => 23 | 55 => 99 | 4 => 4 | 46 => 239 | 45 => 238 | 50 => 177 | 5 => 5 | 9 => 9 | 66 => 256 | 70 => 260 | 76 => 267 | 77 => 268 | n => n, fun | n => n⟩
theorem Tryz.shelfs6 : Go.Proofs.SlLaysF0.n6 Tryz.prog Tryz.shelfs6_ren := {
  mixed := by kernel_rfl
  f6 := ⟨Tryz.f95.name, by decide, Tryz.func95.trans (congrArg some (by kernel_rfl))⟩
  f14 := ⟨Tryz.f152.name, by decide, Tryz.func152.trans (congrArg some (by kernel_rfl))⟩
  f15 := Tryz.func153.trans (congrArg some (by kernel_rfl))
  f20 := ⟨Tryz.f197.name, by decide, Tryz.func197.trans (congrArg some (by kernel_rfl))⟩
  f21 := ⟨Tryz.f198.name, by decide, Tryz.func198.trans (congrArg some (by kernel_rfl))⟩
  f22 := ⟨Tryz.f199.name, by decide, Tryz.func199.trans (congrArg some (by kernel_rfl))⟩
  f23 := ⟨Tryz.f200.name, by decide, Tryz.func200.trans (congrArg some (by kernel_rfl))⟩
  f24 := ⟨Tryz.f201.name, by decide, Tryz.func201.trans (congrArg some (by kernel_rfl))⟩
  f25 := ⟨Tryz.f202.name, by decide, Tryz.func202.trans (congrArg some (by kernel_rfl))⟩
  f26 := ⟨Tryz.f203.name, by decide, Tryz.func203.trans (congrArg some (by kernel_rfl))⟩
  f27 := ⟨Tryz.f204.name, by decide, Tryz.func204.trans (congrArg some (by kernel_rfl))⟩
  f28 := Tryz.func205.trans (congrArg some (by kernel_rfl))
  f29 := Tryz.func206.trans (congrArg some (by kernel_rfl))
  f46 := ⟨Tryz.f223.name, by decide, Tryz.func223.trans (congrArg some (by kernel_rfl))⟩
  f47 := Tryz.func224.trans (congrArg some (by kernel_rfl))
  f48 := Tryz.func225.trans (congrArg some (by kernel_rfl))
  f49 := ⟨Tryz.f226.name, by decide, Tryz.func226.trans (congrArg some (by kernel_rfl))⟩
  f50 := ⟨Tryz.f227.name, by decide, Tryz.func227.trans (congrArg some (by kernel_rfl))⟩
  f57 := ⟨Tryz.f234.name, by decide, Tryz.func234.trans (congrArg some (by kernel_rfl))⟩
  t0 := Tryz.underlying0
  a0 := Tryz.isAgg0
  z0 := Tryz.sizeOf0
  v0 := Tryz.zeroValue0
  t3 := Tryz.underlying3
  a3 := Tryz.isAgg3
  z3 := Tryz.sizeOf3
  v3 := Tryz.zeroValue3
  t4 := Tryz.underlying4
  a4 := Tryz.isAgg4
  z4 := Tryz.sizeOf4
  v4 := Tryz.zeroValue4
  t5 := Tryz.underlying5
  a5 := Tryz.isAgg5
  z5 := Tryz.sizeOf5
  v5 := Tryz.zeroValue5
  t9 := Tryz.underlying9
  a9 := Tryz.isAgg9
  z9 := Tryz.sizeOf9
  v9 := Tryz.zeroValue9
  t22 := Tryz.underlying64
  a22 := Tryz.isAgg64
  z22 := Tryz.sizeOf64
  v22 := Tryz.zeroValue64
  t25 := Tryz.underlying147
  a25 := Tryz.isAgg147
  z25 := Tryz.sizeOf147
  v25 := Tryz.zeroValue147
  t39 := Tryz.underlying202
  a39 := Tryz.isAgg202
  z39 := Tryz.sizeOf202
  v39 := Tryz.zeroValue202
  t45 := Tryz.underlying238
  a45 := Tryz.isAgg238
  z45 := Tryz.sizeOf238
  v45 := Tryz.zeroValue238
  t46 := Tryz.underlying239
  a46 := Tryz.isAgg239
  z46 := Tryz.sizeOf239
  v46 := Tryz.zeroValue239
  t50 := Tryz.underlying177
  a50 := Tryz.isAgg177
  z50 := Tryz.sizeOf177
  v50 := Tryz.zeroValue177
  t53 := Tryz.underlying23
  a53 := Tryz.isAgg23
  z53 := Tryz.sizeOf23
  v53 := Tryz.zeroValue23
  t55 := Tryz.underlying99
  a55 := Tryz.isAgg99
  z55 := Tryz.sizeOf99
  v55 := Tryz.zeroValue99
  t66 := Tryz.underlying256
  a66 := Tryz.isAgg256
  z66 := Tryz.sizeOf256
  v66 := Tryz.zeroValue256
  t70 := Tryz.underlying260
  a70 := Tryz.isAgg260
  z70 := Tryz.sizeOf260
  v70 := Tryz.zeroValue260
  t76 := Tryz.underlying267
  a76 := Tryz.isAgg267
  z76 := Tryz.sizeOf267
  v76 := Tryz.zeroValue267
  t77 := Tryz.underlying268
  a77 := Tryz.isAgg268
  z77 := Tryz.sizeOf268
  v77 := Tryz.zeroValue268 }
end Go.Proofs
namespace Go.Proofs.YtdgoeibfggjbmaaGreatDoor
open Go.RowKit Go.Sort
set_option maxRecDepth 100000
set_option linter.unusedSimpArgs false
set_option linter.unusedVariables false

def cmp3 (a b : Int) : Int := if a < b then -1 else if b < a then 1 else 0
theorem nan_is (w : World) (a : Int) : Calls Tryz.prog 154 #[.int .i64 a] w fun e w' => e = .returned (.bool false) ∧ w = w' := by
  have h1 : (a != a) = false := by simp
  go_enter Tryz.func154, Tryz.ntmps154
  go_wp2
  go_ret
  exact ⟨by first | rfl | simp, rfl⟩
theorem cmpi_is (w : World) (a b : Int) : Calls Tryz.prog 97 #[.int .i64 a, .int .i64 b] w fun e w' => e = .returned (.int .i64 (cmp3 a b)) ∧ w = w' := by
  unfold cmp3
  rcases (show a < b ∨ ((¬ a < b ∧ b < a) ∨ (¬ a < b ∧ ¬ b < a)) by omega) with h | ⟨h, h2⟩ | ⟨h, h2⟩
  · rw [if_pos h]
    go_enter Tryz.func97, Tryz.ntmps97
    go_wp2_with (first | (refine (nan_is w a).mono ?_; rintro e w' ⟨rfl, rfl⟩) | (refine (nan_is w b).mono ?_; rintro e w' ⟨rfl, rfl⟩))
    go_ret
    exact ⟨rfl, rfl⟩
  · rw [if_neg h, if_pos h2]
    go_enter Tryz.func97, Tryz.ntmps97
    go_wp2_with (first | (refine (nan_is w a).mono ?_; rintro e w' ⟨rfl, rfl⟩) | (refine (nan_is w b).mono ?_; rintro e w' ⟨rfl, rfl⟩))
    go_ret
    exact ⟨rfl, rfl⟩
  · rw [if_neg h, if_neg h2]
    go_enter Tryz.func97, Tryz.ntmps97
    go_wp2_with (first | (refine (nan_is w a).mono ?_; rintro e w' ⟨rfl, rfl⟩) | (refine (nan_is w b).mono ?_; rintro e w' ⟨rfl, rfl⟩))
    go_ret
    exact ⟨rfl, rfl⟩
theorem cmpc_w (w : World) (f1 k1 : Int) (A1 : Option Addr) (n1 c1 : Nat) (f2 k2 : Int) (A2 : Option Addr) (n2 c2 : Nat) :
    Calls Tryz.prog 96 #[.agg #[.int .i64 f1, .int .i64 k1, .slice A1 n1 c1], .agg #[.int .i64 f2, .int .i64 k2, .slice A2 n2 c2]] w fun e w' => e = .returned (.int .i64 (cmp3 k1 k2)) ∧ ∃ q os', w' = grow (w.drewN q) os' := by
  have HEnd : Hid (∃ q os', ((w.alloc (.cells #[.int .i64 f1, .int .i64 k1, .slice A1 n1 c1] 67)).alloc (.cells #[.int .i64 f2, .int .i64 k2, .slice A2 n2 c2] 67)) = grow (w.drewN q) os') := Lib.hid ⟨0, #[.cells #[.int .i64 f1, .int .i64 k1, .slice A1 n1 c1] 67, .cells #[.int .i64 f2, .int .i64 k2, .slice A2 n2 c2] 67], by rw [alloc_eq_grow, alloc_eq_grow, grow_grow]; rfl⟩
  have hA := (Blk.new w 67 #[.int .i64 f1, .int .i64 k1, .slice A1 n1 c1]).alloc (.cells #[.int .i64 f2, .int .i64 k2, .slice A2 n2 c2] 67)
  have hB := Blk.new (w.alloc (.cells #[.int .i64 f1, .int .i64 k1, .slice A1 n1 c1] 67)) 67 #[.int .i64 f2, .int .i64 k2, .slice A2 n2 c2]
  rw [show (w.alloc (.cells #[.int .i64 f1, .int .i64 k1, .slice A1 n1 c1] 67)).heap.size = w.heap.size + 1 by simp] at hB
  have x1 : ((w.alloc (.cells #[.int .i64 f1, .int .i64 k1, .slice A1 n1 c1] 67)).alloc (.cells #[.int .i64 f2, .int .i64 k2, .slice A2 n2 c2] 67)).cell? ⟨w.heap.size, 1, none⟩ = some (.int .i64 k1) := hA.cell 1
  have x2 : ((w.alloc (.cells #[.int .i64 f1, .int .i64 k1, .slice A1 n1 c1] 67)).alloc (.cells #[.int .i64 f2, .int .i64 k2, .slice A2 n2 c2] 67)).cell? ⟨w.heap.size + 1, 1, none⟩ = some (.int .i64 k2) := hB.cell 1
  clear hA hB
  go_enter Tryz.func96, Tryz.ntmps96
  go_wp2_with fail
  refine (cmpi_is _ k1 k2).mono ?_
  rintro e w1 ⟨rfl, rfl⟩
  clear x1 x2
  go_wp2
  go_ret
  exact ⟨rfl, HEnd.out⟩

theorem take3 {l : List Value} {o : Nat} {a b c : Value} (ha : l[o]? = some a) (hb : l[o + 1]? = some b) (hc : l[o + 2]? = some c) : (l.drop o).take 3 = [a, b, c] := by
  obtain ⟨h0, e0⟩ := List.getElem?_eq_some_iff.1 ha
  obtain ⟨h1, e1⟩ := List.getElem?_eq_some_iff.1 hb
  obtain ⟨h2, e2⟩ := List.getElem?_eq_some_iff.1 hc
  rw [List.drop_eq_getElem_cons h0, List.drop_eq_getElem_cons h1, List.drop_eq_getElem_cons h2, e0, e1, e2]
  rfl
def encR (cs : List Value) (n : Nat) (i : Fin n) : List Value := (cs.drop (i.val * 3)).take 3
theorem encR_eq {Bd : Option Addr → Nat → List Int → Prop} {cs : List Value} {rs : List Raw} (h : Rs Bd cs rs) (i : Fin rs.length) : ∃ A n c, encR cs rs.length i = [.int .i64 rs[i].1, .int .i64 rs[i].2.1, .slice A n c] ∧ Bd A n rs[i].2.2 := by
  obtain ⟨h0, h1, A, n, c, h2, h3⟩ := h.at_ i.val i.isLt
  exact ⟨A, n, c, take3 h0 h1 h2, h3⟩
def cfR (rs : List Raw) (i j : Fin rs.length) : Int := cmp3 rs[i].2.1 rs[j].2.1
theorem ltR (rs : List Raw) (i j : Fin rs.length) : ltOf (cfR rs) i j = decide (rs[i].2.1 < rs[j].2.1) := by
  unfold ltOf cfR cmp3
  rw [Bool.eq_iff_iff, decide_eq_true_iff, decide_eq_true_iff]
  simp only [Fin.getElem_fin]
  split
  · simp; assumption
  · split
    · simp; omega
    · simp; omega
theorem swoR (rs : List Raw) : SWO (ltOf (cfR rs)) where
  irrefl x := by rw [ltR]; simp
  trans x y z h1 h2 := by rw [ltR] at *; simp only [decide_eq_true_eq] at *; omega
  ntrans x y z h1 h2 := by rw [ltR] at *; simp only [decide_eq_false_iff_not] at *; omega
theorem totR (rs : List Raw) (hnd : (rs.map (·.2.1)).Nodup) (x y : Fin rs.length) (h1 : ltOf (cfR rs) x y = false) (h2 : ltOf (cfR rs) y x = false) : x = y := by
  rw [ltR] at *
  simp only [decide_eq_false_iff_not] at *
  have e : rs[x].2.1 = rs[y].2.1 := by omega
  have hp := List.pairwise_iff_getElem.1 hnd
  rcases Nat.lt_trichotomy x.val y.val with h | h | h
  · have := hp x.val y.val (by simp) (by simp) h
    simp only [List.getElem_map] at this
    exact absurd e this
  · exact Fin.ext h
  · have := hp y.val x.val (by simp) (by simp) h
    simp only [List.getElem_map] at this
    exact absurd e.symm this
theorem cmpLaysR {Bd : Option Addr → Nat → List Int → Prop} {cs : List Value} {rs : List Raw} [Inhabited (Fin rs.length)] (h : Rs Bd cs rs) (blk off size : Nat) (w : World) : CmpLays Tryz.prog 96 #[] (encR cs rs.length) 3 (cfR rs) blk off size w := by
  intro m os dk _ x y
  obtain ⟨A1, n1, c1, e1, _⟩ := encR_eq h x
  obtain ⟨A2, n2, c2, e2, _⟩ := encR_eq h y
  rw [e1, e2]
  exact cmpc_w _ _ _ A1 n1 c1 _ _ A2 n2 c2
theorem grown_sortR {n0 : Nat} (enc : Fin n0 → List Value) (w : World) (g n : Nat) [Inhabited (Fin n0)] (d : Array (Fin n0)) (os : Array Obj) : w.grownBy (sortWorldK enc 3 w g 0 n d os) (some g) := by
  refine ⟨rfl, rfl, rfl, by simp [sortWorldK, grow, putRowK, putRow, mapBlock, ahead], fun k hk hne => ?_⟩
  have hne' : g ≠ k := fun e => hne (by rw [e])
  simp [sortWorldK, grow, putRowK, putRow, mapBlock, ahead, Array.getElem?_append_left, hk, Array.getElem?_modify, Array.getElem_modify, hne']
def SortP (lo : Nat) (w : World) (v : Value) (rs : List Raw) (e : Ending) (w' : World) : Prop :=
  e = .returned (.tuple #[]) ∧ Below lo w w' ∧ ∃ A c ss, v = .slice A rs.length c ∧ RdR w' w'.heap.size A rs.length ss ∧ ss.Perm rs ∧ (ss.map (·.2.1)).Pairwise (· < ·)
theorem fin_map (rs : List Raw) : (List.finRange rs.length).map (fun i => rs[i]) = rs := by
  apply List.ext_getElem
  · simp
  · intro i h1 h2; simp
set_option maxHeartbeats 1000000 in
set_option maxRecDepth 100000 in
theorem sort_raw (lo : Nat) (w : World) (v : Value) (rs : List Raw) (h : OwnW lo w v rs) (hlo : lo ≤ w.heap.size) (hnd : (rs.map (·.2.1)).Nodup) (hn : rs.length ≤ 1000) : Calls Tryz.prog 95 #[v, .func (.func 96) #[] #[]] w (SortP lo w v rs) := by
  obtain ⟨cs, h1, h2⟩ := h.ex
  rcases Nat.eq_zero_or_pos rs.length with h0 | h0
  · have hv : ∃ A c, v = .slice A 0 c := by
      rcases h1.2 with ⟨rfl, hn⟩ | ⟨g, cap, cur, rfl, _⟩
      · exact ⟨none, 0, rfl⟩
      · exact ⟨_, cap, by rw [h0]⟩
    obtain ⟨A, c, rfl⟩ := hv
    have hcon := AnyF.slices_SortFunc_none Tryz.shelfs6 A c (.func (.func 96) #[] #[]) w
    change Calls Tryz.prog 95 _ _ _ at hcon
    refine hcon.mono ?_
    rintro e w' ⟨rfl, rfl⟩
    obtain rfl : rs = [] := List.eq_nil_of_length_eq_zero h0
    exact ⟨rfl, Below.refl _ _, A, c, [], rfl, RdR.nil_ _, List.Perm.refl _, List.Pairwise.nil⟩
  · rcases h1.2 with ⟨rfl, hn0⟩ | ⟨g, cap, cur, rfl, hb, hg, hnc, hcm, hcs, hx⟩
    · omega
    · haveI : Inhabited (Fin rs.length) := ⟨⟨0, h0⟩⟩
      have hgl : g < w.heap.size := (Array.getElem?_eq_some_iff.1 hg).1
      have hcell : ∀ j u, cs[j]? = some u → w.cell? ⟨g, j, none⟩ = some u := by
        intro j u hu
        rw [← hx, List.getElem?_take] at hu
        split at hu
        · simp only [World.cell?, hg]
          rw [← Array.getElem?_toList]
          exact hu
        · cases hu
      have hfr : ∀ j, w.frozen? ⟨g, j, none⟩ = false := fun j => by simp [World.frozen?, hg]
      have hk : ∀ x, (encR cs rs.length x).length = 3 := fun x => by obtain ⟨A, n, c, e, _⟩ := encR_eq h2 x; rw [e]; rfl
      have h1c : ∀ x, ∀ v ∈ encR cs rs.length x, v.oneCell' = true := fun x v hv => by
        obtain ⟨A, n, c, e, _⟩ := encR_eq h2 x
        rw [e] at hv
        simp only [List.mem_cons, List.mem_nil_iff, or_false] at hv
        rcases hv with rfl | rfl | rfl <;> rfl
      have hds : (List.finRange rs.length).toArray.size = rs.length := by simp
      have hold : HoldsK (encR cs rs.length) 3 w g 0 (List.finRange rs.length).toArray := by
        intro t ht
        rw [size_flatK, hds] at ht
        rw [get_flatK _ _ _ _ (by rw [hds]; exact ht)]
        have hi : t / 3 < rs.length := by omega
        have e1 : (List.finRange rs.length).toArray[t / 3]! = ⟨t / 3, hi⟩ := by
          rw [getElem!_pos _ _ (by rw [hds]; exact hi)]
          simp
        rw [e1]
        have hm : t % 3 < (encR cs rs.length ⟨t / 3, hi⟩).length := by rw [hk]; omega
        rw [getElem!_pos (encR cs rs.length ⟨t / 3, hi⟩) (t % 3) hm]
        refine ⟨?_, hfr _⟩
        rw [Nat.zero_add]
        refine hcell t _ ?_
        have hl := h2.len
        have e2 : (encR cs rs.length ⟨t / 3, hi⟩)[t % 3]? = cs[t]? := by
          unfold encR
          rw [List.getElem?_take, if_pos (by omega), List.getElem?_drop]
          congr 1
          show t / 3 * 3 + t % 3 = t
          omega
        rw [← e2, List.getElem?_eq_getElem hm]
        rfl
      have eg : ∀ args w, (callFunc 96 args).run Tryz.prog w = .ok (.enter 96 args) w := enters_of Tryz.func96 (by kernel_rfl) rfl
      have hcon := AnyQ.slices_SortFunc_total Tryz.shelfs6 3 Tryz.isAgg67 Tryz.sizeOf67 (encR cs rs.length) hk h1c (cfR rs) (swoR rs) 96 #[] g 0 cap (List.finRange rs.length).toArray w eg (cmpLaysR h2 _ _ _ _) hold hgl (by rw [hds]; omega) (totR rs hnd)
      change Calls Tryz.prog 95 _ _ _ at hcon
      rw [hds] at hcon
      refine hcon.mono ?_
      rintro e w' ⟨rfl, n, os, rfl⟩
      have hgr := grown_sortR (encR cs rs.length) w g n ((List.finRange rs.length).toArray.toList.mergeSort fun x y => !(ltOf (cfR rs)) y x).toArray os
      have hh := holdsK_sortWorldK (encR cs rs.length) 3 w g 0 n (List.finRange rs.length).toArray ((List.finRange rs.length).toArray.toList.mergeSort fun x y => !(ltOf (cfR rs)) y x).toArray os hgl hold (by simp)
      simp only [List.toList_toArray] at hgr hh ⊢
      generalize hW : sortWorldK (encR cs rs.length) 3 w g 0 n ((List.finRange rs.length).mergeSort fun x y => !(ltOf (cfR rs)) y x).toArray os = W at *
      have hperm := List.mergeSort_perm (List.finRange rs.length) (fun x y => !(ltOf (cfR rs)) y x)
      have hsort := List.pairwise_mergeSort (le := fun x y : Fin rs.length => !(ltOf (cfR rs)) y x) (fun a b c => by simp only [ltR, Bool.not_eq_true', decide_eq_false_iff_not]; omega) (fun a b => by simp only [ltR, Bool.or_eq_true, Bool.not_eq_true', decide_eq_false_iff_not]; omega) (List.finRange rs.length)
      generalize hd : (List.finRange rs.length).mergeSort (fun x y => !(ltOf (cfR rs)) y x) = d at *
      have hdl : d.length = rs.length := by have := hperm.length_eq; simpa using this
      have hpm : (d.map (fun i => rs[i])).Perm rs := by
        have := hperm.map (fun i : Fin rs.length => rs[i])
        rwa [fin_map] at this
      refine ⟨rfl, (Below.refl lo w).grown hgr hlo (fun j e => by injection e with e; omega), _, cap, d.map (fun i => rs[i]), rfl, ⟨by simp [hdl], fun _ => ⟨g, 0, rfl, Nat.lt_of_lt_of_le hgl hgr.size, fun i hi => ?_⟩⟩, hpm, ?_⟩
      · have hi' : i < d.length := by simpa using hi
        have hc : ∀ c, c < 3 → W.cell? ⟨g, i * 3 + c, none⟩ = (encR cs rs.length d[i])[c]? := fun c hc => by
          have h3 := (hh.cell (i := i) (c := c) (by simpa using hi') hc).1
          rw [Nat.zero_add] at h3
          rw [h3]
          have e1 : d.toArray[i]! = d[i] := by rw [getElem!_pos _ _ (by simpa using hi')]; simp
          rw [e1]
          have hlen : c < (encR cs rs.length d[i]).length := by rw [hk]; exact hc
          rw [getElem!_pos _ c hlen, List.getElem?_eq_getElem hlen]
          try rfl
        obtain ⟨A, n1, c1, e, hbd⟩ := encR_eq h2 d[i]
        rw [e] at hc
        have hb2 : BodyT 67 lo W A n1 rs[d[i]].2.2 := hbd.keep fun j c t hj _ ht => hgr.block j (Array.getElem?_eq_some_iff.1 hj).1 (fun e => by
          injection e with e
          subst e
          exact row_ne hj hg ht rfl)
        refine ⟨A, n1, c1, ?_, ?_, ?_, ?_⟩
        · have h5 := hc 0 (by omega)
          rw [Nat.zero_add]
          try rw [Nat.add_zero] at h5
          rw [h5]; simp
        · have h5 := hc 1 (by omega)
          rw [Nat.zero_add]
          try rw [Nat.add_zero] at h5
          rw [h5]; simp
        · have h5 := hc 2 (by omega)
          rw [Nat.zero_add]
          try rw [Nat.add_zero] at h5
          rw [h5]; simp
        · simpa using hb2.rd
      · have hnd2 : ((d.map (fun i => rs[i])).map (·.2.1)).Nodup := ((hpm.map (·.2.1)).nodup_iff).2 hnd
        have hle : ((d.map (fun i => rs[i])).map (·.2.1)).Pairwise (· ≤ ·) := by
          rw [List.pairwise_map, List.pairwise_map]
          refine hsort.imp fun {a b} hab => ?_
          simp only [ltR, Bool.not_eq_true', decide_eq_false_iff_not] at hab
          omega
        exact (hle.and hnd2).imp fun {a b} hab => by have := hab.1; have := hab.2; omega
end Go.Proofs.YtdgoeibfggjbmaaGreatDoor
namespace Go.Proofs.YtdgoeibfggjbmaaGreatDoor
open Go.RowKit
set_option maxRecDepth 100000
set_option linter.unusedSimpArgs false
set_option linter.unusedVariables false

def upc (cs : List Value) (nv : Bool) (nl : List Int) (vr vu : Value) : List Value := cs ++ (ipc nv nl ++ [vr, vu])
structure UpBox (W : World) (b : Nat) (cs : List Value) (nv : Bool) (nl : List Int) (vr vu : Value) : Prop where
  all : W.rangeAt b 0 (upc cs nv nl vr vu)
  la : cs.length = 27
  ll : nl.length = 16
  lt : b < W.heap.size
section
variable {W W' : World} {b B : Nat} {cs : List Value} {nv : Bool} {nl : List Int} {vr vu : Value}
theorem upc_len (h1 : cs.length = 27) (h2 : nl.length = 16) : (upc cs nv nl vr vu).length = 46 := by simp [upc, h1, h2]
theorem UpBox.ra (h : UpBox W b cs nv nl vr vu) : W.rangeAt b 0 cs := range_pre h.all
theorem UpBox.rn (h : UpBox W b cs nv nl vr vu) : W.rangeAt b 27 (ipc nv nl) := by
  have h1 := range_post h.all
  rw [h.la] at h1
  simpa using range_pre h1
theorem UpBox.cr (h : UpBox W b cs nv nl vr vu) : W.cell? ⟨b, 44, none⟩ = some vr := by
  have h1 := range_post h.all
  rw [h.la] at h1
  have h2 := range_post h1
  rw [ipc_len, h.ll] at h2
  exact h2 0 _ rfl
theorem UpBox.cu (h : UpBox W b cs nv nl vr vu) : W.cell? ⟨b, 45, none⟩ = some vu := by
  have h1 := range_post h.all
  rw [h.la] at h1
  have h2 := range_post h1
  rw [ipc_len, h.ll] at h2
  exact h2 1 _ rfl
theorem UpBox.below (h : UpBox W b cs nv nl vr vu) (hB : Below B W W') (hb : b < B) : UpBox W' b cs nv nl vr vu := ⟨range_below h.all hB hb, h.la, h.ll, Nat.lt_of_lt_of_le h.lt hB.size⟩
theorem UpBox.up (h : UpBox W b cs nv nl vr vu) (hB : Below W.heap.size W W') : UpBox W' b cs nv nl vr vu := h.below hB h.lt
theorem UpBox.new (W : World) (h1 : cs.length = 27) (h2 : nl.length = 16) : UpBox (W.alloc (.cells (upc cs nv nl vr vu).toArray 34)) W.heap.size cs nv nl vr vu :=
  ⟨(Blk.new W 34 _).range, h1, h2, by simp⟩
end
theorem usz : (Tryz.prog.info? 34).map (·.size) = some 46 := by kernel_rfl
theorem ip_sz : (Tryz.prog.info? 27).map (·.size) = some 17 := by kernel_rfl
theorem up_fetch {ops : Array Oper} {rest : List Oper} {op : Oper} {a : Act} {W : World} {Q : Exit → Act → World → Prop} (hw : Region.wanted op (yielded ops a.tmps) = true) (x : Operand) (ho : op.op = .load 34 x) (b : Nat) {cs : List Value} {nv : Bool} {nl : List Int} {vr vu : Value} (h : UpBox W b cs nv nl vr vu)
    (hx : a.eval x = .pointer (some ⟨b, 0, none⟩)) (k : wpList Tryz.prog ops Q rest (a.put op.dst (.agg (upc cs nv nl vr vu).toArray)) W) : wpList Tryz.prog ops Q (op :: rest) a W :=
  part_fetch hw 34 x ho b 0 (upc cs nv nl vr vu) _ hx h.all Tryz.underlying34 rfl (by rw [usz, upc_len h.la h.ll]) k
theorem upn_fetch {ops : Array Oper} {rest : List Oper} {op : Oper} {a : Act} {W : World} {Q : Exit → Act → World → Prop} (hw : Region.wanted op (yielded ops a.tmps) = true) (x : Operand) (ho : op.op = .load 27 x) (b : Nat) {cs : List Value} {nv : Bool} {nl : List Int} {vr vu : Value} (h : UpBox W b cs nv nl vr vu)
    (hx : a.eval x = .pointer (some ⟨b, 27, none⟩)) (k : wpList Tryz.prog ops Q rest (a.put op.dst (.agg (ipc nv nl).toArray)) W) : wpList Tryz.prog ops Q (op :: rest) a W :=
  part_fetch hw 27 x ho b 27 (ipc nv nl) _ hx h.rn Tryz.underlying27 rfl (by rw [ip_sz, ipc_len, h.ll]) k
theorem upa_fetch {ops : Array Oper} {rest : List Oper} {op : Oper} {a : Act} {W : World} {Q : Exit → Act → World → Prop} (hw : Region.wanted op (yielded ops a.tmps) = true) (x : Operand) (ho : op.op = .load 31 x) (b : Nat) {cs : List Value} {nv : Bool} {nl : List Int} {vr vu : Value} (h : UpBox W b cs nv nl vr vu)
    (hx : a.eval x = .pointer (some ⟨b, 0, none⟩)) (k : wpList Tryz.prog ops Q rest (a.put op.dst (.agg cs.toArray)) W) : wpList Tryz.prog ops Q (op :: rest) a W :=
  part_fetch hw 31 x ho b 0 cs _ hx h.ra Tryz.underlying31 rfl (by rw [asz, h.la]) k

structure UpRd (w : World) (u : Up) (A1 : Option Addr) (n1 : Nat) (A2 : Option Addr) (n2 : Nat) : Prop where
  re : RdRt w w.heap.size A1 n1 u.re
  un : RdRt w w.heap.size A2 n2 u.un
theorem UpRd.up {w W : World} {u : Up} {A1 A2 : Option Addr} {n1 n2 : Nat} (h : UpRd w u A1 n1 A2 n2) (hB : Below w.heap.size w W) : UpRd W u A1 n1 A2 n2 := ⟨(h.re.below hB).more hB.size, (h.un.below hB).more hB.size⟩

set_option maxHeartbeats 2000000 in
theorem isRight7_is (w : World) (u : Up) (hu : UpOk u) (cs : List Value) (hc : cs.length = 27) (A1 : Option Addr) (n1 c1 : Nat) (A2 : Option Addr) (n2 c2 : Nat) (hr : UpRd w u A1 n1 A2 n2) (h1 : n1 ≤ 900000) (h2 : n2 ≤ 900000) :
    Calls Tryz.prog 48 #[.agg (upc cs u.nv u.nl (.slice A1 n1 c1) (.slice A2 n2 c2)).toArray] w fun e w' => e = .returned (.bool (rightU u)) ∧ Below w.heap.size w w' := by
  have HX := Lib.hid (UpBox.new (W := w) (cs := cs) (nv := u.nv) (nl := u.nl) (vr := .slice A1 n1 c1) (vu := .slice A2 n2 c2) hc hu.nl)
  have HB := Lib.hid (bl_one w (.cells (upc cs u.nv u.nl (.slice A1 n1 c1) (.slice A2 n2 c2)).toArray 34))
  have HR := Lib.hid (fun W (hB : Below w.heap.size w W) => areRight_is W A1 n1 c1 u.re (hr.up hB).re (by omega))
  have HU := Lib.hid (fun W (hB : Below w.heap.size w W) => areRight_is W A2 n2 c2 u.un (hr.up hB).un (by omega))
  have HN := Lib.hid (fun W => right_is W u.nv u.nl hu.nl hu.onl)
  have HLen : Hid (u.re = [] ↔ n1 = 0) := Lib.hid ⟨fun h => by have := hr.re.len; rw [h] at this; exact this.symm, fun h => List.eq_nil_of_length_eq_zero (by rw [hr.re.len, h])⟩
  have HD : Hid (rightU u = (rightsB u.un && (rightsB u.re && (decide (u.re = []) || rightB u.nv u.nl)))) := Lib.hid rfl
  have hu45 := HX.out.cu
  clear hr hu hc
  cases hun : rightsB u.un
  · rw [hun] at HU HD
    clear hun
    go_enter Tryz.func48, Tryz.ntmps48
    go_wp2_with fail
    refine (HU.out _ HB.out).mono ?_
    rintro e w2 ⟨rfl, hB⟩
    have HB2 := Lib.hid (HB.out.trans (hB.mono HB.out.size))
    clear hB hu45
    go_wp2
    go_ret
    exact ⟨by rw [HD.out]; rfl, HB2.out⟩
  · rw [hun] at HU HD
    clear hun
    cases hre : rightsB u.re
    · rw [hre] at HR HD
      clear hre
      go_enter Tryz.func48, Tryz.ntmps48
      go_wp2_with fail
      refine (HU.out _ HB.out).mono ?_
      rintro e w2 ⟨rfl, hB⟩
      have HB2 := Lib.hid (HB.out.trans (hB.mono HB.out.size))
      have hr44 := (HX.out.up hB).cr
      clear hB hu45
      go_wp2_with fail
      refine (HR.out _ HB2.out).mono ?_
      rintro e w3 ⟨rfl, hB⟩
      have HB3 := Lib.hid (HB2.out.trans (hB.mono HB2.out.size))
      clear hB hr44
      go_wp2
      go_ret
      exact ⟨by rw [HD.out]; rfl, HB3.out⟩
    · rw [hre] at HR HD
      clear hre
      rcases Nat.eq_zero_or_pos n1 with h0 | h0
      · have HE := Lib.hid (HLen.out.2 h0)
        subst h0
        clear HLen
        go_enter Tryz.func48, Tryz.ntmps48
        go_wp2_with fail
        refine (HU.out _ HB.out).mono ?_
        rintro e w2 ⟨rfl, hB⟩
        have HB2 := Lib.hid (HB.out.trans (hB.mono HB.out.size))
        have HX2 := Lib.hid (HX.out.up hB)
        have hr44 := HX2.out.cr
        clear hB hu45 HX
        go_wp2_with fail
        refine (HR.out _ HB2.out).mono ?_
        rintro e w3 ⟨rfl, hB⟩
        have HB3 := Lib.hid (HB2.out.trans (hB.mono HB2.out.size))
        have hr44 := (HX2.out.up hB).cr
        clear hB
        go_wp2
        go_ret
        exact ⟨by rw [HD.out, HE.out]; rfl, HB3.out⟩
      · have HE := Lib.hid (show ¬ u.re = [] from fun h => by have := HLen.out.1 h; omega)
        have e0 : ((n1 : Int) == 0) = false := by rw [beq_eq_false_iff_ne]; omega
        clear HLen
        go_enter Tryz.func48, Tryz.ntmps48
        go_wp2_with fail
        refine (HU.out _ HB.out).mono ?_
        rintro e w2 ⟨rfl, hB⟩
        have HB2 := Lib.hid (HB.out.trans (hB.mono HB.out.size))
        have HX2 := Lib.hid (HX.out.up hB)
        have hr44 := HX2.out.cr
        clear hB hu45 HX
        go_wp2_with fail
        refine (HR.out _ HB2.out).mono ?_
        rintro e w3 ⟨rfl, hB⟩
        have HB3 := Lib.hid (HB2.out.trans (hB.mono HB2.out.size))
        have HX3 := Lib.hid (HX2.out.up hB)
        have hr44 := HX3.out.cr
        clear hB HX2
        go_wp2_with (first | (refine upn_fetch rfl _ rfl w.heap.size HX3.out rfl ?_) | fail)
        refine (HN.out _).mono ?_
        rintro e w4 ⟨rfl, hB⟩
        have HB4 := Lib.hid (HB3.out.trans (hB.mono HB3.out.size))
        clear hB
        have HF : Hid (rightU u = rightB u.nv u.nl) := Lib.hid (by rw [HD.out, decide_eq_false HE.out]; simp)
        go_wp2
        go_ret
        exact ⟨by rw [HF.out]; rfl, HB4.out⟩

theorem one_raw_wp {o : Oper} {a : Act} {w : World} {K : Act → World → Prop} {Q : Exit → Act → World → Prop} (x : Operand) (ho : o.op = .buildSlice 64 1 #[(0, x)]) (f k : Int) (A : Option Addr) (n c : Nat) (hx : a.eval x = .agg #[.int .i64 f, .int .i64 k, .slice A n c])
    (h : K (a.put o.dst (.slice (some ⟨w.heap.size, 0, none⟩) 1 1)) (w.alloc (.cells #[.int .i64 f, .int .i64 k, .slice A n c] 67))) : o.wp Tryz.prog a w K Q := by
  obtain ⟨i, hi, hz0, hz1, hz2⟩ := info_parts info_raw
  refine wp_buildSlice 64 67 1 _ ho _ i _ Tryz.underlying64 hi hz0 (by rw [hz1]; decide) (by rw [hz1]; decide) ?_ h
  have he : (#[(0, x)].map fun (i, x) => (i, a.eval x)).toList = [(0, .agg #[.int .i64 f, .int .i64 k, .slice A n c])] := by simp [hx]
  rw [he, hz1]
  exact fill_raw1 f k A n c
theorem app_w_wp {o : Oper} {a : Act} {K : Act → World → Prop} {Q : Exit → Act → World → Prop} (s x : Operand)
    (ho : o.op = .call { callee := .builtin .append, args := #[s, x], argTypes := #[64, 64] }) {lo : Nat} {w : World} {v : Value} {T : List Raw} (h : OwnW lo w v T) (hlo : lo ≤ w.heap.size) (hlen : T.length ≤ 3000000000)
    {f k : Int} {A : Option Addr} {n c : Nat} {body : List Int} (hb : BodyT 67 lo w A n body) (hs : a.eval s = v) (hx : a.eval x = .slice (some ⟨w.heap.size, 0, none⟩) 1 1)
    (hk : ∀ v' w', OwnW lo w' v' (T ++ [(f, k, body)]) → Below lo w w' → w.grownBy w' v.ownBlock → (∀ i, v.ownBlock = some i → lo ≤ i ∧ ∃ c, w.heap[i]? = some (.cells c 67 (0, 0))) → K (a.put o.dst v') w') : o.wp Tryz.prog a (w.alloc (.cells #[.int .i64 f, .int .i64 k, .slice A n c] 67)) K Q := by
  obtain ⟨i, hi, hz0, hz1, hz2⟩ := info_parts info_raw
  obtain ⟨cs, h1, h2⟩ := h.ex
  have hB := Blk.new w 67 #[.int .i64 f, .int .i64 k, .slice A n c]
  obtain ⟨v', w', hrun, hown, hgr, _, _⟩ := run_append_own_at (P := Tryz.prog) (w.alloc (.cells #[.int .i64 f, .int .i64 k, .slice A n c] 67)) lo 64 o.type 67 i _ 3 40 Tryz.underlying64 hi hz0 hz1 hz2 rfl (by decide) v T.length cs (h1.alloc _) ⟨w.heap.size, 0, none⟩ 1 1 [.int .i64 f, .int .i64 k, .slice A n c] rfl (by
      intro j u hu
      rw [show ((⟨w.heap.size, 0, none⟩ : Addr).add j) = ⟨w.heap.size, j, none⟩ from by unfold Addr.add; split <;> simp_all, hB.cell]
      simpa using hu) (by
      intro u hu
      simp only [List.mem_cons, List.mem_nil_iff, or_false] at hu
      rcases hu with rfl | rfl | rfl <;> rfl) (by unfold maxLen; omega) (by omega) (by simp; omega)
  have hold : ∀ i, v.ownBlock = some i → lo ≤ i ∧ ∃ c, w.heap[i]? = some (.cells c 67 (0, 0)) := fun i hi => ⟨(h1.lt i hi).1, own_heap h1 hi⟩
  have hg2 : w.grownBy w' v.ownBlock := ⟨hgr.os, hgr.tape, hgr.output, Nat.le_trans (by simp) hgr.size, fun j hj hne => (hgr.block j (by simp; omega) hne).trans (Below.heap_alloc _ _ _ hj)⟩
  have hkeep : ∀ A n l, BodyT 67 lo w A n l → BodyT 67 lo w' A n l := fun A n l hb => hb.keep fun j c t hj _ ht => hg2.block j (Array.getElem?_eq_some_iff.1 hj).1 (fun e => by
    obtain ⟨_, c', hc'⟩ := hold j e.symm
    exact row_ne hj hc' ht rfl)
  unfold Oper.wp execOp
  simp only [ho, resolve, invoke, builtin, Sem.run_bind, Sem.run_pure, Result.andThen_ok, List.map_toArray, List.map_cons, List.map_nil, hs, hx, hrun]
  exact hk v' w' ⟨_, by simpa using hown, (h2.imp hkeep).app (Rs.one (hkeep _ _ _ hb))⟩ ((Below.refl lo w).grown hg2 hlo (fun i e => (hold i e).1)) hg2 hold

structure PbS (w W : World) (cs : List Value) (u : Up) (vr vu : Value) : Prop where
  bx : UpBox W w.heap.size cs u.nv u.nl vr vu
  low : Below w.heap.size w W
theorem PbS.below {w W W' : World} {cs : List Value} {u : Up} {vr vu : Value} (h : PbS w W cs u vr vu) (hB : Below W.heap.size W W') : PbS w W' cs u vr vu := ⟨h.bx.up hB, h.low.trans (hB.mono h.low.size)⟩
theorem PbS.low1 {w W W' : World} {cs : List Value} {u : Up} {vr vu : Value} (h : PbS w W cs u vr vu) (hB : Below (w.heap.size + 1) W W') : PbS w W' cs u vr vu := ⟨h.bx.below hB (Nat.lt_succ_self _), h.low.trans (hB.mono (Nat.le_succ _))⟩
def RawsP (w : World) (u : Up) (e : Ending) (w' : World) : Prop := Below w.heap.size w w' ∧ ((u.re ≠ [] ∧ writeE u.at_ ≠ 0 ∧ e = .returned (.tuple #[.slice none 0 0, .int .i64 (writeE u.at_)])) ∨
  ((u.re ≠ [] → writeE u.at_ = 0) ∧ ∃ A c, e = .returned (.tuple #[.slice A (rawsU u).length c, .int .i64 0]) ∧ RdR w' w'.heap.size A (rawsU u).length (rawsU u)))
theorem pre_nodup (u : Up) : ((preU u).map (·.2.1)).Nodup := (((raws_perm u).map (·.2.1)).nodup_iff).1 (raws_nodup u)
theorem pre_len (u : Up) : (preU u).length ≤ 10 := by
  unfold preU goneR
  have := write_len u.at_
  split <;> split <;> simp <;> omega
theorem sorted_raws {u : Up} {ss : List Raw} (hp : ss.Perm (preU u)) (hs : (ss.map (·.2.1)).Pairwise (· < ·)) : ss = rawsU u := rise_one ss (rawsU u) hs (raws_rise u) (hp.trans (raws_perm u).symm)
theorem raws_len (u : Up) : (rawsU u).length ≤ 10 := by rw [(raws_perm u).length_eq]; exact pre_len u
end Go.Proofs.YtdgoeibfggjbmaaGreatDoor
