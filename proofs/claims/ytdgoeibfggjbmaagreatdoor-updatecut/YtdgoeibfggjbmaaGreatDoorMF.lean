/-
  Put together: UqA UqB ShelfS UqS UqC UsE AvA UpM UrA UrB UrC UqD UqE UrE.
-/
import Derived.Test.YtdgoeibfggjbmaaGreatDoorME
import Derived.Shelf.SlSortCmp.NoneTotal
import Derived.Shelf.SlGeneric
import Derived.Ground.SlsfProg
import Derived.Test.YtdgoeibfggjbmaaGreatDoorProg
import Derived.Test.YtdgoeibfggjbmaaGreatDoorMC
import Derived.Test.YtdgoeibfggjbmaaGreatDoorMD
import Derived.Test.YtdgoeibfggjbmaaGreatDoorMB
import Derived.IntWalk
namespace Go.Proofs.YtdgoeibfggjbmaaGreatDoor
open Go.RowKit
set_option maxRecDepth 100000
set_option linter.unusedSimpArgs false
set_option linter.unusedVariables false

set_option maxHeartbeats 400000 in
theorem isnt_is (w : World) (r : Rt) (hr : RtOk r) : Calls Tryz.prog 138 #[.agg (rtc r).toArray] w fun e w' => e = .returned (.bool (!rightR r)) ∧ Below w.heap.size w w' := by
  have HR := Lib.hid hr
  have H1 := Lib.hid (RtAt.new w r hr 53)
  have HB1 := Lib.hid (bl_one w (.cells (rtc r).toArray 53))
  have HRi := Lib.hid (fun W => rightRt_is W r hr)
  clear hr
  cases hrr : rightR r
  · have HE : Hid (errR r = 2) := Lib.hid (by unfold errR; rw [hrr]; rfl)
    go_enter Tryz.func138, Tryz.ntmps138
    go_wp2_with (first | (refine rt_fetch rfl _ rfl w.heap.size r HR.out rfl H1.out ?_) | fail)
    refine (HRi.out _).mono ?_
    rintro e w2 ⟨rfl, hB⟩
    have HB2 := Lib.hid (HB1.out.trans (hB.mono HB1.out.size))
    clear hB
    rw [HE.out]
    go_wp2
    go_ret
    exact ⟨rfl, HB2.out⟩
  · have HE : Hid (errR r = 0) := Lib.hid (by unfold errR; rw [hrr]; rfl)
    go_enter Tryz.func138, Tryz.ntmps138
    go_wp2_with (first | (refine rt_fetch rfl _ rfl w.heap.size r HR.out rfl H1.out ?_) | fail)
    refine (HRi.out _).mono ?_
    rintro e w2 ⟨rfl, hB⟩
    have HB2 := Lib.hid (HB1.out.trans (hB.mono HB1.out.size))
    clear hB
    rw [HE.out]
    go_wp2
    go_ret
    exact ⟨rfl, HB2.out⟩
def IdxP (w : World) (rs : List Rt) (e : Ending) (w' : World) : Prop := ∃ i : Int, e = .returned (.int .i64 i) ∧ (decide (0 ≤ i) = !rightsB rs) ∧ Below w.heap.size w w'
theorem rights_no {rs : List Rt} {m : Nat} (hm : m < rs.length) (h : rightR rs[m] = false) : rightsB rs = false := by
  unfold rightsB
  rw [List.all_eq_false]
  exact ⟨rs[m], List.getElem_mem hm, by rw [h]; decide⟩
theorem rights_yes {rs : List Rt} (h : ∀ j (hj : j < rs.length), rightR rs[j] = true) : rightsB rs = true := by
  unfold rightsB
  rw [List.all_eq_true]
  intro r hr
  obtain ⟨j, hj, rfl⟩ := List.getElem_of_mem hr
  exact h j hj
set_option maxHeartbeats 1000000 in
theorem idxRt_is (w : World) (A : Option Addr) (n c : Nat) (rs : List Rt) (hr : RdRt w w.heap.size A n rs) (hn : n ≤ 1000000000000) : Calls Tryz.prog 188 #[.slice A n c, .func (.func 138) #[] #[]] w (IdxP w rs) := by
  have HR := Lib.hid hr
  have HLen := Lib.hid hr.len
  clear hr
  go_enter Tryz.func188, Tryz.ntmps188
  go_wp2
  go_loopw [5, 8] (fun _ i wr => ∃ m : Nat, m ≤ n ∧ i = .int .i64 m ∧ (Below w.heap.size w wr ∧ ∀ j (hj : j < rs.length), j < m → rightR rs[j] = true)) (fun _ i _ => n - (intOf i).toNat)
  case atStart => exact ⟨0, Nat.zero_le _, rfl, Below.refl _ _, fun j hj h => by omega⟩
  case round =>
    obtain ⟨m, hm, rfl, hrel⟩ := hrel
    have HRel := Lib.hid hrel
    clear hrel
    by_cases hlt : m < n
    · have hml : m < rs.length := by have := HLen.out; omega
      obtain ⟨b, off, rfl, hb, hrng, ok⟩ := (HR.out.below HRel.out.1).get hml
      have HRng := Lib.hid hrng
      have HOx := Lib.hid ok
      have HNo := Lib.hid (rights_no hml)
      have HX := Lib.hid (fun (h : rightR rs[m] = true) j (hj : j < rs.length) (hjm : j < m + 1) => (show rightR rs[j] = true from by
        rcases Nat.lt_or_ge j m with h1 | h1
        · exact HRel.out.2 j hj h1
        · obtain rfl : j = m := by omega
          exact h))
      generalize rs[m] = x at *
      have HI := Lib.hid (isnt_is wr x ok)
      have hi0 : (0 : Int) ≤ (m : Int) := by omega
      have hi1 : (m : Int) < (n : Int) := by omega
      clear hrng ok
      cases hrr : rightR x
      · rw [hrr] at HI
        have HN := Lib.hid (HNo.out hrr)
        clear hrr HNo HX
        go_wp2_with (first | (refine part_fetch rfl 53 _ rfl b (off + m * 63) (rtc x) _ rfl HRng.out Tryz.underlying53 rfl (by rw [rt_size, rtc_len HOx.out]) ?_) | (go_at_call 138; refine HI.out.mono ?_; rintro e w2 ⟨rfl, hB⟩; have HB2 := Lib.hid (HRel.out.1.trans (hB.mono HRel.out.1.size)); clear hB) | fail)
        go_ret
        exact ⟨m, rfl, by rw [HN.out]; simp, HB2.out⟩
      · rw [hrr] at HI
        have HN := Lib.hid (HX.out hrr)
        clear hrr HNo HX
        go_wp2_with (first | (refine part_fetch rfl 53 _ rfl b (off + m * 63) (rtc x) _ rfl HRng.out Tryz.underlying53 rfl (by rw [rt_size, rtc_len HOx.out]) ?_) | (go_at_call 138; refine HI.out.mono ?_; rintro e w2 ⟨rfl, hB⟩; have HB2 := Lib.hid (HRel.out.1.trans (hB.mono HRel.out.1.size)); clear hB) | fail)
        exact ⟨⟨m + 1, by omega, by go_num, HB2.out, HN.out⟩, by simp [intOf]; omega⟩
    · obtain rfl : m = n := by omega
      have HY : Hid (rightsB rs = true) := Lib.hid (rights_yes fun j hj => HRel.out.2 j hj (by have := HLen.out; omega))
      go_wp2
      go_ret
      exact ⟨-1, rfl, by rw [HY.out]; rfl, HRel.out.1⟩
theorem areRight_is (w : World) (A : Option Addr) (n c : Nat) (rs : List Rt) (hr : RdRt w w.heap.size A n rs) (hn : n ≤ 1000000000000) : Calls Tryz.prog 88 #[.slice A n c] w fun e w' => e = .returned (.bool (rightsB rs)) ∧ Below w.heap.size w w' := by
  have HI := Lib.hid (idxRt_is w A n c rs hr hn)
  have HC : Calls Tryz.prog 137 #[.slice A n c, .func (.func 138) #[] #[]] w fun e w' => e = .returned (.bool (!rightsB rs)) ∧ Below w.heap.size w w' := by
    clear hr
    go_enter Tryz.func137, Tryz.ntmps137
    go_wp2_with fail
    refine HI.out.mono ?_
    rintro e w2 ⟨i, rfl, hi, hB⟩
    have HB := Lib.hid hB
    have HIi := Lib.hid hi
    clear hB hi
    go_wp2
    go_ret
    exact ⟨by rw [← HIi.out]; rfl, HB.out⟩
  have HCC := Lib.hid HC
  clear HC hr HI
  cases hb : rightsB rs
  · rw [hb] at HCC
    go_enter Tryz.func88, Tryz.ntmps88
    go_wp2_with fail
    refine HCC.out.mono ?_
    rintro e w2 ⟨rfl, hB⟩
    have HB := Lib.hid hB
    clear hB
    go_wp2
    go_ret
    exact ⟨rfl, HB.out⟩
  · rw [hb] at HCC
    go_enter Tryz.func88, Tryz.ntmps88
    go_wp2_with fail
    refine HCC.out.mono ?_
    rintro e w2 ⟨rfl, hB⟩
    have HB := Lib.hid hB
    clear hB
    go_wp2
    go_ret
    exact ⟨rfl, HB.out⟩

/-! Bytes. -/
theorem numU7_is (w : World) (n : Int) (s : Nat) (h0 : 0 ≤ n) (h1 : 1 ≤ s) (h8 : s ≤ 8) (hf : n < 256 ^ s) (hi : n ≤ 4294967295) : Calls Tryz.prog 52 #[.int .i64 n, .int .i64 s] w (NumPost w n s) := by
  have HP := Lib.hid (put_fits w none 0 0 [] n s (Rd.nil_ none) (by omega) h0 (by omega) (by omega) (by omega) (by simpa using hf))
  have hw : n % 18446744073709551616 = n := Int.emod_eq_of_lt h0 (by omega)
  clear hf
  go_enter Tryz.func52, Tryz.ntmps52
  go_wp2_with fail
  refine HP.out.mono ?_
  rintro e w1 ⟨rfl, hb, hB⟩
  have HEnd : Hid (NumPost w n s (.returned (.slice (some ⟨w.heap.size, 0, none⟩) s s)) w1) := Lib.hid ⟨rfl, by simpa using hb, hB⟩
  clear hb hB
  simp only [List.length_nil, Nat.zero_add, Int.toNat_natCast]
  go_wp2
  go_ret
  exact HEnd.out
theorem own_byt {lo g : Nat} {W : World} {l : List Int} {s : Nat} (h : Byt W g 5 l) (ho : Oct l) (hs : l.length = s) (hg : lo ≤ g) (hn : s ≤ 1000000) : OwnB lo W (.slice (some ⟨g, 0, none⟩) s s) l := by
  subst hs
  exact ⟨⟨by simp, .inr ⟨g, l.length, _, rfl, hg, h, Nat.le_refl _, by unfold maxLen; omega, by simp, List.take_of_length_le (by simp)⟩⟩, ho⟩
def FamP (w : World) (e : Ending) (w' : World) : Prop := ∃ v, e = .returned v ∧ OwnB w.heap.size w' v famB ∧ Below w.heap.size w w'
theorem rd_lit (W : World) (l : List Int) (ho : Oct l) : Rd (W.alloc (.cells (l.map (Value.int .u8)).toArray 5)) (W.alloc (.cells (l.map (Value.int .u8)).toArray 5)).heap.size (some ⟨W.heap.size, 0, none⟩) l.length l := by
  have hb : Byt (W.alloc (.cells (l.map (Value.int .u8)).toArray 5)) W.heap.size 5 l := Blk.new W 5 _
  exact hb.rd_all ho (by simp)
theorem oct70 : Oct [70] := by unfold Oct; decide
theorem family7_is (w : World) : Calls Tryz.prog 92 #[] w (FamP w) := by
  go_enter Tryz.func92, Tryz.ntmps92
  go_wp2_with fail
  refine (numU7_is w 25 2 (by omega) (by omega) (by omega) (by decide) (by omega)).mono ?_
  rintro e w1 ⟨rfl, hb, hB⟩
  have hO : OwnB w.heap.size w1 (.slice (some ⟨w.heap.size, 0, none⟩) 2 2) [0, 25] := own_byt hb (by unfold Oct; decide) rfl (Nat.le_refl _) (by omega)
  have HO := Lib.hid (hO.below (bl_one w1 (.cells #[.int .u8 70] 5)))
  have HRd := Lib.hid (show Rd (w1.alloc (.cells #[.int .u8 70] 5)) (w1.alloc (.cells #[.int .u8 70] 5)).heap.size (some ⟨w1.heap.size, 0, none⟩) 1 [70] from rd_lit w1 [70] oct70)
  have hs : w.heap.size ≤ (w1.alloc (.cells #[.int .u8 70] 5)).heap.size := by have := hB.size; simp; omega
  have HB := Lib.hid (hB.trans ((bl_one w1 (.cells #[.int .u8 70] 5)).mono hB.size))
  clear hb hB hO
  go_wp2_with (at_builtin; refine app_bs rfl _ _ rfl HO.out hs HRd.out (by simp) rfl rfl ?_)
  intro v' w2 ho2 hb2 _ _
  have HO2 := Lib.hid ho2
  have HB2 := Lib.hid (HB.out.trans hb2)
  clear ho2 hb2
  go_wp2
  go_ret
  exact ⟨v', rfl, HO2.out, HB2.out⟩

def MadeU (w : World) (k : Int) (l : List Int) (e : Ending) (w' : World) : Prop :=
  ∃ A c, e = .returned (.agg #[.int .i64 (lfl 128 l), .int .i64 k, .slice A l.length c]) ∧ BodyT 67 w.heap.size w' A l.length l ∧ Below w.heap.size w w'
set_option maxHeartbeats 4000000 in
theorem made7_is (w : World) (k : Int) (A : Option Addr) (n c : Nat) (ls : List (List Int)) (hr : RdL w w.heap.size A n ls) (hn : n ≤ 1000000) (hfl : ls.flatten.length ≤ 140737488355328) :
    Calls Tryz.prog 91 #[.int .i64 k, .slice A n c] w (MadeU w k ls.flatten) := by
  have hal := bl_one w (.cells #[.int .i64 0, .int .i64 0, .slice none 0 0] 67)
  have hR0 := Blk.new w 67 #[.int .i64 0, .int .i64 0, .slice none 0 0]
  have HC := Lib.hid (concat_is _ A n c ls ((hr.below hal).more hal.size) hn hfl)
  have HB0 := Lib.hid hal
  have HR0 := Lib.hid hR0
  generalize hl : ls.flatten = l at *
  clear hr hal hR0 hl
  go_enter Tryz.func91, Tryz.ntmps91
  go_wp2_with fail
  refine HC.out.mono ?_
  rintro e w1 ⟨v, rfl, hO, hB⟩
  obtain ⟨A2, c2, rfl, hbd⟩ := hO.bodyT (T0 := 67) (by decide)
  have hs0 : w.heap.size < (w.alloc (.cells #[.int .i64 0, .int .i64 0, .slice none 0 0] 67)).heap.size := by simp
  have hres := HR0.out.below hB hs0
  have hlow := HB0.out.trans (hB.mono (Nat.le_of_lt hs0))
  have hlt : w.heap.size < w1.heap.size := hres.lt
  have hbd1 := hbd.low (Nat.le_of_lt hs0)
  -- the attribute's own block
  have hal2 := bl_one w1 (.cells #[.int .i64 0, .int .i64 0, .slice none 0 0] 67)
  have hq := Blk.new w1 67 #[.int .i64 0, .int .i64 0, .slice none 0 0]
  have HQ := Lib.hid hq
  have hbd2 := (hbd1.below hal2).row hq (cs' := #[.int .i64 128, .int .i64 k, .slice A2 l.length c2])
  have hres2 := Blk.setRow_other5 (hres.below hal2 hlt) (g' := w1.heap.size) (by omega) #[.int .i64 128, .int .i64 k, .slice A2 l.length c2]
  have hlow2 := (hlow.trans (hal2.mono hlow.size)).trans (below_setRow (w1.alloc (.cells #[.int .i64 0, .int .i64 0, .slice none 0 0] 67)) w1.heap.size #[.int .i64 128, .int .i64 k, .slice A2 l.length c2] (B := w.heap.size) (by omega))
  have hq2 := Blk.setRow hq #[.int .i64 128, .int .i64 k, .slice A2 l.length c2]
  have HBd2 := Lib.hid hbd2
  have HRes2 := Lib.hid hres2
  have HLow2 := Lib.hid hlow2
  have HQ2 := Lib.hid hq2
  have f0 := hq2.frozen 0
  have q0 : ((w1.alloc (.cells #[.int .i64 0, .int .i64 0, .slice none 0 0] 67)).setRow w1.heap.size #[.int .i64 128, .int .i64 k, .slice A2 l.length c2]).cell? ⟨w1.heap.size, 0, none⟩ = some (.int .i64 128) := hq2.cell 0
  have q2 : ((w1.alloc (.cells #[.int .i64 0, .int .i64 0, .slice none 0 0] 67)).setRow w1.heap.size #[.int .i64 128, .int .i64 k, .slice A2 l.length c2]).cell? ⟨w1.heap.size, 2, none⟩ = some (.slice A2 l.length c2) := hq2.cell 2
  clear hO hB hbd hres hlow hbd1 hal2 hq hbd2 hres2 hlow2 hq2 HB0 HR0 HC
  by_cases h255 : 255 < l.length
  · have hi : (l.length : Int) > 255 := by omega
    have HLf : Hid (lfl 128 l = 144) := Lib.hid (by unfold lfl; rw [if_pos h255]; rfl)
    have hor : bits .or .i64 128 16 = 144 := by decide
    have hq3 := HQ2.out.set_ 0 (.int .i64 144)
    rw [show (#[Value.int .i64 128, .int .i64 k, .slice A2 l.length c2]).setIfInBounds 0 (.int .i64 144) = #[Value.int .i64 144, .int .i64 k, .slice A2 l.length c2] from rfl] at hq3
    have HW : Hid (Blk (((w1.alloc (.cells #[.int .i64 0, .int .i64 0, .slice none 0 0] 67)).setRow w1.heap.size #[.int .i64 128, .int .i64 k, .slice A2 l.length c2]).setCell ⟨w1.heap.size, 0, none⟩ (.int .i64 144)) w.heap.size 67 #[.int .i64 0, .int .i64 0, .slice none 0 0]) := Lib.hid (HRes2.out.far (p := ⟨w1.heap.size, 0, none⟩) (by show w.heap.size ≠ w1.heap.size; omega) _)
    have HBd3 := Lib.hid (((HBd2.out.cellr (o := 0) (u := .int .i64 144) HQ2.out)).row HW.out (cs' := #[.int .i64 144, .int .i64 k, .slice A2 l.length c2]))
    have HLow3 := Lib.hid ((HLow2.out.setCell (p := ⟨w1.heap.size, 0, none⟩) (by show w.heap.size ≤ w1.heap.size; omega) (.int .i64 144)).trans (below_setRow _ w.heap.size #[.int .i64 144, .int .i64 k, .slice A2 l.length c2] (Nat.le_refl _)))
    have HQ3 := Lib.hid hq3
    have HEnd : Hid (∀ W, W = ((((w1.alloc (.cells #[.int .i64 0, .int .i64 0, .slice none 0 0] 67)).setRow w1.heap.size #[.int .i64 128, .int .i64 k, .slice A2 l.length c2]).setCell ⟨w1.heap.size, 0, none⟩ (.int .i64 144)).setRow w.heap.size #[.int .i64 144, .int .i64 k, .slice A2 l.length c2]) → MadeU w k l (.returned (.agg #[.int .i64 144, .int .i64 k, .slice A2 l.length c2])) W) := Lib.hid (fun W hW => by subst hW; exact ⟨A2, c2, by rw [HLf.out], HBd3.out, HLow3.out⟩)
    clear hq3 h255
    go_wp2_with (first
      | (refine raw_store rfl _ _ rfl w1.heap.size 128 k A2 l.length c2 rfl rfl 67 _ HQ.out rfl ?_)
      | (refine raw_fetch rfl _ rfl w1.heap.size 0 144 k A2 l.length c2 rfl (HQ3.out.cell 0) (HQ3.out.cell 1) (HQ3.out.cell 2) ?_)
      | (refine raw_store rfl _ _ rfl w.heap.size 144 k A2 l.length c2 rfl rfl 67 _ HW.out rfl ?_))
    try simp only [Exit.inBlock, Exit.then]
    exact bodyPost_ret (results_cell_row rfl _ _ w.heap.size 67 _ (0, 0) _ rfl (Blk.setRow HW.out _) Tryz.underlying67 rfl rsz) rfl (HEnd.out _ rfl)
  · have hi : ¬ (l.length : Int) > 255 := by omega
    have HLf : Hid (lfl 128 l = 128) := Lib.hid (by unfold lfl; rw [if_neg h255])
    have HBd3 := Lib.hid (HBd2.out.row HRes2.out (cs' := #[.int .i64 128, .int .i64 k, .slice A2 l.length c2]))
    have HLow3 := Lib.hid (HLow2.out.trans (below_setRow _ w.heap.size #[.int .i64 128, .int .i64 k, .slice A2 l.length c2] (Nat.le_refl _)))
    have HEnd : Hid (∀ W, W = (((w1.alloc (.cells #[.int .i64 0, .int .i64 0, .slice none 0 0] 67)).setRow w1.heap.size #[.int .i64 128, .int .i64 k, .slice A2 l.length c2]).setRow w.heap.size #[.int .i64 128, .int .i64 k, .slice A2 l.length c2]) → MadeU w k l (.returned (.agg #[.int .i64 128, .int .i64 k, .slice A2 l.length c2])) W) := Lib.hid (fun W hW => by subst hW; exact ⟨A2, c2, by rw [HLf.out], HBd3.out, HLow3.out⟩)
    clear h255
    go_wp2_with (first
      | (refine raw_store rfl _ _ rfl w1.heap.size 128 k A2 l.length c2 rfl rfl 67 _ HQ.out rfl ?_)
      | (refine raw_fetch rfl _ rfl w1.heap.size 0 128 k A2 l.length c2 rfl (HQ2.out.cell 0) (HQ2.out.cell 1) (HQ2.out.cell 2) ?_)
      | (refine raw_store rfl _ _ rfl w.heap.size 128 k A2 l.length c2 rfl rfl 67 _ HRes2.out rfl ?_))
    try simp only [Exit.inBlock, Exit.then]
    exact bodyPost_ret (results_cell_row rfl _ _ w.heap.size 67 _ (0, 0) _ rfl (Blk.setRow HRes2.out _) Tryz.underlying67 rfl rsz) rfl (HEnd.out _ rfl)
end Go.Proofs.YtdgoeibfggjbmaaGreatDoor
namespace Go.Proofs.YtdgoeibfggjbmaaGreatDoor
open Go.RowKit
set_option maxRecDepth 100000
set_option linter.unusedSimpArgs false
set_option linter.unusedVariables false

def NxP (w : World) (v : Bool) (l : List Int) (e : Ending) (w' : World) : Prop := ∃ x, e = .returned x ∧ OwnB w.heap.size w' x (nextB v l) ∧ Below w.heap.size w w'
structure NbS (w W : World) (v : Bool) (l : List Int) : Prop where
  rng : W.rangeAt w.heap.size 0 (ipc v l)
  low : Below w.heap.size w W
  lt : w.heap.size < W.heap.size
theorem NbS.below {w W W' : World} {v : Bool} {l : List Int} (h : NbS w W v l) (hB : Below W.heap.size W W') : NbS w W' v l := ⟨range_below h.rng hB h.lt, h.low.trans (hB.mono h.low.size), Nat.lt_of_lt_of_le h.lt hB.size⟩
theorem NbS.rd {w W : World} {v : Bool} {l : List Int} (h : NbS w W v l) (ho : Oct l) (k : Nat) (hk : k ≤ l.length) : Rd W W.heap.size (some ⟨w.heap.size, 1, none⟩) k (l.take k) := by
  have := rd_range (pre := [Value.bool v]) (post := []) (l := l) (b := w.heap.size) (B := W.heap.size) (w := W) (by simpa using h.rng) ho 0 k (by omega) h.lt
  simpa using this
theorem Rd.up7 {W W' : World} {A : Option Addr} {n : Nat} {l : List Int} (h : Rd W W.heap.size A n l) (hB : Below W.heap.size W W') : Rd W' W'.heap.size A n l := (h.below hB).more hB.size
theorem NumPost.rd7 {w W : World} {n : Int} {s : Nat} {e : Ending} (h : NumPost w n s e W) : e = .returned (.slice (some ⟨w.heap.size, 0, none⟩) s s) ∧ Rd W W.heap.size (some ⟨w.heap.size, 0, none⟩) s (be s n) ∧ Below w.heap.size w W := by
  obtain ⟨h1, h2, h3⟩ := h
  have := h2.rd_all (B := W.heap.size) (be_oct _ _) h2.lt
  rw [be_len] at this
  exact ⟨h1, this, h3⟩
set_option maxHeartbeats 2000000 in
theorem next7_is (w : World) (v : Bool) (l : List Int) (hl : l.length = 16) (ho : Oct l) : Calls Tryz.prog 93 #[.agg (ipc v l).toArray] w (NxP w v l) := by
  have h0 := range_new w 27 (ipc v l)
  have H0 := Lib.hid h0
  have HL := Lib.hid hl
  have HO := Lib.hid ho
  have hsl := slice_arr_h (P := Tryz.prog) (t := 25) (e := 5) (n := 16) Tryz.underlying25 (by kernel_rfl) w.heap.size 1 (nb v) (by unfold nb; split <;> omega) (by omega)
  have HB0 := Lib.hid ((Below.refl w.heap.size w).alloc (Nat.le_refl _) (.cells (ipc v l).toArray 27))
  have hbv : (v = true ∧ nb v = 16 ∧ bitsOf v = 128) ∨ (v = false ∧ nb v = 4 ∧ bitsOf v = 32) := by cases v <;> simp [nb, bitsOf]
  have HBt := Lib.hid (fun W => bits_is W v l)
  have HNx : Hid ([be 1 (nb v : Int), l.take (nb v), be 1 0].flatten = nextB v l) := Lib.hid (by
    have e1 : be 1 (nb v : Int) = [(nb v : Int)] := be_num1 _ (by unfold nb; split <;> omega)
    rw [e1]; simp [nextB, be])
  have HNl : Hid ((nextB v l).length ≤ 100) := Lib.hid (by unfold nextB nb; split <;> simp <;> omega)
  clear h0 hl ho
  go_enter Tryz.func93, Tryz.ntmps93
  go_wp2_with (refine ip_fetch rfl _ rfl w.heap.size 0 v l HL.out rfl H0.out ?_)
  refine (HBt.out _).mono ?_
  rintro e w1 ⟨rfl, hB⟩
  have hs1 : w.heap.size < w1.heap.size := by have := hB.size; simp at this; omega
  have HS1 : Hid (NbS w w1 v l) := Lib.hid ⟨range_below H0.out hB (by simp), HB0.out.trans (hB.mono HB0.out.size), hs1⟩
  clear hB hs1
  rcases hbv with ⟨rfl, e1, e2⟩ | ⟨rfl, e1, e2⟩
  · rw [e1] at hsl HNx
    rw [e2]
    have hs2 := hsl 16 rfl
    have hb16 : 16 ≤ l.length := by rw [HL.out]; omega
    clear hsl
    go_wp2_with fail
    refine wp_region_held_drew (S := fun W => NbS w W true l) (by kernel_rfl) (HS1.out.below (below_drewN (Below.refl _ _) 1)) (fun hS => ?_)
    refine wpAnyH_take (i := 0) (oi := ⟨some 7, _, _, _, _, _⟩) (v := ?_) rfl (by kernel_rfl) (by kernel_rfl) (by kernel_rfl) (fun _ _ _ h => h) (Or.inl ⟨by rfl, ?_⟩) hS ?_
    rotate_left
    · intro wq hq
      first | (go_simp; done) | (go_simp; rfl)
    try simp only [Act.put, List.setIfInBounds_toArray, List.set_cons_zero, List.set_cons_succ]
    refine wpAnyH_take (i := 2) (oi := ⟨some 9, _, _, _, _, _⟩) (v := ?_) rfl (by kernel_rfl) (by kernel_rfl) (by kernel_rfl) (fun _ _ _ h => h) (Or.inl ⟨by rfl, ?_⟩) hS ?_
    rotate_left
    · intro wq hq
      first | (go_simp; done) | (go_simp; rfl)
    try simp only [Act.put, List.setIfInBounds_toArray, List.set_cons_zero, List.set_cons_succ]
    refine wpAnyH_take (i := 3) (oi := ⟨some 10, _, _, _, _, _⟩) (v := ?_) rfl (by kernel_rfl) (by kernel_rfl) (by kernel_rfl) (fun _ _ _ h => h) (Or.inl ⟨by rfl, ?_⟩) hS ?_
    rotate_left
    · intro wq hq
      first | (go_simp; done) | (go_simp; rfl)
    try simp only [Act.put, List.setIfInBounds_toArray, List.set_cons_zero, List.set_cons_succ]
    refine wpAnyH_take (i := 4) (oi := ⟨some 11, _, _, _, _, _⟩) (v := ?_) rfl (by kernel_rfl) (by kernel_rfl) (by kernel_rfl) (fun _ _ _ h => h) (Or.inl ⟨by rfl, ?_⟩) hS ?_
    rotate_left
    · intro wq hq
      first | (go_simp; done) | (go_simp; rfl)
    try simp only [Act.put, List.setIfInBounds_toArray, List.set_cons_zero, List.set_cons_succ]
    generalize w1.drew = W1 at *
    clear HS1
    refine wpAnyH_ready (rs := [1]) (by kernel_rfl) (by simp) ?_
    refine AllReadyH.cons (o := ⟨some 8, _, _, _, _, _⟩) rfl (fun K hK => ?_) AllReadyH.nil
    rw [if_pos (by rfl)]
    go_wp2_with fail
    refine (numU7_is W1 16 1 (by omega) (by omega) (by omega) (by decide) (by omega)).mono ?_
    rintro e W2 hnp
    obtain ⟨rfl, r1, hB⟩ := hnp.rd7
    have hS2 := hS.below hB
    clear hB hS hnp
    refine hK.out _ _ (hS2) (fun hS => ?_)
    clear hK K
    try simp only [Act.put, List.setIfInBounds_toArray, List.set_cons_zero, List.set_cons_succ]
    clear hS2
    refine wpAnyH_ready (rs := [5]) (by kernel_rfl) (by simp) ?_
    refine AllReadyH.cons (o := ⟨some 12, _, _, _, _, _⟩) rfl (fun K hK => ?_) AllReadyH.nil
    rw [if_pos (by rfl)]
    go_wp2_with fail
    refine (numU7_is W2 0 1 (by omega) (by omega) (by omega) (by decide) (by omega)).mono ?_
    rintro e W3 hnp
    obtain ⟨rfl, r2, hB⟩ := hnp.rd7
    have hS3 := hS.below hB
    have r1 := r1.up7 hB
    clear hB hS hnp
    refine hK.out _ _ (hS3) (fun hS => ?_)
    clear hK K
    try simp only [Act.put, List.setIfInBounds_toArray, List.set_cons_zero, List.set_cons_succ]
    clear hS3
    refine wpAnyH_ready (rs := [6]) (by kernel_rfl) (by simp) ?_
    refine AllReadyH.cons (o := ⟨some 13, _, _, _, _, _⟩) rfl (fun K hK => ?_) AllReadyH.nil
    rw [if_pos (by rfl)]
    go_wp2
    have hL := rdl_new_at (W := W3) (vs := [(some ⟨W1.heap.size, 0, none⟩, 1, 1), (some ⟨w.heap.size, 1, none⟩, 16, 16), (some ⟨W2.heap.size, 0, none⟩, 1, 1)]) (ls := [be 1 16, l.take 16, be 1 0]) ⟨r1, hS.rd HO.out 16 hb16, r2, trivial⟩ 38 _ rfl _ rfl
    have hSn := hS.below (bl_one W3 (.cells #[.slice (some ⟨W1.heap.size, 0, none⟩) 1 1, .slice (some ⟨w.heap.size, 1, none⟩) 16 16, .slice (some ⟨W2.heap.size, 0, none⟩) 1 1] 38))
    refine hK.out _ _ (hSn) (fun hS => ?_)
    clear hK K
    try simp only [Act.put, List.setIfInBounds_toArray, List.set_cons_zero, List.set_cons_succ]
    clear hSn r1 r2
    have hNx := HNx.out
    have hNl := HNl.out
    refine wpAnyH_ready (rs := [7]) (by kernel_rfl) (by simp) ?_
    refine AllReadyH.cons (o := ⟨some 14, _, _, _, _, _⟩) rfl (fun K hK => ?_) AllReadyH.nil
    rw [if_pos (by rfl)]
    go_wp2_with fail
    refine (concat_is _ _ 3 3 _ hL (by omega) (by rw [show ([be 1 16, l.take 16, be 1 0] : List (List Int)).flatten = nextB true l from hNx]; omega)).mono ?_
    rintro e W4 ⟨x, rfl, hO, hB⟩
    have hS4 := hS.below hB
    have HO4 := Lib.hid (hO.low (lo' := w.heap.size) hS.low.size)
    have HLow := Lib.hid hS4.low
    clear hB hS hO hL hNl
    refine hK.out _ _ (hS4) (fun hS => ?_)
    clear hK K
    try simp only [Act.put, List.setIfInBounds_toArray, List.set_cons_zero, List.set_cons_succ]
    clear hS4
    refine wpAnyH_take (i := 8) (oi := ⟨some 2, _, _, _, _, _⟩) (v := ?_) rfl (by kernel_rfl) (by kernel_rfl) (by kernel_rfl) (fun _ _ _ h => h) (Or.inl ⟨by rfl, ?_⟩) hS ?_
    rotate_left
    · intro wq hq
      first | (go_simp; done) | (go_simp; rfl)
    try simp only [Act.put, List.setIfInBounds_toArray, List.set_cons_zero, List.set_cons_succ]
    refine wpAnyH_done (by kernel_rfl) ?_ _
    go_wp2
    go_ret
    exact ⟨x, rfl, by have := HO4.out; rwa [show ([be 1 16, l.take 16, be 1 0] : List (List Int)).flatten = nextB true l from hNx] at this, HLow.out⟩
  · rw [e1] at hsl HNx
    rw [e2]
    have hs2 := hsl 4 rfl
    have hb16 : 4 ≤ l.length := by rw [HL.out]; omega
    clear hsl
    go_wp2_with fail
    refine wp_region_held_drew (S := fun W => NbS w W false l) (by kernel_rfl) (HS1.out.below (below_drewN (Below.refl _ _) 1)) (fun hS => ?_)
    refine wpAnyH_take (i := 0) (oi := ⟨some 7, _, _, _, _, _⟩) (v := ?_) rfl (by kernel_rfl) (by kernel_rfl) (by kernel_rfl) (fun _ _ _ h => h) (Or.inl ⟨by rfl, ?_⟩) hS ?_
    rotate_left
    · intro wq hq
      first | (go_simp; done) | (go_simp; rfl)
    try simp only [Act.put, List.setIfInBounds_toArray, List.set_cons_zero, List.set_cons_succ]
    refine wpAnyH_take (i := 2) (oi := ⟨some 9, _, _, _, _, _⟩) (v := ?_) rfl (by kernel_rfl) (by kernel_rfl) (by kernel_rfl) (fun _ _ _ h => h) (Or.inl ⟨by rfl, ?_⟩) hS ?_
    rotate_left
    · intro wq hq
      first | (go_simp; done) | (go_simp; rfl)
    try simp only [Act.put, List.setIfInBounds_toArray, List.set_cons_zero, List.set_cons_succ]
    refine wpAnyH_take (i := 3) (oi := ⟨some 10, _, _, _, _, _⟩) (v := ?_) rfl (by kernel_rfl) (by kernel_rfl) (by kernel_rfl) (fun _ _ _ h => h) (Or.inl ⟨by rfl, ?_⟩) hS ?_
    rotate_left
    · intro wq hq
      first | (go_simp; done) | (go_simp; rfl)
    try simp only [Act.put, List.setIfInBounds_toArray, List.set_cons_zero, List.set_cons_succ]
    refine wpAnyH_take (i := 4) (oi := ⟨some 11, _, _, _, _, _⟩) (v := ?_) rfl (by kernel_rfl) (by kernel_rfl) (by kernel_rfl) (fun _ _ _ h => h) (Or.inl ⟨by rfl, ?_⟩) hS ?_
    rotate_left
    · intro wq hq
      first | (go_simp; done) | (go_simp; rfl)
    try simp only [Act.put, List.setIfInBounds_toArray, List.set_cons_zero, List.set_cons_succ]
    generalize w1.drew = W1 at *
    clear HS1
    refine wpAnyH_ready (rs := [1]) (by kernel_rfl) (by simp) ?_
    refine AllReadyH.cons (o := ⟨some 8, _, _, _, _, _⟩) rfl (fun K hK => ?_) AllReadyH.nil
    rw [if_pos (by rfl)]
    go_wp2_with fail
    refine (numU7_is W1 4 1 (by omega) (by omega) (by omega) (by decide) (by omega)).mono ?_
    rintro e W2 hnp
    obtain ⟨rfl, r1, hB⟩ := hnp.rd7
    have hS2 := hS.below hB
    clear hB hS hnp
    refine hK.out _ _ (hS2) (fun hS => ?_)
    clear hK K
    try simp only [Act.put, List.setIfInBounds_toArray, List.set_cons_zero, List.set_cons_succ]
    clear hS2
    refine wpAnyH_ready (rs := [5]) (by kernel_rfl) (by simp) ?_
    refine AllReadyH.cons (o := ⟨some 12, _, _, _, _, _⟩) rfl (fun K hK => ?_) AllReadyH.nil
    rw [if_pos (by rfl)]
    go_wp2_with fail
    refine (numU7_is W2 0 1 (by omega) (by omega) (by omega) (by decide) (by omega)).mono ?_
    rintro e W3 hnp
    obtain ⟨rfl, r2, hB⟩ := hnp.rd7
    have hS3 := hS.below hB
    have r1 := r1.up7 hB
    clear hB hS hnp
    refine hK.out _ _ (hS3) (fun hS => ?_)
    clear hK K
    try simp only [Act.put, List.setIfInBounds_toArray, List.set_cons_zero, List.set_cons_succ]
    clear hS3
    refine wpAnyH_ready (rs := [6]) (by kernel_rfl) (by simp) ?_
    refine AllReadyH.cons (o := ⟨some 13, _, _, _, _, _⟩) rfl (fun K hK => ?_) AllReadyH.nil
    rw [if_pos (by rfl)]
    go_wp2
    have hL := rdl_new_at (W := W3) (vs := [(some ⟨W1.heap.size, 0, none⟩, 1, 1), (some ⟨w.heap.size, 1, none⟩, 4, 16), (some ⟨W2.heap.size, 0, none⟩, 1, 1)]) (ls := [be 1 4, l.take 4, be 1 0]) ⟨r1, hS.rd HO.out 4 hb16, r2, trivial⟩ 38 _ rfl _ rfl
    have hSn := hS.below (bl_one W3 (.cells #[.slice (some ⟨W1.heap.size, 0, none⟩) 1 1, .slice (some ⟨w.heap.size, 1, none⟩) 4 16, .slice (some ⟨W2.heap.size, 0, none⟩) 1 1] 38))
    refine hK.out _ _ (hSn) (fun hS => ?_)
    clear hK K
    try simp only [Act.put, List.setIfInBounds_toArray, List.set_cons_zero, List.set_cons_succ]
    clear hSn r1 r2
    have hNx := HNx.out
    have hNl := HNl.out
    refine wpAnyH_ready (rs := [7]) (by kernel_rfl) (by simp) ?_
    refine AllReadyH.cons (o := ⟨some 14, _, _, _, _, _⟩) rfl (fun K hK => ?_) AllReadyH.nil
    rw [if_pos (by rfl)]
    go_wp2_with fail
    refine (concat_is _ _ 3 3 _ hL (by omega) (by rw [show ([be 1 4, l.take 4, be 1 0] : List (List Int)).flatten = nextB false l from hNx]; omega)).mono ?_
    rintro e W4 ⟨x, rfl, hO, hB⟩
    have hS4 := hS.below hB
    have HO4 := Lib.hid (hO.low (lo' := w.heap.size) hS.low.size)
    have HLow := Lib.hid hS4.low
    clear hB hS hO hL hNl
    refine hK.out _ _ (hS4) (fun hS => ?_)
    clear hK K
    try simp only [Act.put, List.setIfInBounds_toArray, List.set_cons_zero, List.set_cons_succ]
    clear hS4
    refine wpAnyH_take (i := 8) (oi := ⟨some 2, _, _, _, _, _⟩) (v := ?_) rfl (by kernel_rfl) (by kernel_rfl) (by kernel_rfl) (fun _ _ _ h => h) (Or.inl ⟨by rfl, ?_⟩) hS ?_
    rotate_left
    · intro wq hq
      first | (go_simp; done) | (go_simp; rfl)
    try simp only [Act.put, List.setIfInBounds_toArray, List.set_cons_zero, List.set_cons_succ]
    refine wpAnyH_done (by kernel_rfl) ?_ _
    go_wp2
    go_ret
    exact ⟨x, rfl, by have := HO4.out; rwa [show ([be 1 4, l.take 4, be 1 0] : List (List Int)).flatten = nextB false l from hNx] at this, HLow.out⟩

/-- The routes' bytes so far. -/
structure RbW (w W : World) (v : Value) (rs : List Rt) : Prop where
  own : OwnB w.heap.size W v (puts rs)
  low : Below w.heap.size w W
def RbP (w : World) (rs : List Rt) (e : Ending) (w' : World) : Prop := ∃ x, e = .returned x ∧ OwnB w.heap.size w' x (puts rs) ∧ Below w.heap.size w w'
theorem puts_take {rs : List Rt} {m : Nat} (hm : m < rs.length) : puts (rs.take (m + 1)) = puts (rs.take m) ++ putR rs[m] := by
  rw [List.take_succ_eq_append_getElem hm, puts_app, puts_one]
set_option maxHeartbeats 2000000 in
theorem rb7_is (w : World) (A : Option Addr) (n c : Nat) (rs : List Rt) (hr : RdRt w w.heap.size A n rs) (hR : rightsB rs = true) (hn : n ≤ 900000) : Calls Tryz.prog 94 #[.slice A n c] w (RbP w rs) := by
  have HR := Lib.hid hr
  have HLen := Lib.hid hr.len
  have HAll := Lib.hid (rights_all hr.ok hR)
  clear hr hR
  go_enter Tryz.func94, Tryz.ntmps94
  go_wp2
  go_loopw [3, 5, 6, 7, 10] (fun v _ _ _ i wr => ∃ m : Nat, m ≤ n ∧ i = .int .i64 m ∧ RbW w wr v (rs.take m)) (fun _ _ _ _ i _ => n - (intOf i).toNat)
  case atStart => exact ⟨0, Nat.zero_le _, rfl, ⟨OwnB.nil_ _ _, Below.refl _ _⟩⟩
  case round =>
    obtain ⟨m, hm, rfl, hW⟩ := hrel
    have HW := Lib.hid hW
    clear hW
    by_cases hlt : m < n
    · have hml : m < rs.length := by have := HLen.out; omega
      obtain ⟨b, off, rfl, hb, hrng, ok⟩ := (HR.out.below HW.out.low).get hml
      have HT := Lib.hid (puts_take hml)
      have hpl := puts_le (rs := rs.take m) (fun r h => HAll.out r (List.mem_of_mem_take h))
      have hlt2 : (rs.take m).length ≤ m := by simp; omega
      have HRight := Lib.hid (HAll.out _ (List.getElem_mem hml)).2
      have HRng := Lib.hid hrng
      have HOx := Lib.hid ok
      generalize rs[m] = x at *
      have hbw : b < wr.heap.size := Nat.lt_of_lt_of_le hb HW.out.low.size
      have hi0 : (0 : Int) ≤ (m : Int) := by omega
      have hi1 : (m : Int) < (n : Int) := by omega
      have HBn := Lib.hid (RtAt.new wr x ok 53)
      have HW1 := Lib.hid (bl_one wr (.cells (rtc x).toArray 53))
      have HPut : Hid (∀ W, Calls Tryz.prog 151 #[.slice none 0 0, .agg (rtc x).toArray] W fun e W' => ∃ v, e = .returned (.tuple #[v, .int .i64 0]) ∧ OwnB W.heap.size W' v (putR x) ∧ Below W.heap.size W W') := Lib.hid (fun W => (putNl_is W none 0 0 [] x ok (Rd.nil_ _) (by omega)).mono (by
        rintro e W' ⟨v, rfl, hO, hB⟩
        rw [HRight.out, if_pos rfl, List.nil_append] at hO
        exact ⟨v, by unfold errR; rw [HRight.out]; rfl, hO, hB⟩))
      have hxl : (putR x).length ≤ 102 := by have := bodyR_le ok; rw [putR_len]; omega
      clear hrng ok
      have HI : Hid (∀ Z W, Blk W wr.heap.size 53 (rtc x).toArray → Below wr.heap.size (wr.alloc (.cells Z 53)) W → RbW w W _ (rs.take m) ∧ Blk W wr.heap.size 53 (rtc x).toArray) := Lib.hid (fun Z W hb hB => by
        have hB2 := (bl_one wr (.cells Z 53)).trans hB
        exact ⟨⟨HW.out.own.below hB2, HW.out.low.trans (hB2.mono HW.out.low.size)⟩, hb⟩)
      have hsz := HW.out.low.size
      clear HBn HW1
      go_wp2_with (first
        | (refine part_fetch rfl 53 _ rfl b (off + m * 63) (rtc x) _ rfl HRng.out Tryz.underlying53 rfl (by rw [rt_size, rtc_len HOx.out]) ?_)
        | (refine rt_store_r rfl _ _ rfl wr.heap.size x HOx.out rfl rfl 53 _ (Blk.new wr 53 _) rfl (fun W => RbW w W _ (rs.take m) ∧ Blk W wr.heap.size 53 (rtc x).toArray) (fun W hb hB => HI.out _ _ hb hB) ?_; intro W8 hW8; have HW8 := Lib.hid hW8; clear hW8)
        | (refine rt_fetch rfl _ rfl wr.heap.size x HOx.out rfl ⟨blk_range HW8.out.2, blk_there HW8.out.2 0 63 (by rw [rtc_len HOx.out]; omega)⟩ ?_)
        | fail)
      refine (HPut.out _).mono ?_
      rintro e W9 ⟨u, rfl, hO, hB⟩
      have HW9 := Lib.hid (show RbW w W9 _ (rs.take m) from ⟨HW8.out.1.own.below hB, HW8.out.1.low.trans (hB.mono HW8.out.1.low.size)⟩)
      obtain ⟨A9, c9, rfl, _, hR9, _⟩ := hO.at_
      have HR9 := Lib.hid hR9
      have hs9 := HW9.out.low.size
      clear hO hB hR9 HW8
      go_wp2_with (at_builtin; refine app_bs rfl _ _ rfl HW9.out.own hs9 HR9.out (by omega) rfl rfl ?_)
      intro v' w2 ho2 hb2 _ _
      have HW2 : Hid (RbW w w2 v' (rs.take (m + 1))) := Lib.hid ⟨by rw [HT.out]; exact ho2, HW9.out.low.trans hb2⟩
      clear ho2 hb2
      go_wp2
      exact ⟨⟨m + 1, by omega, by go_num, HW2.out⟩, by simp [intOf]; omega⟩
    · obtain rfl : m = n := by omega
      rw [List.take_of_length_le (by have := HLen.out; omega)] at HW
      go_wp2
      go_ret
      exact ⟨_, rfl, HW.out.own, HW.out.low⟩
end Go.Proofs.YtdgoeibfggjbmaaGreatDoor
namespace Go.Proofs
open Go.Shelf
def Tryz.shelfs6_ren : Go.Shelf.Ren := ⟨fun | 6 => 95 | 15 => 153 | 14 => 152 | 28 => 205 | 29 => 206 | 20 => 197 | 21 => 198 | 22 => 199 | 23 => 200 | 24 => 201 | 25 => 202 | 26 => 203 | 27 => 204 | 46 => 223 | 47 => 224 | 48 => 225 | 49 => 226 | 50 => 227 | 57 => 234 | n => n, fun | 22 => 64 | 24 => 67 | 25 => 147 | 3 => 3 | 39 => 202 | 0 => 0 | 53 => 23 | 55 => 99 | 4 => 4 | 46 => 239 | 45 => 238 | 50 => 177 | 5 => 5 | 9 => 9 | 66 => 256 | 70 => 260 | 76 => 267 | 77 => 268 | n => n, fun | n => n⟩
theorem Tryz.shelfs6 : Go.Proofs.SlLaysF0.n6 Tryz.prog Tryz.shelfs6_ren := {
  mixed := by kernel_rfl
  f6 := ⟨Tryz.f95.name, by decide, Tryz.func95.trans (congrArg some (by kernel_rfl))⟩
  f14 := ⟨Tryz.f152.name, by decide, Tryz.func152.trans (congrArg some (by kernel_rfl))⟩
  f15 := Tryz.func153.trans (congrArg some (by kernel_rfl))
  f20 := ⟨Tryz.f197.name, by decide, Tryz.func197.trans (congrArg some (by kernel_rfl))⟩
  f21 := ⟨Tryz.f198.name, by decide, Tryz.func198.trans (congrArg some (by kernel_rfl))⟩
  f22 := ⟨Tryz.f199.name, by decide, Tryz.func199.trans (congrArg some (by kernel_rfl))⟩
  f23 := ⟨Tryz.f200.name, by decide, Tryz.func200.trans (congrArg some (by kernel_rfl))⟩
  f24 := ⟨Tryz.f201.name, by decide, Tryz.func201.trans (congrArg some (by kernel_rfl))⟩
  f25 := ⟨Tryz.f202.name, by decide, Tryz.func202.trans (congrArg some (by kernel_rfl))⟩
  f26 := ⟨Tryz.f203.name, by decide, Tryz.func203.trans (congrArg some (by kernel_rfl))⟩
  f27 := ⟨Tryz.f204.name, by decide, Tryz.func204.trans (congrArg some (by kernel_rfl))⟩
  f28 := Tryz.func205.trans (congrArg some (by kernel_rfl))
  f29 := Tryz.func206.trans (congrArg some (by kernel_rfl))
  f46 := ⟨Tryz.f223.name, by decide, Tryz.func223.trans (congrArg some (by kernel_rfl))⟩
  f47 := Tryz.func224.trans (congrArg some (by kernel_rfl))
  f48 := Tryz.func225.trans (congrArg some (by kernel_rfl))
  f49 := ⟨Tryz.f226.name, by decide, Tryz.func226.trans (congrArg some (by kernel_rfl))⟩
  f50 := ⟨Tryz.f227.name, by decide, Tryz.func227.trans (congrArg some (by kernel_rfl))⟩
  f57 := ⟨Tryz.f234.name, by decide, Tryz.func234.trans (congrArg some (by kernel_rfl))⟩
  t0 := Tryz.underlying0
  a0 := Tryz.isAgg0
  z0 := Tryz.sizeOf0
  v0 := Tryz.zeroValue0
  t3 := Tryz.underlying3
  a3 := Tryz.isAgg3
  z3 := Tryz.sizeOf3
  v3 := Tryz.zeroValue3
  t4 := Tryz.underlying4
  a4 := Tryz.isAgg4
  z4 := Tryz.sizeOf4
  v4 := Tryz.zeroValue4
  t5 := Tryz.underlying5
  a5 := Tryz.isAgg5
  z5 := Tryz.sizeOf5
  v5 := Tryz.zeroValue5
  t9 := Tryz.underlying9
  a9 := Tryz.isAgg9
  z9 := Tryz.sizeOf9
  v9 := Tryz.zeroValue9
  t22 := Tryz.underlying64
  a22 := Tryz.isAgg64
  z22 := Tryz.sizeOf64
  v22 := Tryz.zeroValue64
  t25 := Tryz.underlying147
  a25 := Tryz.isAgg147
  z25 := Tryz.sizeOf147
  v25 := Tryz.zeroValue147
  t39 := Tryz.underlying202
  a39 := Tryz.isAgg202
  z39 := Tryz.sizeOf202
  v39 := Tryz.zeroValue202
  t45 := Tryz.underlying238
  a45 := Tryz.isAgg238
  z45 := Tryz.sizeOf238
  v45 := Tryz.zeroValue238
  t46 := Tryz.underlying239
  a46 := Tryz.isAgg239
  z46 := Tryz.sizeOf239
  v46 := Tryz.zeroValue239
  t50 := Tryz.underlying177
  a50 := Tryz.isAgg177
  z50 := Tryz.sizeOf177
  v50 := Tryz.zeroValue177
  t53 := Tryz.underlying23
  a53 := Tryz.isAgg23
  z53 := Tryz.sizeOf23
  v53 := Tryz.zeroValue23
  t55 := Tryz.underlying99
  a55 := Tryz.isAgg99
  z55 := Tryz.sizeOf99
  v55 := Tryz.zeroValue99
  t66 := Tryz.underlying256
  a66 := Tryz.isAgg256
  z66 := Tryz.sizeOf256
  v66 := Tryz.zeroValue256
  t70 := Tryz.underlying260
  a70 := Tryz.isAgg260
  z70 := Tryz.sizeOf260
  v70 := Tryz.zeroValue260
  t76 := Tryz.underlying267
  a76 := Tryz.isAgg267
  z76 := Tryz.sizeOf267
  v76 := Tryz.zeroValue267
  t77 := Tryz.underlying268
  a77 := Tryz.isAgg268
  z77 := Tryz.sizeOf268
  v77 := Tryz.zeroValue268 }
end Go.Proofs
namespace Go.Proofs.YtdgoeibfggjbmaaGreatDoor
open Go.RowKit Go.Sort
set_option maxRecDepth 100000
set_option linter.unusedSimpArgs false
set_option linter.unusedVariables false

def cmp3 (a b : Int) : Int := if a < b then -1 else if b < a then 1 else 0
theorem nan_is (w : World) (a : Int) : Calls Tryz.prog 154 #[.int .i64 a] w fun e w' => e = .returned (.bool false) ∧ w = w' := by
  have h1 : (a != a) = false := by simp
  go_enter Tryz.func154, Tryz.ntmps154
  go_wp2
  go_ret
  exact ⟨by first | rfl | simp, rfl⟩
theorem cmpi_is (w : World) (a b : Int) : Calls Tryz.prog 97 #[.int .i64 a, .int .i64 b] w fun e w' => e = .returned (.int .i64 (cmp3 a b)) ∧ w = w' := by
  unfold cmp3
  rcases (show a < b ∨ ((¬ a < b ∧ b < a) ∨ (¬ a < b ∧ ¬ b < a)) by omega) with h | ⟨h, h2⟩ | ⟨h, h2⟩
  · rw [if_pos h]
    go_enter Tryz.func97, Tryz.ntmps97
    go_wp2_with (first | (refine (nan_is w a).mono ?_; rintro e w' ⟨rfl, rfl⟩) | (refine (nan_is w b).mono ?_; rintro e w' ⟨rfl, rfl⟩))
    go_ret
    exact ⟨rfl, rfl⟩
  · rw [if_neg h, if_pos h2]
    go_enter Tryz.func97, Tryz.ntmps97
    go_wp2_with (first | (refine (nan_is w a).mono ?_; rintro e w' ⟨rfl, rfl⟩) | (refine (nan_is w b).mono ?_; rintro e w' ⟨rfl, rfl⟩))
    go_ret
    exact ⟨rfl, rfl⟩
  · rw [if_neg h, if_neg h2]
    go_enter Tryz.func97, Tryz.ntmps97
    go_wp2_with (first | (refine (nan_is w a).mono ?_; rintro e w' ⟨rfl, rfl⟩) | (refine (nan_is w b).mono ?_; rintro e w' ⟨rfl, rfl⟩))
    go_ret
    exact ⟨rfl, rfl⟩
theorem cmpc_w (w : World) (f1 k1 : Int) (A1 : Option Addr) (n1 c1 : Nat) (f2 k2 : Int) (A2 : Option Addr) (n2 c2 : Nat) :
    Calls Tryz.prog 96 #[.agg #[.int .i64 f1, .int .i64 k1, .slice A1 n1 c1], .agg #[.int .i64 f2, .int .i64 k2, .slice A2 n2 c2]] w fun e w' => e = .returned (.int .i64 (cmp3 k1 k2)) ∧ ∃ q os', w' = grow (w.drewN q) os' := by
  have HEnd : Hid (∃ q os', ((w.alloc (.cells #[.int .i64 f1, .int .i64 k1, .slice A1 n1 c1] 67)).alloc (.cells #[.int .i64 f2, .int .i64 k2, .slice A2 n2 c2] 67)) = grow (w.drewN q) os') := Lib.hid ⟨0, #[.cells #[.int .i64 f1, .int .i64 k1, .slice A1 n1 c1] 67, .cells #[.int .i64 f2, .int .i64 k2, .slice A2 n2 c2] 67], by rw [alloc_eq_grow, alloc_eq_grow, grow_grow]; rfl⟩
  have hA := (Blk.new w 67 #[.int .i64 f1, .int .i64 k1, .slice A1 n1 c1]).alloc (.cells #[.int .i64 f2, .int .i64 k2, .slice A2 n2 c2] 67)
  have hB := Blk.new (w.alloc (.cells #[.int .i64 f1, .int .i64 k1, .slice A1 n1 c1] 67)) 67 #[.int .i64 f2, .int .i64 k2, .slice A2 n2 c2]
  rw [show (w.alloc (.cells #[.int .i64 f1, .int .i64 k1, .slice A1 n1 c1] 67)).heap.size = w.heap.size + 1 by simp] at hB
  have x1 : ((w.alloc (.cells #[.int .i64 f1, .int .i64 k1, .slice A1 n1 c1] 67)).alloc (.cells #[.int .i64 f2, .int .i64 k2, .slice A2 n2 c2] 67)).cell? ⟨w.heap.size, 1, none⟩ = some (.int .i64 k1) := hA.cell 1
  have x2 : ((w.alloc (.cells #[.int .i64 f1, .int .i64 k1, .slice A1 n1 c1] 67)).alloc (.cells #[.int .i64 f2, .int .i64 k2, .slice A2 n2 c2] 67)).cell? ⟨w.heap.size + 1, 1, none⟩ = some (.int .i64 k2) := hB.cell 1
  clear hA hB
  go_enter Tryz.func96, Tryz.ntmps96
  go_wp2_with fail
  refine (cmpi_is _ k1 k2).mono ?_
  rintro e w1 ⟨rfl, rfl⟩
  clear x1 x2
  go_wp2
  go_ret
  exact ⟨rfl, HEnd.out⟩

theorem take3 {l : List Value} {o : Nat} {a b c : Value} (ha : l[o]? = some a) (hb : l[o + 1]? = some b) (hc : l[o + 2]? = some c) : (l.drop o).take 3 = [a, b, c] := by
  obtain ⟨h0, e0⟩ := List.getElem?_eq_some_iff.1 ha
  obtain ⟨h1, e1⟩ := List.getElem?_eq_some_iff.1 hb
  obtain ⟨h2, e2⟩ := List.getElem?_eq_some_iff.1 hc
  rw [List.drop_eq_getElem_cons h0, List.drop_eq_getElem_cons h1, List.drop_eq_getElem_cons h2, e0, e1, e2]
  rfl
/-- An attribute's cells in a row of cells. -/
def encR (cs : List Value) (n : Nat) (i : Fin n) : List Value := (cs.drop (i.val * 3)).take 3
theorem encR_eq {Bd : Option Addr → Nat → List Int → Prop} {cs : List Value} {rs : List Raw} (h : Rs Bd cs rs) (i : Fin rs.length) : ∃ A n c, encR cs rs.length i = [.int .i64 rs[i].1, .int .i64 rs[i].2.1, .slice A n c] ∧ Bd A n rs[i].2.2 := by
  obtain ⟨h0, h1, A, n, c, h2, h3⟩ := h.at_ i.val i.isLt
  exact ⟨A, n, c, take3 h0 h1 h2, h3⟩
def cfR (rs : List Raw) (i j : Fin rs.length) : Int := cmp3 rs[i].2.1 rs[j].2.1
theorem ltR (rs : List Raw) (i j : Fin rs.length) : ltOf (cfR rs) i j = decide (rs[i].2.1 < rs[j].2.1) := by
  unfold ltOf cfR cmp3
  rw [Bool.eq_iff_iff, decide_eq_true_iff, decide_eq_true_iff]
  simp only [Fin.getElem_fin]
  split
  · simp; assumption
  · split
    · simp; omega
    · simp; omega
theorem swoR (rs : List Raw) : SWO (ltOf (cfR rs)) where
  irrefl x := by rw [ltR]; simp
  trans x y z h1 h2 := by rw [ltR] at *; simp only [decide_eq_true_eq] at *; omega
  ntrans x y z h1 h2 := by rw [ltR] at *; simp only [decide_eq_false_iff_not] at *; omega
theorem totR (rs : List Raw) (hnd : (rs.map (·.2.1)).Nodup) (x y : Fin rs.length) (h1 : ltOf (cfR rs) x y = false) (h2 : ltOf (cfR rs) y x = false) : x = y := by
  rw [ltR] at *
  simp only [decide_eq_false_iff_not] at *
  have e : rs[x].2.1 = rs[y].2.1 := by omega
  have hp := List.pairwise_iff_getElem.1 hnd
  rcases Nat.lt_trichotomy x.val y.val with h | h | h
  · have := hp x.val y.val (by simp) (by simp) h
    simp only [List.getElem_map] at this
    exact absurd e this
  · exact Fin.ext h
  · have := hp y.val x.val (by simp) (by simp) h
    simp only [List.getElem_map] at this
    exact absurd e.symm this
theorem cmpLaysR {Bd : Option Addr → Nat → List Int → Prop} {cs : List Value} {rs : List Raw} [Inhabited (Fin rs.length)] (h : Rs Bd cs rs) (blk off size : Nat) (w : World) : CmpLays Tryz.prog 96 #[] (encR cs rs.length) 3 (cfR rs) blk off size w := by
  intro m os dk _ x y
  obtain ⟨A1, n1, c1, e1, _⟩ := encR_eq h x
  obtain ⟨A2, n2, c2, e2, _⟩ := encR_eq h y
  rw [e1, e2]
  exact cmpc_w _ _ _ A1 n1 c1 _ _ A2 n2 c2
theorem grown_sortR {n0 : Nat} (enc : Fin n0 → List Value) (w : World) (g n : Nat) [Inhabited (Fin n0)] (d : Array (Fin n0)) (os : Array Obj) : w.grownBy (sortWorldK enc 3 w g 0 n d os) (some g) := by
  refine ⟨rfl, rfl, rfl, by simp [sortWorldK, grow, putRowK, putRow, mapBlock, ahead], fun k hk hne => ?_⟩
  have hne' : g ≠ k := fun e => hne (by rw [e])
  simp [sortWorldK, grow, putRowK, putRow, mapBlock, ahead, Array.getElem?_append_left, hk, Array.getElem?_modify, Array.getElem_modify, hne']
def SortP (lo : Nat) (w : World) (v : Value) (rs : List Raw) (e : Ending) (w' : World) : Prop :=
  e = .returned (.tuple #[]) ∧ Below lo w w' ∧ ∃ A c ss, v = .slice A rs.length c ∧ RdR w' w'.heap.size A rs.length ss ∧ ss.Perm rs ∧ (ss.map (·.2.1)).Pairwise (· < ·)
theorem fin_map (rs : List Raw) : (List.finRange rs.length).map (fun i => rs[i]) = rs := by
  apply List.ext_getElem
  · simp
  · intro i h1 h2; simp
set_option maxHeartbeats 1000000 in
set_option maxRecDepth 100000 in
theorem sort_raw (lo : Nat) (w : World) (v : Value) (rs : List Raw) (h : OwnW lo w v rs) (hlo : lo ≤ w.heap.size) (hnd : (rs.map (·.2.1)).Nodup) (hn : rs.length ≤ 1000) : Calls Tryz.prog 95 #[v, .func (.func 96) #[] #[]] w (SortP lo w v rs) := by
  obtain ⟨cs, h1, h2⟩ := h.ex
  rcases Nat.eq_zero_or_pos rs.length with h0 | h0
  · have hv : ∃ A c, v = .slice A 0 c := by
      rcases h1.2 with ⟨rfl, hn⟩ | ⟨g, cap, cur, rfl, _⟩
      · exact ⟨none, 0, rfl⟩
      · exact ⟨_, cap, by rw [h0]⟩
    obtain ⟨A, c, rfl⟩ := hv
    have hcon := AnyF.slices_SortFunc_none Tryz.shelfs6 A c (.func (.func 96) #[] #[]) w
    change Calls Tryz.prog 95 _ _ _ at hcon
    refine hcon.mono ?_
    rintro e w' ⟨rfl, rfl⟩
    obtain rfl : rs = [] := List.eq_nil_of_length_eq_zero h0
    exact ⟨rfl, Below.refl _ _, A, c, [], rfl, RdR.nil_ _, List.Perm.refl _, List.Pairwise.nil⟩
  · rcases h1.2 with ⟨rfl, hn0⟩ | ⟨g, cap, cur, rfl, hb, hg, hnc, hcm, hcs, hx⟩
    · omega
    · haveI : Inhabited (Fin rs.length) := ⟨⟨0, h0⟩⟩
      have hgl : g < w.heap.size := (Array.getElem?_eq_some_iff.1 hg).1
      have hcell : ∀ j u, cs[j]? = some u → w.cell? ⟨g, j, none⟩ = some u := by
        intro j u hu
        rw [← hx, List.getElem?_take] at hu
        split at hu
        · simp only [World.cell?, hg]
          rw [← Array.getElem?_toList]
          exact hu
        · cases hu
      have hfr : ∀ j, w.frozen? ⟨g, j, none⟩ = false := fun j => by simp [World.frozen?, hg]
      have hk : ∀ x, (encR cs rs.length x).length = 3 := fun x => by obtain ⟨A, n, c, e, _⟩ := encR_eq h2 x; rw [e]; rfl
      have h1c : ∀ x, ∀ v ∈ encR cs rs.length x, v.oneCell' = true := fun x v hv => by
        obtain ⟨A, n, c, e, _⟩ := encR_eq h2 x
        rw [e] at hv
        simp only [List.mem_cons, List.mem_nil_iff, or_false] at hv
        rcases hv with rfl | rfl | rfl <;> rfl
      have hds : (List.finRange rs.length).toArray.size = rs.length := by simp
      have hold : HoldsK (encR cs rs.length) 3 w g 0 (List.finRange rs.length).toArray := by
        intro t ht
        rw [size_flatK, hds] at ht
        rw [get_flatK _ _ _ _ (by rw [hds]; exact ht)]
        have hi : t / 3 < rs.length := by omega
        have e1 : (List.finRange rs.length).toArray[t / 3]! = ⟨t / 3, hi⟩ := by
          rw [getElem!_pos _ _ (by rw [hds]; exact hi)]
          simp
        rw [e1]
        have hm : t % 3 < (encR cs rs.length ⟨t / 3, hi⟩).length := by rw [hk]; omega
        rw [getElem!_pos (encR cs rs.length ⟨t / 3, hi⟩) (t % 3) hm]
        refine ⟨?_, hfr _⟩
        rw [Nat.zero_add]
        refine hcell t _ ?_
        have hl := h2.len
        have e2 : (encR cs rs.length ⟨t / 3, hi⟩)[t % 3]? = cs[t]? := by
          unfold encR
          rw [List.getElem?_take, if_pos (by omega), List.getElem?_drop]
          congr 1
          show t / 3 * 3 + t % 3 = t
          omega
        rw [← e2, List.getElem?_eq_getElem hm]
        rfl
      have eg : ∀ args w, (callFunc 96 args).run Tryz.prog w = .ok (.enter 96 args) w := enters_of Tryz.func96 (by kernel_rfl) rfl
      have hcon := AnyQ.slices_SortFunc_total Tryz.shelfs6 3 Tryz.isAgg67 Tryz.sizeOf67 (encR cs rs.length) hk h1c (cfR rs) (swoR rs) 96 #[] g 0 cap (List.finRange rs.length).toArray w eg (cmpLaysR h2 _ _ _ _) hold hgl (by rw [hds]; omega) (totR rs hnd)
      change Calls Tryz.prog 95 _ _ _ at hcon
      rw [hds] at hcon
      refine hcon.mono ?_
      rintro e w' ⟨rfl, n, os, rfl⟩
      have hgr := grown_sortR (encR cs rs.length) w g n ((List.finRange rs.length).toArray.toList.mergeSort fun x y => !(ltOf (cfR rs)) y x).toArray os
      have hh := holdsK_sortWorldK (encR cs rs.length) 3 w g 0 n (List.finRange rs.length).toArray ((List.finRange rs.length).toArray.toList.mergeSort fun x y => !(ltOf (cfR rs)) y x).toArray os hgl hold (by simp)
      simp only [List.toList_toArray] at hgr hh ⊢
      generalize hW : sortWorldK (encR cs rs.length) 3 w g 0 n ((List.finRange rs.length).mergeSort fun x y => !(ltOf (cfR rs)) y x).toArray os = W at *
      have hperm := List.mergeSort_perm (List.finRange rs.length) (fun x y => !(ltOf (cfR rs)) y x)
      have hsort := List.pairwise_mergeSort (le := fun x y : Fin rs.length => !(ltOf (cfR rs)) y x) (fun a b c => by simp only [ltR, Bool.not_eq_true', decide_eq_false_iff_not]; omega) (fun a b => by simp only [ltR, Bool.or_eq_true, Bool.not_eq_true', decide_eq_false_iff_not]; omega) (List.finRange rs.length)
      generalize hd : (List.finRange rs.length).mergeSort (fun x y => !(ltOf (cfR rs)) y x) = d at *
      have hdl : d.length = rs.length := by have := hperm.length_eq; simpa using this
      have hpm : (d.map (fun i => rs[i])).Perm rs := by
        have := hperm.map (fun i : Fin rs.length => rs[i])
        rwa [fin_map] at this
      refine ⟨rfl, (Below.refl lo w).grown hgr hlo (fun j e => by injection e with e; omega), _, cap, d.map (fun i => rs[i]), rfl, ⟨by simp [hdl], fun _ => ⟨g, 0, rfl, Nat.lt_of_lt_of_le hgl hgr.size, fun i hi => ?_⟩⟩, hpm, ?_⟩
      · have hi' : i < d.length := by simpa using hi
        have hc : ∀ c, c < 3 → W.cell? ⟨g, i * 3 + c, none⟩ = (encR cs rs.length d[i])[c]? := fun c hc => by
          have h3 := (hh.cell (i := i) (c := c) (by simpa using hi') hc).1
          rw [Nat.zero_add] at h3
          rw [h3]
          have e1 : d.toArray[i]! = d[i] := by rw [getElem!_pos _ _ (by simpa using hi')]; simp
          rw [e1]
          have hlen : c < (encR cs rs.length d[i]).length := by rw [hk]; exact hc
          rw [getElem!_pos _ c hlen, List.getElem?_eq_getElem hlen]
          try rfl
        obtain ⟨A, n1, c1, e, hbd⟩ := encR_eq h2 d[i]
        rw [e] at hc
        have hb2 : BodyT 67 lo W A n1 rs[d[i]].2.2 := hbd.keep fun j c t hj _ ht => hgr.block j (Array.getElem?_eq_some_iff.1 hj).1 (fun e => by
          injection e with e
          subst e
          exact row_ne hj hg ht rfl)
        refine ⟨A, n1, c1, ?_, ?_, ?_, ?_⟩
        · have h5 := hc 0 (by omega)
          rw [Nat.zero_add]
          try rw [Nat.add_zero] at h5
          rw [h5]; simp
        · have h5 := hc 1 (by omega)
          rw [Nat.zero_add]
          try rw [Nat.add_zero] at h5
          rw [h5]; simp
        · have h5 := hc 2 (by omega)
          rw [Nat.zero_add]
          try rw [Nat.add_zero] at h5
          rw [h5]; simp
        · simpa using hb2.rd
      · have hnd2 : ((d.map (fun i => rs[i])).map (·.2.1)).Nodup := ((hpm.map (·.2.1)).nodup_iff).2 hnd
        have hle : ((d.map (fun i => rs[i])).map (·.2.1)).Pairwise (· ≤ ·) := by
          rw [List.pairwise_map, List.pairwise_map]
          refine hsort.imp fun {a b} hab => ?_
          simp only [ltR, Bool.not_eq_true', decide_eq_false_iff_not] at hab
          omega
        exact (hle.and hnd2).imp fun {a b} hab => by have := hab.1; have := hab.2; omega
end Go.Proofs.YtdgoeibfggjbmaaGreatDoor
namespace Go.Proofs.YtdgoeibfggjbmaaGreatDoor
open Go.RowKit
set_option maxRecDepth 100000
set_option linter.unusedSimpArgs false
set_option linter.unusedVariables false

/-- An update's cells. -/
def upc (cs : List Value) (nv : Bool) (nl : List Int) (vr vu : Value) : List Value := cs ++ (ipc nv nl ++ [vr, vu])
structure UpBox (W : World) (b : Nat) (cs : List Value) (nv : Bool) (nl : List Int) (vr vu : Value) : Prop where
  all : W.rangeAt b 0 (upc cs nv nl vr vu)
  la : cs.length = 27
  ll : nl.length = 16
  lt : b < W.heap.size
section
variable {W W' : World} {b B : Nat} {cs : List Value} {nv : Bool} {nl : List Int} {vr vu : Value}
theorem upc_len (h1 : cs.length = 27) (h2 : nl.length = 16) : (upc cs nv nl vr vu).length = 46 := by simp [upc, h1, h2]
theorem UpBox.ra (h : UpBox W b cs nv nl vr vu) : W.rangeAt b 0 cs := range_pre h.all
theorem UpBox.rn (h : UpBox W b cs nv nl vr vu) : W.rangeAt b 27 (ipc nv nl) := by
  have h1 := range_post h.all
  rw [h.la] at h1
  simpa using range_pre h1
theorem UpBox.cr (h : UpBox W b cs nv nl vr vu) : W.cell? ⟨b, 44, none⟩ = some vr := by
  have h1 := range_post h.all
  rw [h.la] at h1
  have h2 := range_post h1
  rw [ipc_len, h.ll] at h2
  exact h2 0 _ rfl
theorem UpBox.cu (h : UpBox W b cs nv nl vr vu) : W.cell? ⟨b, 45, none⟩ = some vu := by
  have h1 := range_post h.all
  rw [h.la] at h1
  have h2 := range_post h1
  rw [ipc_len, h.ll] at h2
  exact h2 1 _ rfl
theorem UpBox.below (h : UpBox W b cs nv nl vr vu) (hB : Below B W W') (hb : b < B) : UpBox W' b cs nv nl vr vu := ⟨range_below h.all hB hb, h.la, h.ll, Nat.lt_of_lt_of_le h.lt hB.size⟩
theorem UpBox.up (h : UpBox W b cs nv nl vr vu) (hB : Below W.heap.size W W') : UpBox W' b cs nv nl vr vu := h.below hB h.lt
theorem UpBox.new (W : World) (h1 : cs.length = 27) (h2 : nl.length = 16) : UpBox (W.alloc (.cells (upc cs nv nl vr vu).toArray 34)) W.heap.size cs nv nl vr vu :=
  ⟨(Blk.new W 34 _).range, h1, h2, by simp⟩
end
theorem usz : (Tryz.prog.info? 34).map (·.size) = some 46 := by kernel_rfl
theorem ip_sz : (Tryz.prog.info? 27).map (·.size) = some 17 := by kernel_rfl
theorem up_fetch {ops : Array Oper} {rest : List Oper} {op : Oper} {a : Act} {W : World} {Q : Exit → Act → World → Prop} (hw : Region.wanted op (yielded ops a.tmps) = true) (x : Operand) (ho : op.op = .load 34 x) (b : Nat) {cs : List Value} {nv : Bool} {nl : List Int} {vr vu : Value} (h : UpBox W b cs nv nl vr vu)
    (hx : a.eval x = .pointer (some ⟨b, 0, none⟩)) (k : wpList Tryz.prog ops Q rest (a.put op.dst (.agg (upc cs nv nl vr vu).toArray)) W) : wpList Tryz.prog ops Q (op :: rest) a W :=
  part_fetch hw 34 x ho b 0 (upc cs nv nl vr vu) _ hx h.all Tryz.underlying34 rfl (by rw [usz, upc_len h.la h.ll]) k
/-- A 'load' of a part of the box. -/
theorem upn_fetch {ops : Array Oper} {rest : List Oper} {op : Oper} {a : Act} {W : World} {Q : Exit → Act → World → Prop} (hw : Region.wanted op (yielded ops a.tmps) = true) (x : Operand) (ho : op.op = .load 27 x) (b : Nat) {cs : List Value} {nv : Bool} {nl : List Int} {vr vu : Value} (h : UpBox W b cs nv nl vr vu)
    (hx : a.eval x = .pointer (some ⟨b, 27, none⟩)) (k : wpList Tryz.prog ops Q rest (a.put op.dst (.agg (ipc nv nl).toArray)) W) : wpList Tryz.prog ops Q (op :: rest) a W :=
  part_fetch hw 27 x ho b 27 (ipc nv nl) _ hx h.rn Tryz.underlying27 rfl (by rw [ip_sz, ipc_len, h.ll]) k
theorem upa_fetch {ops : Array Oper} {rest : List Oper} {op : Oper} {a : Act} {W : World} {Q : Exit → Act → World → Prop} (hw : Region.wanted op (yielded ops a.tmps) = true) (x : Operand) (ho : op.op = .load 31 x) (b : Nat) {cs : List Value} {nv : Bool} {nl : List Int} {vr vu : Value} (h : UpBox W b cs nv nl vr vu)
    (hx : a.eval x = .pointer (some ⟨b, 0, none⟩)) (k : wpList Tryz.prog ops Q rest (a.put op.dst (.agg cs.toArray)) W) : wpList Tryz.prog ops Q (op :: rest) a W :=
  part_fetch hw 31 x ho b 0 cs _ hx h.ra Tryz.underlying31 rfl (by rw [asz, h.la]) k

/-- What the update's two rows of routes are. -/
structure UpRd (w : World) (u : Up) (A1 : Option Addr) (n1 : Nat) (A2 : Option Addr) (n2 : Nat) : Prop where
  re : RdRt w w.heap.size A1 n1 u.re
  un : RdRt w w.heap.size A2 n2 u.un
theorem UpRd.up {w W : World} {u : Up} {A1 A2 : Option Addr} {n1 n2 : Nat} (h : UpRd w u A1 n1 A2 n2) (hB : Below w.heap.size w W) : UpRd W u A1 n1 A2 n2 := ⟨(h.re.below hB).more hB.size, (h.un.below hB).more hB.size⟩

set_option maxHeartbeats 2000000 in
theorem isRight7_is (w : World) (u : Up) (hu : UpOk u) (cs : List Value) (hc : cs.length = 27) (A1 : Option Addr) (n1 c1 : Nat) (A2 : Option Addr) (n2 c2 : Nat) (hr : UpRd w u A1 n1 A2 n2) (h1 : n1 ≤ 900000) (h2 : n2 ≤ 900000) :
    Calls Tryz.prog 48 #[.agg (upc cs u.nv u.nl (.slice A1 n1 c1) (.slice A2 n2 c2)).toArray] w fun e w' => e = .returned (.bool (rightU u)) ∧ Below w.heap.size w w' := by
  have HX := Lib.hid (UpBox.new (W := w) (cs := cs) (nv := u.nv) (nl := u.nl) (vr := .slice A1 n1 c1) (vu := .slice A2 n2 c2) hc hu.nl)
  have HB := Lib.hid (bl_one w (.cells (upc cs u.nv u.nl (.slice A1 n1 c1) (.slice A2 n2 c2)).toArray 34))
  have HR := Lib.hid (fun W (hB : Below w.heap.size w W) => areRight_is W A1 n1 c1 u.re (hr.up hB).re (by omega))
  have HU := Lib.hid (fun W (hB : Below w.heap.size w W) => areRight_is W A2 n2 c2 u.un (hr.up hB).un (by omega))
  have HN := Lib.hid (fun W => right_is W u.nv u.nl hu.nl hu.onl)
  have HLen : Hid (u.re = [] ↔ n1 = 0) := Lib.hid ⟨fun h => by have := hr.re.len; rw [h] at this; exact this.symm, fun h => List.eq_nil_of_length_eq_zero (by rw [hr.re.len, h])⟩
  have HD : Hid (rightU u = (rightsB u.un && (rightsB u.re && (decide (u.re = []) || rightB u.nv u.nl)))) := Lib.hid rfl
  have hu45 := HX.out.cu
  clear hr hu hc
  cases hun : rightsB u.un
  · rw [hun] at HU HD
    clear hun
    go_enter Tryz.func48, Tryz.ntmps48
    go_wp2_with fail
    refine (HU.out _ HB.out).mono ?_
    rintro e w2 ⟨rfl, hB⟩
    have HB2 := Lib.hid (HB.out.trans (hB.mono HB.out.size))
    clear hB hu45
    go_wp2
    go_ret
    exact ⟨by rw [HD.out]; rfl, HB2.out⟩
  · rw [hun] at HU HD
    clear hun
    cases hre : rightsB u.re
    · rw [hre] at HR HD
      clear hre
      go_enter Tryz.func48, Tryz.ntmps48
      go_wp2_with fail
      refine (HU.out _ HB.out).mono ?_
      rintro e w2 ⟨rfl, hB⟩
      have HB2 := Lib.hid (HB.out.trans (hB.mono HB.out.size))
      have hr44 := (HX.out.up hB).cr
      clear hB hu45
      go_wp2_with fail
      refine (HR.out _ HB2.out).mono ?_
      rintro e w3 ⟨rfl, hB⟩
      have HB3 := Lib.hid (HB2.out.trans (hB.mono HB2.out.size))
      clear hB hr44
      go_wp2
      go_ret
      exact ⟨by rw [HD.out]; rfl, HB3.out⟩
    · rw [hre] at HR HD
      clear hre
      rcases Nat.eq_zero_or_pos n1 with h0 | h0
      · have HE := Lib.hid (HLen.out.2 h0)
        subst h0
        clear HLen
        go_enter Tryz.func48, Tryz.ntmps48
        go_wp2_with fail
        refine (HU.out _ HB.out).mono ?_
        rintro e w2 ⟨rfl, hB⟩
        have HB2 := Lib.hid (HB.out.trans (hB.mono HB.out.size))
        have HX2 := Lib.hid (HX.out.up hB)
        have hr44 := HX2.out.cr
        clear hB hu45 HX
        go_wp2_with fail
        refine (HR.out _ HB2.out).mono ?_
        rintro e w3 ⟨rfl, hB⟩
        have HB3 := Lib.hid (HB2.out.trans (hB.mono HB2.out.size))
        have hr44 := (HX2.out.up hB).cr
        clear hB
        go_wp2
        go_ret
        exact ⟨by rw [HD.out, HE.out]; rfl, HB3.out⟩
      · have HE := Lib.hid (show ¬ u.re = [] from fun h => by have := HLen.out.1 h; omega)
        have e0 : ((n1 : Int) == 0) = false := by rw [beq_eq_false_iff_ne]; omega
        clear HLen
        go_enter Tryz.func48, Tryz.ntmps48
        go_wp2_with fail
        refine (HU.out _ HB.out).mono ?_
        rintro e w2 ⟨rfl, hB⟩
        have HB2 := Lib.hid (HB.out.trans (hB.mono HB.out.size))
        have HX2 := Lib.hid (HX.out.up hB)
        have hr44 := HX2.out.cr
        clear hB hu45 HX
        go_wp2_with fail
        refine (HR.out _ HB2.out).mono ?_
        rintro e w3 ⟨rfl, hB⟩
        have HB3 := Lib.hid (HB2.out.trans (hB.mono HB2.out.size))
        have HX3 := Lib.hid (HX2.out.up hB)
        have hr44 := HX3.out.cr
        clear hB HX2
        go_wp2_with (first | (refine upn_fetch rfl _ rfl w.heap.size HX3.out rfl ?_) | fail)
        refine (HN.out _).mono ?_
        rintro e w4 ⟨rfl, hB⟩
        have HB4 := Lib.hid (HB3.out.trans (hB.mono HB3.out.size))
        clear hB
        have HF : Hid (rightU u = rightB u.nv u.nl) := Lib.hid (by rw [HD.out, decide_eq_false HE.out]; simp)
        go_wp2
        go_ret
        exact ⟨by rw [HF.out]; rfl, HB4.out⟩

theorem one_raw_wp {o : Oper} {a : Act} {w : World} {K : Act → World → Prop} {Q : Exit → Act → World → Prop} (x : Operand) (ho : o.op = .buildSlice 64 1 #[(0, x)]) (f k : Int) (A : Option Addr) (n c : Nat) (hx : a.eval x = .agg #[.int .i64 f, .int .i64 k, .slice A n c])
    (h : K (a.put o.dst (.slice (some ⟨w.heap.size, 0, none⟩) 1 1)) (w.alloc (.cells #[.int .i64 f, .int .i64 k, .slice A n c] 67))) : o.wp Tryz.prog a w K Q := by
  obtain ⟨i, hi, hz0, hz1, hz2⟩ := info_parts info_raw
  refine wp_buildSlice 64 67 1 _ ho _ i _ Tryz.underlying64 hi hz0 (by rw [hz1]; decide) (by rw [hz1]; decide) ?_ h
  have he : (#[(0, x)].map fun (i, x) => (i, a.eval x)).toList = [(0, .agg #[.int .i64 f, .int .i64 k, .slice A n c])] := by simp [hx]
  rw [he, hz1]
  exact fill_raw1 f k A n c
theorem app_w_wp {o : Oper} {a : Act} {K : Act → World → Prop} {Q : Exit → Act → World → Prop} (s x : Operand)
    (ho : o.op = .call { callee := .builtin .append, args := #[s, x], argTypes := #[64, 64] }) {lo : Nat} {w : World} {v : Value} {T : List Raw} (h : OwnW lo w v T) (hlo : lo ≤ w.heap.size) (hlen : T.length ≤ 3000000000)
    {f k : Int} {A : Option Addr} {n c : Nat} {body : List Int} (hb : BodyT 67 lo w A n body) (hs : a.eval s = v) (hx : a.eval x = .slice (some ⟨w.heap.size, 0, none⟩) 1 1)
    (hk : ∀ v' w', OwnW lo w' v' (T ++ [(f, k, body)]) → Below lo w w' → w.grownBy w' v.ownBlock → (∀ i, v.ownBlock = some i → lo ≤ i ∧ ∃ c, w.heap[i]? = some (.cells c 67 (0, 0))) → K (a.put o.dst v') w') : o.wp Tryz.prog a (w.alloc (.cells #[.int .i64 f, .int .i64 k, .slice A n c] 67)) K Q := by
  obtain ⟨i, hi, hz0, hz1, hz2⟩ := info_parts info_raw
  obtain ⟨cs, h1, h2⟩ := h.ex
  have hB := Blk.new w 67 #[.int .i64 f, .int .i64 k, .slice A n c]
  obtain ⟨v', w', hrun, hown, hgr, _, _⟩ := run_append_own_at (P := Tryz.prog) (w.alloc (.cells #[.int .i64 f, .int .i64 k, .slice A n c] 67)) lo 64 o.type 67 i _ 3 40 Tryz.underlying64 hi hz0 hz1 hz2 rfl (by decide) v T.length cs (h1.alloc _) ⟨w.heap.size, 0, none⟩ 1 1 [.int .i64 f, .int .i64 k, .slice A n c] rfl (by
      intro j u hu
      rw [show ((⟨w.heap.size, 0, none⟩ : Addr).add j) = ⟨w.heap.size, j, none⟩ from by unfold Addr.add; split <;> simp_all, hB.cell]
      simpa using hu) (by
      intro u hu
      simp only [List.mem_cons, List.mem_nil_iff, or_false] at hu
      rcases hu with rfl | rfl | rfl <;> rfl) (by unfold maxLen; omega) (by omega) (by simp; omega)
  have hold : ∀ i, v.ownBlock = some i → lo ≤ i ∧ ∃ c, w.heap[i]? = some (.cells c 67 (0, 0)) := fun i hi => ⟨(h1.lt i hi).1, own_heap h1 hi⟩
  have hg2 : w.grownBy w' v.ownBlock := ⟨hgr.os, hgr.tape, hgr.output, Nat.le_trans (by simp) hgr.size, fun j hj hne => (hgr.block j (by simp; omega) hne).trans (Below.heap_alloc _ _ _ hj)⟩
  have hkeep : ∀ A n l, BodyT 67 lo w A n l → BodyT 67 lo w' A n l := fun A n l hb => hb.keep fun j c t hj _ ht => hg2.block j (Array.getElem?_eq_some_iff.1 hj).1 (fun e => by
    obtain ⟨_, c', hc'⟩ := hold j e.symm
    exact row_ne hj hc' ht rfl)
  unfold Oper.wp execOp
  simp only [ho, resolve, invoke, builtin, Sem.run_bind, Sem.run_pure, Result.andThen_ok, List.map_toArray, List.map_cons, List.map_nil, hs, hx, hrun]
  exact hk v' w' ⟨_, by simpa using hown, (h2.imp hkeep).app (Rs.one (hkeep _ _ _ hb))⟩ ((Below.refl lo w).grown hg2 hlo (fun i e => (hold i e).1)) hg2 hold

/-- The memory of rawsOf. -/
structure PbS (w W : World) (cs : List Value) (u : Up) (vr vu : Value) : Prop where
  bx : UpBox W w.heap.size cs u.nv u.nl vr vu
  low : Below w.heap.size w W
theorem PbS.below {w W W' : World} {cs : List Value} {u : Up} {vr vu : Value} (h : PbS w W cs u vr vu) (hB : Below W.heap.size W W') : PbS w W' cs u vr vu := ⟨h.bx.up hB, h.low.trans (hB.mono h.low.size)⟩
theorem PbS.low1 {w W W' : World} {cs : List Value} {u : Up} {vr vu : Value} (h : PbS w W cs u vr vu) (hB : Below (w.heap.size + 1) W W') : PbS w W' cs u vr vu := ⟨h.bx.below hB (Nat.lt_succ_self _), h.low.trans (hB.mono (Nat.le_succ _))⟩
def RawsP (w : World) (u : Up) (e : Ending) (w' : World) : Prop := Below w.heap.size w w' ∧ ((u.re ≠ [] ∧ writeE u.at_ ≠ 0 ∧ e = .returned (.tuple #[.slice none 0 0, .int .i64 (writeE u.at_)])) ∨
  ((u.re ≠ [] → writeE u.at_ = 0) ∧ ∃ A c, e = .returned (.tuple #[.slice A (rawsU u).length c, .int .i64 0]) ∧ RdR w' w'.heap.size A (rawsU u).length (rawsU u)))
theorem pre_nodup (u : Up) : ((preU u).map (·.2.1)).Nodup := (((raws_perm u).map (·.2.1)).nodup_iff).1 (raws_nodup u)
theorem pre_len (u : Up) : (preU u).length ≤ 10 := by
  unfold preU goneR
  have := write_len u.at_
  split <;> split <;> simp <;> omega
theorem sorted_raws {u : Up} {ss : List Raw} (hp : ss.Perm (preU u)) (hs : (ss.map (·.2.1)).Pairwise (· < ·)) : ss = rawsU u := rise_one ss (rawsU u) hs (raws_rise u) (hp.trans (raws_perm u).symm)
theorem raws_len (u : Up) : (rawsU u).length ≤ 10 := by rw [(raws_perm u).length_eq]; exact pre_len u
end Go.Proofs.YtdgoeibfggjbmaaGreatDoor
namespace Go.Proofs.YtdgoeibfggjbmaaGreatDoor
open Go.RowKit Go.ChangeShapes Go.WideShapes Go.ChangeAt Go.Deep Go.Joins
set_option maxRecDepth 100000
set_option linter.unusedVariables false

section
variable {H : Type} {enc : TypeId × Value → H} {W : World}
theorem trod_u32sF {fuel : Nat} {cs : List Value} {x : DataW H × List MemPlace} (h : DataW.trod enc Tryz.prog W 0 (fun _ => true) true fuel 22 cs = some x) :
    ∃ A n c l, cs = [.slice A n c] ∧ RdN W W.heap.size A n l ∧ ∀ y ∈ l, 0 ≤ y ∧ y ≤ 4294967295 := by
  rcases open_ints Tryz.underlying22 Tryz.underlying23 (by kernel_rfl) h with ⟨hcs, _⟩ | ⟨x0, l, c, zs, hcs, _, hl, hm, hz, hx, hcell, hwz⟩
  · exact ⟨none, 0, 0, [], hcs, RdN.nil_ _, fun y hy => by cases hy⟩
  · simp only [if_pos] at hz
    refine ⟨some x0, l, c, zs.take l, hcs, ⟨by simp; omega, fun hn => ?_⟩, fun y hy => ?_⟩
    · obtain ⟨b, off, spot⟩ := x0
      have h0 := hcell 0 (by omega)
      have hspot : spot = none := by simpa [Addr.add] using World.cell?_spot h0
      subst hspot
      refine ⟨b, off, rfl, by simpa [Addr.add] using lt_of_cell h0, fun i hi => ?_⟩
      have := hcell i (by omega)
      rw [addr_add] at this
      rw [this]
      simp [List.getD, hi]
    · have := hwz y (List.mem_of_mem_take hy)
      simp [Lit.wf, IntKind.min, IntKind.max, IntKind.signed, IntKind.bits] at this
      omega
theorem trod_commsF {fuel : Nat} {cs : List Value} {x : DataW H × List MemPlace} (h : DataW.trod enc Tryz.prog W 0 (fun _ => true) true fuel 24 cs = some x) :
    ∃ A n c ls, cs = [.slice A n c] ∧ RdC W W.heap.size A n ls := by
  rcases open_slice Tryz.underlying24 h with ⟨hcs, _⟩ | ⟨x0, l, c, m, n, D, Pl, hcs, _, hl, hm, hmm, hx, hi⟩
  · exact ⟨none, 0, 0, [], hcs, ⟨rfl, All8.nil_, fun h => absurd h (by omega)⟩⟩
  · simp only [if_pos] at hmm
    subst hmm
    have hC : Tryz.prog.cellsOf 138 = 8 := by kernel_rfl
    have each : ∀ i, i < l → ∃ y : List Int, (y.length = 8 ∧ Oct y) ∧ ∀ k v, (u8s y)[k]? = some v → W.cell? ((x0.add (i * 8)).add k) = some v := by
      intro i him
      obtain ⟨cs', hc, ht'⟩ := hi i (by omega)
      rw [hC] at hc
      obtain ⟨y, rfl, hy, oy⟩ := trod_u8s5 Tryz.underlying138 Tryz.underlying5 (by kernel_rfl) hC ht'
      obtain ⟨_, hl2, hat⟩ := World.cells?_some hc
      refine ⟨y, ⟨hy, oy⟩, fun k v hv => ?_⟩
      have hk := (List.getElem?_eq_some_iff.1 hv).1
      rw [hat k (by omega)]
      exact hv
    have hch : ∃ ys : List (List Int), ys.length = l ∧ ∀ i (h : i < ys.length), (ys[i].length = 8 ∧ Oct ys[i]) ∧ ∀ k v, (u8s ys[i])[k]? = some v → W.cell? ((x0.add (i * 8)).add k) = some v := by
      refine ⟨(List.range l).attach.map fun i => Classical.choose (each i.1 (List.mem_range.1 i.2)), by simp, fun i hi' => ?_⟩
      have hlt : i < l := by simpa using hi'
      have h1 := Classical.choose_spec (each i hlt)
      have e1 : ((List.range l).attach.map fun i => Classical.choose (each i.1 (List.mem_range.1 i.2)))[i] = Classical.choose (each i hlt) := by simp
      rw [e1]
      exact h1
    obtain ⟨ys, hyl, hys⟩ := hch
    refine ⟨some x0, l, _, ys, hcs, ⟨hyl, fun y hy => ?_, fun hn => ?_⟩⟩
    · obtain ⟨i, hi', rfl⟩ := List.mem_iff_getElem.1 hy
      exact (hys i hi').1
    · obtain ⟨b, off, spot⟩ := x0
      have h0 := hys 0 (by omega)
      have h0c := h0.2 0 (.int .u8 (ys[0].getD 0 0)) (by
        rw [u8s, List.getElem?_map, List.getElem?_eq_getElem (by omega)]
        simp [List.getD, h0.1.1])
      have hspot : spot = none := by simpa [Addr.add] using World.cell?_spot h0c
      subst hspot
      have ea : ∀ i, (⟨b, off, none⟩ : Addr).add i = ⟨b, off + i, none⟩ := fun i => by unfold Addr.add; split <;> simp_all
      have eb : ∀ i k, (⟨b, off + i, none⟩ : Addr).add k = ⟨b, off + i + k, none⟩ := fun i k => by unfold Addr.add; split <;> simp_all
      refine ⟨b, off, rfl, by simpa [Addr.add] using lt_of_cell5 h0c, fun i hi' k v hv => ?_⟩
      have := (hys i hi').2 k v hv
      rw [ea, eb] at this
      exact this
theorem trod_attF {fuel : Nat} {cs : List Value} {x : DataW H × List MemPlace} (h : DataW.trod enc Tryz.prog W 0 (fun _ => true) true fuel 31 cs = some x) :
    ∃ a, RdAt W W.heap.size cs a ∧ AtFits a := by
  obtain ⟨xs, m, _, hx, hl, hxl, hat⟩ := DataW.trod_struct Tryz.underlying31 h
  have hl : cs.length = 27 := hl.trans (by kernel_rfl)
  obtain ⟨_, _, h0⟩ := part_of5 hxl hat 0 _ rfl
  obtain ⟨y1, m1, h1⟩ := part_of5 hxl hat 1 _ rfl
  obtain ⟨_, _, h2⟩ := part_of5 hxl hat 2 _ rfl
  obtain ⟨_, _, h3⟩ := part_of5 hxl hat 3 _ rfl
  obtain ⟨_, _, h4⟩ := part_of5 hxl hat 4 _ rfl
  obtain ⟨_, _, h5⟩ := part_of5 hxl hat 5 _ rfl
  obtain ⟨y6, m6, h6⟩ := part_of5 hxl hat 6 _ rfl
  obtain ⟨y7, m7, h7⟩ := part_of5 hxl hat 7 _ rfl
  obtain ⟨_, _, h8⟩ := part_of5 hxl hat 8 _ rfl
  obtain ⟨og, e0⟩ := trod_i645 h0
  obtain ⟨Ap, np, cp, lp, e1, r1, u1⟩ := trod_u32sF h1
  obtain ⟨hm, e2, _⟩ := DataW.trod_bool Tryz.underlying4 h2
  obtain ⟨med, e3, hmed⟩ := trod_u325 h3
  obtain ⟨pref, e4, hpref⟩ := trod_u325 h4
  obtain ⟨orr, e5, horr⟩ := trod_u325 h5
  obtain ⟨Ac, nc, cc, lc, e6, r6, u6⟩ := trod_u32sF h6
  obtain ⟨Am, nm, cm, lm, e7, r7⟩ := trod_commsF h7
  obtain ⟨pm, e8, hlab, hip, hoct⟩ := trod_pm5 h8
  have e0 : (cs.drop 0).take 1 = [.int .i64 og] := e0
  have e1 : (cs.drop 1).take 1 = [.slice Ap np cp] := e1
  have e2 : (cs.drop 2).take 1 = [.bool hm] := e2
  have e3 : (cs.drop 3).take 1 = [.int .u32 med] := e3
  have e4 : (cs.drop 4).take 1 = [.int .u32 pref] := e4
  have e5 : (cs.drop 5).take 1 = [.int .u32 orr] := e5
  have e6 : (cs.drop 6).take 1 = [.slice Ac nc cc] := e6
  have e7 : (cs.drop 7).take 1 = [.slice Am nm cm] := e7
  have e8 : (cs.drop 8).take 19 = pmc pm := e8
  have q1 := r1.len
  have q6 := r6.len
  have q7 := r7.len
  subst q1 q6 q7
  refine ⟨⟨og, lp, hm, med, pref, orr, lc, lm, pm⟩, ⟨⟨Ap, cp, Ac, cc, Am, cm, ?_, r1, r6, r7⟩⟩, ⟨u1, u6, fun l hl => r7.ok l hl, hmed, hpref, horr, hlab, hip, hoct⟩⟩
  have a0 := drop_split5 cs 0 1
  have a1 := drop_split5 cs 1 1
  have a2 := drop_split5 cs 2 1
  have a3 := drop_split5 cs 3 1
  have a4 := drop_split5 cs 4 1
  have a5 := drop_split5 cs 5 1
  have a6 := drop_split5 cs 6 1
  have a7 := drop_split5 cs 7 1
  have a8 := drop_split5 cs 8 19
  have z : cs.drop (8 + 19) = [] := List.drop_of_length_le (by omega)
  rw [e0] at a0
  rw [e1] at a1
  rw [e2] at a2
  rw [e3] at a3
  rw [e4] at a4
  rw [e5] at a5
  rw [e6] at a6
  rw [e7] at a7
  rw [e8, z, List.append_nil] at a8
  rw [List.drop_zero] at a0
  rw [a0]
  show _ ++ cs.drop 1 = _
  rw [a1]
  show _ ++ (_ ++ cs.drop 2) = _
  rw [a2]
  show _ ++ (_ ++ (_ ++ cs.drop 3)) = _
  rw [a3]
  show _ ++ (_ ++ (_ ++ (_ ++ cs.drop 4))) = _
  rw [a4]
  show _ ++ (_ ++ (_ ++ (_ ++ (_ ++ cs.drop 5)))) = _
  rw [a5]
  show _ ++ (_ ++ (_ ++ (_ ++ (_ ++ (_ ++ cs.drop 6))))) = _
  rw [a6]
  show _ ++ (_ ++ (_ ++ (_ ++ (_ ++ (_ ++ (_ ++ cs.drop 7)))))) = _
  rw [a7]
  show _ ++ (_ ++ (_ ++ (_ ++ (_ ++ (_ ++ (_ ++ (_ ++ cs.drop 8))))))) = _
  rw [a8]
  rfl
theorem trod_routesF {fuel : Nat} {cs : List Value} {x : DataW H × List MemPlace} (h : DataW.trod enc Tryz.prog W 0 (fun _ => true) true fuel 32 cs = some x) : ∃ A n c ls, cs = [.slice A n c] ∧ RdRt W W.heap.size A n ls := by
  have hC : Tryz.prog.cellsOf 53 = 63 := by kernel_rfl
  rcases open_slice Tryz.underlying32 h with ⟨hcs, _⟩ | ⟨x, len, c, m, n, D, Pl, hcs, _, hl, hm, hmm, hx, hi⟩
  · exact ⟨none, 0, 0, [], hcs, ⟨rfl, AllRt.nil_, fun h => absurd h (by omega)⟩⟩
  · simp only [if_pos] at hmm
    subst hmm
    have each : ∀ i, i < len → ∃ y : Rt, RtOk y ∧ ∀ k v, (rtc y)[k]? = some v → W.cell? ((x.add (i * 63)).add k) = some v := by
      intro i him
      obtain ⟨cs', hc, ht'⟩ := hi i (by omega)
      rw [hC] at hc
      obtain ⟨y, rfl, hy⟩ := trod_rt ht'
      obtain ⟨_, hl2, hat⟩ := World.cells?_some hc
      refine ⟨y, hy, fun k v hv => ?_⟩
      have hk := (List.getElem?_eq_some_iff.1 hv).1
      rw [hat k (by omega)]
      exact hv
    have hch : ∃ ys : List Rt, ys.length = len ∧ ∀ i (h : i < ys.length), RtOk ys[i] ∧ ∀ k v, (rtc ys[i])[k]? = some v → W.cell? ((x.add (i * 63)).add k) = some v := by
      refine ⟨(List.range len).attach.map fun i => Classical.choose (each i.1 (List.mem_range.1 i.2)), by simp, fun i hi' => ?_⟩
      have hlt : i < len := by simpa using hi'
      have h1 := Classical.choose_spec (each i hlt)
      have e1 : ((List.range len).attach.map fun i => Classical.choose (each i.1 (List.mem_range.1 i.2)))[i] = Classical.choose (each i hlt) := by simp
      rw [e1]
      exact h1
    obtain ⟨ys, hyl, hys⟩ := hch
    refine ⟨some x, len, _, ys, hcs, ⟨hyl, fun y hy => ?_, fun hn => ?_⟩⟩
    · obtain ⟨i, hi', rfl⟩ := List.mem_iff_getElem.1 hy
      exact (hys i hi').1
    · obtain ⟨b, off, spot⟩ := x
      have h0 := hys 0 (by omega)
      have h0c := h0.2 0 (.int .i64 ys[0].k) rfl
      have hspot : spot = none := by simpa [Addr.add] using World.cell?_spot h0c
      subst hspot
      have ea : ∀ i, (⟨b, off, none⟩ : Addr).add i = ⟨b, off + i, none⟩ := fun i => by unfold Addr.add; split <;> simp_all
      have eb : ∀ i k, (⟨b, off + i, none⟩ : Addr).add k = ⟨b, off + i + k, none⟩ := fun i k => by unfold Addr.add; split <;> simp_all
      refine ⟨b, off, rfl, by simpa [Addr.add] using lt_of_cellN h0c, fun i hi' k v hv => ?_⟩
      have := (hys i hi').2 k v hv
      rw [ea, eb] at this
      exact this
theorem trod_upF {fuel : Nat} {cs : List Value} {x : DataW H × List MemPlace} (h : DataW.trod enc Tryz.prog W 0 (fun _ => true) true fuel 34 cs = some x) :
    ∃ u xs A1 n1 c1 A2 n2 c2, cs = upc xs u.nv u.nl (.slice A1 n1 c1) (.slice A2 n2 c2) ∧ UpOk u ∧ RdAt W W.heap.size xs u.at_ ∧ UpRd W u A1 n1 A2 n2 := by
  obtain ⟨xs, m, _, hx, hl, hxl, hat⟩ := DataW.trod_struct Tryz.underlying34 h
  have hl : cs.length = 46 := hl.trans (by kernel_rfl)
  obtain ⟨_, _, h0⟩ := part_of5 hxl hat 0 _ rfl
  obtain ⟨_, _, h1⟩ := part_of5 hxl hat 1 _ rfl
  obtain ⟨_, _, h2⟩ := part_of5 hxl hat 2 _ rfl
  obtain ⟨_, _, h3⟩ := part_of5 hxl hat 3 _ rfl
  obtain ⟨a, ra, fa⟩ := trod_attF h0
  obtain ⟨nv, nl, e1, lnl, onl⟩ := trod_ip5 h1
  obtain ⟨A1, n1, c1, l1, e2, r1⟩ := trod_routesF h2
  obtain ⟨A2, n2, c2, l2, e3, r2⟩ := trod_routesF h3
  have e1 : (cs.drop 27).take 17 = ipc nv nl := e1
  have e2 : (cs.drop 44).take 1 = [.slice A1 n1 c1] := e2
  have e3 : (cs.drop 45).take 1 = [.slice A2 n2 c2] := e3
  refine ⟨⟨a, nv, nl, l1, l2⟩, (cs.drop 0).take 27, A1, n1, c1, A2, n2, c2, ?_, ⟨fa, lnl, onl, r1.ok, r2.ok⟩, ra, ⟨r1, r2⟩⟩
  have a0 := drop_split5 cs 0 27
  have a1 := drop_split5 cs 27 17
  have a2 := drop_split5 cs 44 1
  have a3 := drop_split5 cs 45 1
  have z : cs.drop (45 + 1) = [] := List.drop_of_length_le (by omega)
  rw [e1] at a1
  rw [e2] at a2
  rw [e3, z, List.append_nil] at a3
  rw [List.drop_zero] at a0
  unfold upc
  refine a0.trans (congrArg (List.take 27 (cs.drop 0) ++ ·) ?_)
  show cs.drop 27 = _
  rw [a1]
  refine congrArg (ipc nv nl ++ ·) ?_
  show cs.drop 44 = _
  rw [a2]
  show [_] ++ cs.drop 45 = _
  rw [a3]
  rfl
theorem open_up {r : Reach} {b0 : Nat} {v : Value} {d : DataW H} {p : List MemPlace} (hv : Value.okWide Tryz.prog W r b0 34 v) (h : DataW.Trod enc Tryz.prog W 0 (fun _ => true) true 34 v d p) :
    ∃ u xs A1 n1 c1 A2 n2 c2, v = .agg (upc xs u.nv u.nl (.slice A1 n1 c1) (.slice A2 n2 c2)).toArray ∧ UpOk u ∧ RdAt W W.heap.size xs u.at_ ∧ UpRd W u A1 n1 A2 n2 := by
  unfold Value.okWide at hv
  rw [Tryz.underlying34] at hv
  obtain ⟨⟨cs⟩, rfl, _⟩ := hv
  obtain ⟨fuel, hf⟩ := h
  obtain ⟨u, xs, A1, n1, c1, A2, n2, c2, h1, h2, h3, h4⟩ := trod_upF hf
  have h1 : cs = _ := h1
  subst h1
  exact ⟨u, xs, A1, n1, c1, A2, n2, c2, rfl, h2, h3, h4⟩
end
end Go.Proofs.YtdgoeibfggjbmaaGreatDoor
namespace Go.Proofs.YtdgoeibfggjbmaaGreatDoor
open Go.RowKit
set_option maxRecDepth 100000
set_option linter.unusedSimpArgs false
set_option linter.unusedVariables false

/-- The place of the first one of a kind. -/
def plc (rs : List Raw) (k : Int) : Int := match rs.findIdx? (fun r => decide (r.2.1 = k)) with
  | some i => i
  | none => -1
theorem plc_at {rs : List Raw} {k : Int} {m : Nat} (hm : m < rs.length) (h : ∀ j (hj : j < rs.length), j < m → rs[j].2.1 ≠ k) (hk : rs[m].2.1 = k) : plc rs k = m := by
  have : rs.findIdx? (fun r => decide (r.2.1 = k)) = some m := by
    rw [List.findIdx?_eq_some_iff_getElem]
    exact ⟨hm, by simpa using hk, fun j hj => by simpa using h j (by omega) hj⟩
  unfold plc
  rw [this]
theorem plc_no {rs : List Raw} {k : Int} (h : ∀ j (hj : j < rs.length), rs[j].2.1 ≠ k) : plc rs k = -1 := by
  have : rs.findIdx? (fun r => decide (r.2.1 = k)) = none := by
    rw [List.findIdx?_eq_none_iff]
    intro r hr
    obtain ⟨j, hj, rfl⟩ := List.getElem_of_mem hr
    simpa using h j hj
  unfold plc
  rw [this]
end Go.Proofs.YtdgoeibfggjbmaaGreatDoor
namespace Go.Proofs.YtdgoeibfggjbmaaGreatDoor
open Go.RowKit
set_option maxRecDepth 100000
set_option linter.unusedSimpArgs false
set_option linter.unusedVariables false

/-- What AReach or AUnreach says. -/
structure Sd where
  nv : Bool
  nl : List Int
  rs : List Rt
  wr : Nat
def sd0 : Sd := ⟨false, z16, [], 0⟩
def oursB (v : List Int) : Bool := decide (v.take 3 = [0, 25, 70])
def withR (nv : Bool) (nl l : List Int) : Option Sd := match readAll l with
  | some (rs, m) => some ⟨nv, nl, rs, m⟩
  | none => none
def sdR (k : Int) (v : List Int) : Option Sd :=
  if v.length < 3 then none else if oursB v = false then some sd0 else if k = 14 then
    (if v.length < 4 then none else if v.getD 3 0 = 4 then (if v.length < 9 then none else withR false (pad ((v.drop 4).take 4)) (v.drop 9))
     else if v.getD 3 0 = 16 then (if v.length < 21 then none else withR true (pad ((v.drop 4).take 16)) (v.drop 21)) else none)
  else withR false z16 (v.drop 3)
def fstK (rs : List Raw) (k : Int) : Option Raw := rs.find? (fun r => decide (r.2.1 = k))
def saidR (rs : List Raw) (k : Int) : Option Sd := match fstK rs k with
  | none => some sd0
  | some r => sdR k r.2.2
def firstB (rs : List Raw) (k : Int) : List Int := match fstK rs k with
  | none => []
  | some r => encB r
def hasK (rs : List Raw) (k : Int) : Bool := decide (0 ≤ plc rs k)
def classR (rs : List Raw) (g t : Sd) : Int := if t.rs ≠ [] ∧ (hasK rs 1 && (hasK rs 2 && hasK rs 5)) = false then 2 else if 0 < g.wr ∨ 0 < t.wr then 1 else 0
def rawsB (l : List Int) : Option (List Raw) :=
  if l.length < 2 then none else if l.length < 4 + (numOf (l.take 2)).toNat then none else
    if l.length < 4 + (numOf (l.take 2)).toNat + (numOf ((l.drop (2 + (numOf (l.take 2)).toNat)).take 2)).toNat then none else
      split ((l.drop (4 + (numOf (l.take 2)).toNat)).take (numOf ((l.drop (2 + (numOf (l.take 2)).toNat)).take 2)).toNat)
def up0 : Up := ⟨Att.zero, false, z16, [], []⟩
def upOf (a : Att) (g t : Sd) (c : Int) : Up := if c = 2 then ⟨Att.zero, false, z16, [], g.rs ++ t.rs⟩ else if t.rs = [] then ⟨Att.zero, false, z16, [], g.rs⟩ else ⟨a, t.nv, t.nl, t.rs, g.rs⟩
def mx (a b : Int) : Int := if a < b then b else a
def upRd (l : List Int) : Up × Int × Int × Int × List Int := match rawsB l with
  | none => (up0, 3, 3, 1, [])
  | some rs => if (readM rs).2.1 = 3 then (up0, 3, (readM rs).2.2.1, (readM rs).2.2.2.1, (readM rs).2.2.2.2)
    else match saidR rs 15 with
      | none => (up0, 3, 3, 9, firstB rs 15)
      | some g => match saidR rs 14 with
        | none => (up0, 3, 3, 9, firstB rs 14)
        | some t => (upOf (readM rs).1 g t (mx (readM rs).2.1 (classR rs g t)), mx (readM rs).2.1 (classR rs g t), 0, 0, [])

/-! In the cursor's words. -/
theorem plc_fst (rs : List Raw) (k : Int) : (∃ (i : Nat) (h : i < rs.length), plc rs k = i ∧ fstK rs k = some rs[i] ∧ rs[i].2.1 = k) ∨ (plc rs k = -1 ∧ fstK rs k = none) := by
  unfold plc fstK
  cases hi : rs.findIdx? (fun r => decide (r.2.1 = k)) with
  | none =>
    right
    refine ⟨rfl, ?_⟩
    rw [List.findIdx?_eq_none_iff] at hi
    rw [List.find?_eq_none]
    intro x hx
    have := hi x hx
    simpa using this
  | some i =>
    left
    rw [List.findIdx?_eq_some_iff_getElem] at hi
    obtain ⟨h1, h2, h3⟩ := hi
    refine ⟨i, h1, rfl, ?_, by simpa using h2⟩
    rw [List.find?_eq_some_iff_getElem]
    exact ⟨h2, i, h1, rfl, fun j hj => by simpa using h3 j hj⟩
def sq1 (l : List Int) : CS := nS l (0, 0) 2
def sq2 (l : List Int) : CS := tS l (sq1 l) (nV l (0, 0) 2)
def sq3 (l : List Int) : CS := nS l (sq2 l) 2
def spV7 (l : List Int) : List Int := tV l (sq3 l) (nV l (sq2 l) 2)
def sq4 (l : List Int) : CS := tS l (sq3 l) (nV l (sq2 l) 2)
theorem nS_fit {l : List Int} {p k : Nat} (h1 : 1 ≤ k) (h8 : k ≤ 8) (h : p + k ≤ l.length) : nV l (p, 0) k = numOf ((l.drop p).take k) ∧ nS l (p, 0) k = (p + k, 0) := by
  have hok : numOk k := ⟨by omega, by omega⟩
  have ⟨h2, h3⟩ := tS_in (n := k) h
  unfold tV at h2
  unfold tS at h3
  injection h3 with h3 h4
  refine ⟨?_, ?_⟩
  · simp only [nV, numVal, if_pos hok, h2]
  · simp only [nS, numAt, numErr, if_pos hok, h3, h4]
theorem nS_no {l : List Int} {p k : Nat} (h1 : 1 ≤ k) (h8 : k ≤ 8) (hp : p ≤ l.length) (h : l.length < p + k) : nV l (p, 0) k = 0 ∧ nS l (p, 0) k = (p, 3) := by
  have hok : numOk k := ⟨by omega, by omega⟩
  have ⟨h2, h3⟩ := tS_out (n := (k : Int)) hp (by omega)
  unfold tV at h2
  unfold tS at h3
  injection h3 with h3 h4
  refine ⟨?_, ?_⟩
  · simp only [nV, numVal, if_pos hok, h2]; rfl
  · simp only [nS, numAt, numErr, if_pos hok, h3, h4]
theorem nS_err {l : List Int} (p : Nat) (e : Int) (k : Nat) (h1 : 1 ≤ k) (h8 : k ≤ 8) (he : e ≠ 0) : nV l (p, e) k = 0 ∧ nS l (p, e) k = (p, e) := by
  have hok : numOk k := ⟨by omega, by omega⟩
  have ⟨h2, h3⟩ := tS_err l p e k he
  unfold tV at h2
  unfold tS at h3
  injection h3 with h3 h4
  refine ⟨?_, ?_⟩
  · simp only [nV, numVal, if_pos hok, h2]; rfl
  · simp only [nS, numAt, numErr, if_pos hok, h3, h4]
theorem rawsB_cur (l : List Int) (ho : Oct l) : (∃ (e : Int), (sq4 l).2 = e ∧ e ≠ 0 ∧ rawsB l = none) ∨ ((sq4 l).2 = 0 ∧ rawsB l = split (spV7 l)) := by
  unfold rawsB sq4 spV7 sq3 sq2 sq1
  by_cases h2 : l.length < 2
  · left
    have ⟨a1, a2⟩ := nS_no (l := l) (p := 0) (k := 2) (by omega) (by omega) (by omega) (by omega)
    have a1 : nV l (0, 0) 2 = 0 := a1
    have a2 : nS l (0, 0) 2 = (0, 3) := a2
    rw [a1, a2, if_pos h2]
    have ⟨b1, b2⟩ := tS_err l 0 3 0 (by decide)
    rw [b2]
    have ⟨c1, c2⟩ := nS_err (l := l) 0 3 2 (by omega) (by omega) (by decide)
    have c1 : nV l (0, 3) 2 = 0 := c1
    have c2 : nS l (0, 3) 2 = (0, 3) := c2
    rw [c1, c2, b2]
    exact ⟨3, rfl, by decide, rfl⟩
  · rw [if_neg h2]
    have ⟨a1, a2⟩ := nS_fit (l := l) (p := 0) (k := 2) (by omega) (by omega) (by omega)
    rw [List.drop_zero] at a1
    have a1 : nV l (0, 0) 2 = numOf (l.take 2) := a1
    have a2 : nS l (0, 0) 2 = (2, 0) := a2
    have hb := numOf_bd (l.take 2) (fun x hx => ho x (List.mem_of_mem_take hx))
    rw [a1, a2]
    obtain ⟨n, hn⟩ : ∃ n : Nat, numOf (l.take 2) = n := ⟨(numOf (l.take 2)).toNat, by omega⟩
    rw [hn, Int.toNat_natCast]
    by_cases h3 : l.length < 2 + n
    · left
      rw [if_pos (by omega)]
      have ⟨b1, b2⟩ := tS_out (l := l) (p := 2) (n := (n : Int)) (by omega) (by omega)
      rw [b2]
      have ⟨c1, c2⟩ := nS_err (l := l) 2 3 2 (by omega) (by omega) (by decide)
      have c1 : nV l (2, 3) 2 = 0 := c1
      have c2 : nS l (2, 3) 2 = (2, 3) := c2
      rw [c1, c2]
      have ⟨d1, d2⟩ := tS_err l 2 3 0 (by decide)
      rw [d2]
      exact ⟨3, rfl, by decide, rfl⟩
    · have ⟨b1, b2⟩ := tS_in (l := l) (p := 2) (n := n) (by omega)
      rw [b2]
      by_cases h4 : l.length < 4 + n
      · left
        rw [if_pos h4]
        have ⟨c1, c2⟩ := nS_no (l := l) (p := 2 + n) (k := 2) (by omega) (by omega) (by omega) (by omega)
        have c1 : nV l (2 + n, 0) 2 = 0 := c1
        have c2 : nS l (2 + n, 0) 2 = (2 + n, 3) := c2
        rw [c1, c2]
        have ⟨d1, d2⟩ := tS_err l (2 + n) 3 0 (by decide)
        rw [d2]
        exact ⟨3, rfl, by decide, rfl⟩
      · rw [if_neg h4]
        have ⟨c1, c2⟩ := nS_fit (l := l) (p := 2 + n) (k := 2) (by omega) (by omega) (by omega)
        have c1 : nV l (2 + n, 0) 2 = numOf ((l.drop (2 + n)).take 2) := c1
        have c2 : nS l (2 + n, 0) 2 = (2 + n + 2, 0) := c2
        have hb2 := numOf_bd ((l.drop (2 + n)).take 2) (fun x hx => ho x (List.mem_of_mem_drop (List.mem_of_mem_take hx)))
        rw [c1, c2]
        obtain ⟨m, hm⟩ : ∃ m : Nat, numOf ((l.drop (2 + n)).take 2) = m := ⟨(numOf ((l.drop (2 + n)).take 2)).toNat, by omega⟩
        rw [hm, Int.toNat_natCast]
        by_cases h5 : l.length < 4 + n + m
        · left
          rw [if_pos h5]
          have ⟨d1, d2⟩ := tS_out (l := l) (p := 2 + n + 2) (n := (m : Int)) (by omega) (by omega)
          rw [d2]
          exact ⟨3, rfl, by decide, rfl⟩
        · right
          rw [if_neg h5]
          have ⟨d1, d2⟩ := tS_in (l := l) (p := 2 + n + 2) (n := m) (by omega)
          rw [d1, d2, show 2 + n + 2 = 4 + n by omega]
          exact ⟨rfl, rfl⟩
end Go.Proofs.YtdgoeibfggjbmaaGreatDoor
namespace Go.Proofs.YtdgoeibfggjbmaaGreatDoor
open Go.RowKit
set_option maxRecDepth 100000
set_option linter.unusedSimpArgs false
set_option linter.unusedVariables false

theorem pl1_is (w : World) (f k2 : Int) (A : Option Addr) (n c : Nat) (b : Nat) (k : Int) (hb : w.cell? ⟨b, 0, none⟩ = some (.int .i64 k)) (hlt : b < w.heap.size) :
    Calls Tryz.prog 174 #[.agg #[.int .i64 f, .int .i64 k2, .slice A n c], .pointer (some ⟨b, 0, none⟩)] w fun e w' => e = .returned (.bool (decide (k2 = k))) ∧ Below w.heap.size w w' := by
  have hal := bl_one w (.cells #[.int .i64 f, .int .i64 k2, .slice A n c] 67)
  have HB := Lib.hid hal
  have h1 : (w.alloc (.cells #[.int .i64 f, .int .i64 k2, .slice A n c] 67)).cell? ⟨b, 0, none⟩ = some (.int .i64 k) := (hal.cell (p := ⟨b, 0, none⟩) hlt).trans hb
  have h2 : (w.alloc (.cells #[.int .i64 f, .int .i64 k2, .slice A n c] 67)).cell? ⟨w.heap.size, 1, none⟩ = some (.int .i64 k2) := (Blk.new w 67 #[.int .i64 f, .int .i64 k2, .slice A n c]).cell 1
  clear hal
  by_cases e : k2 = k
  · have e0 : (k2 == k) = true := by simpa using e
    have HE : Hid (decide (k2 = k) = true) := Lib.hid (by simpa using e)
    clear e
    go_enter Tryz.func174, Tryz.ntmps174
    go_wp2
    go_ret
    exact ⟨by rw [HE.out]; rfl, HB.out⟩
  · have e0 : (k2 == k) = false := by simpa using e
    have HE : Hid (decide (k2 = k) = false) := Lib.hid (by simpa using e)
    clear e
    go_enter Tryz.func174, Tryz.ntmps174
    go_wp2
    go_ret
    exact ⟨by rw [HE.out]; rfl, HB.out⟩
set_option maxHeartbeats 1000000 in
theorem idxRaw_is (w : World) (A : Option Addr) (n c : Nat) (rs : List Raw) (hr : RdR w w.heap.size A n rs) (hn : n ≤ 1048576) (b : Nat) (k : Int) (hb : w.cell? ⟨b, 0, none⟩ = some (.int .i64 k)) (hlt : b < w.heap.size) :
    Calls Tryz.prog 173 #[.slice A n c, .func (.func 174) #[] #[.pointer (some ⟨b, 0, none⟩)]] w fun e w' => e = .returned (.int .i64 (plc rs k)) ∧ Below w.heap.size w w' := by
  have HR := Lib.hid hr
  have HLen := Lib.hid hr.len
  have HBk := Lib.hid hb
  clear hr hb
  go_enter Tryz.func173, Tryz.ntmps173
  go_wp2
  go_loopw [5, 8] (fun _ i wr => ∃ m : Nat, m ≤ n ∧ i = .int .i64 m ∧ (Below w.heap.size w wr ∧ ∀ j (hj : j < rs.length), j < m → rs[j].2.1 ≠ k)) (fun _ i _ => n - (intOf i).toNat)
  case atStart => exact ⟨0, Nat.zero_le _, rfl, Below.refl _ _, fun j hj h => by omega⟩
  case round =>
    obtain ⟨m, hm, rfl, hrel⟩ := hrel
    have HRel := Lib.hid hrel
    clear hrel
    by_cases hlt2 : m < n
    · have hml : m < rs.length := by have := HLen.out; omega
      obtain ⟨b2, off, A1, n1, c1, rfl, hb2, x0, x1, x2, _⟩ := (HR.out.below HRel.out.1).get hml
      have HX0 := Lib.hid x0
      have HX1 := Lib.hid x1
      have HX2 := Lib.hid x2
      have HYes := Lib.hid (fun (h : rs[m].2.1 = k) => plc_at hml HRel.out.2 h)
      have HNo := Lib.hid (fun (h : ¬ rs[m].2.1 = k) j (hj : j < rs.length) (hjm : j < m + 1) => (show rs[j].2.1 ≠ k from by
        rcases Nat.lt_or_ge j m with h1 | h1
        · exact HRel.out.2 j hj h1
        · obtain rfl : j = m := by omega
          exact h))
      generalize rs[m].1 = f1 at *
      generalize rs[m].2.1 = k1 at *
      have HP := Lib.hid (pl1_is wr f1 k1 A1 n1 c1 b k ((HRel.out.1.cell (p := ⟨b, 0, none⟩) hlt).trans HBk.out) (Nat.lt_of_lt_of_le hlt HRel.out.1.size))
      have hi0 : (0 : Int) ≤ (m : Int) := by omega
      have hi1 : (m : Int) < (n : Int) := by omega
      clear x0 x1 x2
      by_cases e : k1 = k
      · rw [decide_eq_true e] at HP
        have HY := Lib.hid (HYes.out e)
        clear e HYes HNo
        go_wp2_with (first | (refine raw_fetch rfl _ rfl b2 (off + m * 3) f1 k1 A1 n1 c1 rfl HX0.out HX1.out HX2.out ?_) | (go_at_call 174; refine HP.out.mono ?_; rintro e w2 ⟨rfl, hB⟩; have HB2 := Lib.hid (HRel.out.1.trans (hB.mono HRel.out.1.size)); clear hB) | fail)
        go_ret
        exact ⟨by rw [HY.out]; rfl, HB2.out⟩
      · rw [decide_eq_false e] at HP
        have HY := Lib.hid (HNo.out e)
        clear e HYes HNo
        go_wp2_with (first | (refine raw_fetch rfl _ rfl b2 (off + m * 3) f1 k1 A1 n1 c1 rfl HX0.out HX1.out HX2.out ?_) | (go_at_call 174; refine HP.out.mono ?_; rintro e w2 ⟨rfl, hB⟩; have HB2 := Lib.hid (HRel.out.1.trans (hB.mono HRel.out.1.size)); clear hB) | fail)
        exact ⟨⟨m + 1, by omega, by go_num, HB2.out, HY.out⟩, by simp [intOf]; omega⟩
    · obtain rfl : m = n := by omega
      have HY : Hid (plc rs k = -1) := Lib.hid (plc_no fun j hj => HRel.out.2 j hj (by have := HLen.out; omega))
      go_wp2
      go_ret
      exact ⟨by rw [HY.out]; rfl, HRel.out.1⟩
theorem place7_is (w : World) (A : Option Addr) (n c : Nat) (rs : List Raw) (k : Int) (hr : RdR w w.heap.size A n rs) (hn : n ≤ 1048576) :
    Calls Tryz.prog 118 #[.slice A n c, .int .i64 k] w fun e w' => e = .returned (.int .i64 (plc rs k)) ∧ Below w.heap.size w w' := by
  have hal := bl_one w (.cells #[.int .i64 k] 3)
  have HP := Lib.hid (idxRaw_is (w.alloc (.cells #[.int .i64 k] 3)) A n c rs ((hr.below hal).more hal.size) hn w.heap.size k ((Blk.new w 3 #[.int .i64 k]).cell 0) (by simp))
  have HB := Lib.hid hal
  have hmf : ∀ (fn : Fn) (first cap : Array Value) (w : World), (Instr.makeFunc fn first cap).run Tryz.prog w = .ok (.func fn first cap) w := fun _ _ _ _ => rfl
  clear hr hal
  go_enter Tryz.func118, Tryz.ntmps118
  go_wp2_with fail
  refine HP.out.mono ?_
  rintro e w2 ⟨rfl, hB⟩
  have HB2 := Lib.hid (HB.out.trans (hB.mono HB.out.size))
  clear hB
  go_wp2
  go_ret
  exact ⟨rfl, HB2.out⟩

/-! standAll. -/
theorem sa1_is (w : World) (b : Nat) (A : Option Addr) (n c : Nat) (rs : List Raw) (hr : RdR w w.heap.size A n rs) (hn : n ≤ 1048576) (hb : w.cell? ⟨b, 0, none⟩ = some (.slice A n c)) (k : Int) :
    Calls Tryz.prog 178 #[.int .i64 k, .pointer (some ⟨b, 0, none⟩)] w fun e w' => e = .returned (.bool (!hasK rs k)) ∧ Below w.heap.size w w' := by
  have HP := Lib.hid (place7_is w A n c rs k hr hn)
  have HK : Hid (hasK rs k = decide (0 ≤ plc rs k)) := Lib.hid rfl
  clear hr
  generalize plc rs k = p at *
  by_cases e : p < 0
  · have HE : Hid (decide (0 ≤ p) = false) := Lib.hid (decide_eq_false (by omega))
    go_enter Tryz.func178, Tryz.ntmps178
    go_wp2_with fail
    refine HP.out.mono ?_
    rintro e w2 ⟨rfl, hB⟩
    have HB := Lib.hid hB
    clear hB
    go_wp2
    go_ret
    exact ⟨by rw [HK.out, HE.out]; rfl, HB.out⟩
  · have HE : Hid (decide (0 ≤ p) = true) := Lib.hid (decide_eq_true (by omega))
    have e3 : decide (p < 0) = false := decide_eq_false e
    go_enter Tryz.func178, Tryz.ntmps178
    go_wp2_with fail
    refine HP.out.mono ?_
    rintro e w2 ⟨rfl, hB⟩
    have HB := Lib.hid hB
    clear hB
    go_wp2
    go_ret
    exact ⟨by rw [HK.out, HE.out]; rfl, HB.out⟩
def IdxI (w : World) (P : Bool) (e : Ending) (w' : World) : Prop := ∃ i : Int, e = .returned (.int .i64 i) ∧ (decide (0 ≤ i) = !P) ∧ Below w.heap.size w w'
theorem all_no {ks : List Int} {p : Int → Bool} {m : Nat} (hm : m < ks.length) (h : p ks[m] = false) : ks.all p = false := by
  rw [List.all_eq_false]
  exact ⟨ks[m], List.getElem_mem hm, by rw [h]; decide⟩
theorem all_yes {ks : List Int} {p : Int → Bool} (h : ∀ j (hj : j < ks.length), p ks[j] = true) : ks.all p = true := by
  rw [List.all_eq_true]
  intro r hr
  obtain ⟨j, hj, rfl⟩ := List.getElem_of_mem hr
  exact h j hj
set_option maxHeartbeats 1000000 in
theorem idxInt_is (w : World) (b : Nat) (A : Option Addr) (n c : Nat) (rs : List Raw) (hr : RdR w w.heap.size A n rs) (hn : n ≤ 1048576) (hb : w.cell? ⟨b, 0, none⟩ = some (.slice A n c)) (hlt : b < w.heap.size) (q : Nat) (ks : List Int) (hq : q < w.heap.size) (hk : ∀ j (hj : j < ks.length), w.cell? ⟨q, 0 + j, none⟩ = some (.int .i64 ks[j])) (hkn : ks.length ≤ 1000) (kc : Nat) :
    Calls Tryz.prog 215 #[.slice (some ⟨q, 0, none⟩) ks.length kc, .func (.func 178) #[] #[.pointer (some ⟨b, 0, none⟩)]] w (IdxI w (ks.all (hasK rs))) := by
  have HR := Lib.hid hr
  have HBk := Lib.hid hb
  have HK := Lib.hid hk
  have hnn : ∃ N, N = ks.length := ⟨_, rfl⟩
  obtain ⟨N, hN⟩ := hnn
  rw [← hN]
  have HN := Lib.hid hN
  rw [← hN] at hkn
  clear hr hb hk hN
  go_enter Tryz.func215, Tryz.ntmps215
  go_wp2
  go_loopw [5, 8] (fun _ i wr => ∃ m : Nat, m ≤ N ∧ i = .int .i64 m ∧ (Below w.heap.size w wr ∧ ∀ j (hj : j < ks.length), j < m → hasK rs ks[j] = true)) (fun _ i _ => N - (intOf i).toNat)
  case atStart => exact ⟨0, Nat.zero_le _, rfl, Below.refl _ _, fun j hj h => by omega⟩
  case round =>
    obtain ⟨m, hm, rfl, hrel⟩ := hrel
    have HRel := Lib.hid hrel
    clear hrel
    by_cases hlt2 : m < N
    · have hml : m < ks.length := by have := HN.out; omega
      have hx : wr.cell? ⟨q, 0 + m, none⟩ = some (.int .i64 ks[m]) := (HRel.out.1.cell (p := ⟨q, 0 + m, none⟩) hq).trans (HK.out m hml)
      rw [Nat.zero_add] at hx
      have HNo := Lib.hid (fun (h : hasK rs ks[m] = false) => all_no (p := hasK rs) hml h)
      have HYes := Lib.hid (fun (h : hasK rs ks[m] = true) j (hj : j < ks.length) (hjm : j < m + 1) => (show hasK rs ks[j] = true from by
        rcases Nat.lt_or_ge j m with h1 | h1
        · exact HRel.out.2 j hj h1
        · obtain rfl : j = m := by omega
          exact h))
      generalize ks[m] = k1 at *
      have HP := Lib.hid (sa1_is wr b A n c rs ((HR.out.below HRel.out.1).more HRel.out.1.size) hn ((HRel.out.1.cell (p := ⟨b, 0, none⟩) hlt).trans HBk.out) k1)
      have hi0 : (0 : Int) ≤ (m : Int) := by omega
      have hi1 : (m : Int) < (N : Int) := by omega
      cases e : hasK rs k1
      · rw [e] at HP
        have HY := Lib.hid (HNo.out e)
        clear e HYes HNo
        go_wp2_with (first | (go_at_call 178; refine HP.out.mono ?_; rintro e w2 ⟨rfl, hB⟩; have HB2 := Lib.hid (HRel.out.1.trans (hB.mono HRel.out.1.size)); clear hB) | fail)
        go_ret
        exact ⟨m, rfl, by rw [HY.out]; simp, HB2.out⟩
      · rw [e] at HP
        have HY := Lib.hid (HYes.out e)
        clear e HYes HNo
        go_wp2_with (first | (go_at_call 178; refine HP.out.mono ?_; rintro e w2 ⟨rfl, hB⟩; have HB2 := Lib.hid (HRel.out.1.trans (hB.mono HRel.out.1.size)); clear hB) | fail)
        exact ⟨⟨m + 1, by omega, by go_num, HB2.out, HY.out⟩, by simp [intOf]; omega⟩
    · obtain rfl : m = N := by omega
      have HY : Hid (ks.all (hasK rs) = true) := Lib.hid (all_yes fun j hj => HRel.out.2 j hj (by have := HN.out; omega))
      go_wp2
      go_ret
      exact ⟨-1, rfl, by rw [HY.out]; rfl, HRel.out.1⟩
theorem standAll_is (w : World) (A : Option Addr) (n c : Nat) (rs : List Raw) (hr : RdR w w.heap.size A n rs) (hn : n ≤ 1048576) (q : Nat) (ks : List Int) (hq : q < w.heap.size) (hk : ∀ j (hj : j < ks.length), w.cell? ⟨q, 0 + j, none⟩ = some (.int .i64 ks[j])) (hkn : ks.length ≤ 1000) (kc : Nat) :
    Calls Tryz.prog 123 #[.slice A n c, .slice (some ⟨q, 0, none⟩) ks.length kc] w fun e w' => e = .returned (.bool (ks.all (hasK rs))) ∧ Below w.heap.size w w' := by
  have hal := bl_one w (.cells #[.slice A n c] 64)
  have HI := Lib.hid (idxInt_is (w.alloc (.cells #[.slice A n c] 64)) w.heap.size A n c rs ((hr.below hal).more hal.size) hn ((Blk.new w 64 #[.slice A n c]).cell 0) (by simp) q ks (by simp; omega) (fun j hj => (hal.cell (p := ⟨q, 0 + j, none⟩) hq).trans (hk j hj)) hkn kc)
  have HB := Lib.hid hal
  have hmf : ∀ (fn : Fn) (first cap : Array Value) (w : World), (Instr.makeFunc fn first cap).run Tryz.prog w = .ok (.func fn first cap) w := fun _ _ _ _ => rfl
  have HC : Calls Tryz.prog 177 #[.slice (some ⟨q, 0, none⟩) ks.length kc, .func (.func 178) #[] #[.pointer (some ⟨w.heap.size, 0, none⟩)]] (w.alloc (.cells #[.slice A n c] 64)) fun e w' => e = .returned (.bool (!ks.all (hasK rs))) ∧ Below (w.alloc (.cells #[.slice A n c] 64)).heap.size (w.alloc (.cells #[.slice A n c] 64)) w' := by
    clear hr hk hal hmf
    generalize ks.all (hasK rs) = P at *
    generalize ks.length = N at *
    go_enter Tryz.func177, Tryz.ntmps177
    go_wp2_with fail
    refine HI.out.mono ?_
    rintro e w2 ⟨i, rfl, hi, hB⟩
    have HB := Lib.hid hB
    have HIi := Lib.hid hi
    clear hB hi
    go_wp2
    go_ret
    exact ⟨by rw [← HIi.out]; rfl, HB.out⟩
  have HCC := Lib.hid HC
  clear HC hr HI hk hal
  generalize ks.all (hasK rs) = P at *
  generalize ks.length = N at *
  cases P
  · go_enter Tryz.func123, Tryz.ntmps123
    go_wp2_with fail
    refine HCC.out.mono ?_
    rintro e w2 ⟨rfl, hB⟩
    have HB2 := Lib.hid (HB.out.trans (hB.mono HB.out.size))
    clear hB
    go_wp2
    go_ret
    exact ⟨rfl, HB2.out⟩
  · go_enter Tryz.func123, Tryz.ntmps123
    go_wp2_with fail
    refine HCC.out.mono ?_
    rintro e w2 ⟨rfl, hB⟩
    have HB2 := Lib.hid (HB.out.trans (hB.mono HB.out.size))
    clear hB
    go_wp2
    go_ret
    exact ⟨rfl, HB2.out⟩

/-! A body's attributes. -/
section
variable {A0 : Option Addr} {c0 : Nat}
theorem skipS (w : World) (g : Nat) (l : List Int) (s : CS) (k : Int) (h : CurS A0 c0 w g l s) :
    Calls Tryz.prog 112 #[.pointer (some ⟨g, 0, none⟩), .int .i64 k] w fun e w' => e = .returned (.tuple #[]) ∧ CurS A0 c0 w' g l (tS l s k) ∧ w.grownBy w' (some g) := by
  have H := Lib.hid h
  clear h
  go_enter Tryz.func112, Tryz.ntmps112
  go_wp2_with fail
  refine (pass_isX w g l s.1 s.2 k H.out).mono ?_
  rintro e w' ⟨A, c, rfl, hr, hc, ho⟩
  have H2 := Lib.hid hc
  have H3 := Lib.hid ho
  clear hr hc ho
  go_wp2
  go_end0
  exact ⟨rfl, H2.out, H3.out⟩
end
def SplitP (w : World) (l : List Int) (e : Ending) (w' : World) : Prop := Below w.heap.size w w' ∧ match rawsB l with
  | none => e = .returned (.tuple #[.slice none 0 0, .bool false])
  | some rs => ∃ v, e = .returned (.tuple #[v, .bool true]) ∧ OwnR w.heap.size w' v rs
theorem u16_bd {l : List Int} (ho : Oct l) (s : CS) : 0 ≤ nV l s 2 ∧ nV l s 2 < 65536 := nV_bd ho s 2
set_option maxHeartbeats 2000000 in
theorem split7_is (w : World) (A : Option Addr) (n c : Nat) (l : List Int) (hr : Rd w w.heap.size A n l) (hm : n ≤ 1000000000000) : Calls Tryz.prog 61 #[.slice A n c] w (SplitP w l) := by
  have HR := Lib.hid hr
  have HO := Lib.hid hr.oct
  have hln : l.length = n := hr.len
  have HCur := Lib.hid (rawsB_cur l hr.oct)
  have HD : Hid (sq1 l = nS l (0, 0) 2 ∧ sq2 l = tS l (sq1 l) (nV l (0, 0) 2) ∧ sq3 l = nS l (sq2 l) 2 ∧ spV7 l = tV l (sq3 l) (nV l (sq2 l) 2) ∧ sq4 l = tS l (sq3 l) (nV l (sq2 l) 2)) := Lib.hid ⟨rfl, rfl, rfl, rfl, rfl⟩
  clear hr
  go_enter Tryz.func61, Tryz.ntmps61
  go_wp2_with fail
  refine (new_isX _ A n c l HR.out (by omega)).mono ?_
  rintro e w1 ⟨g, A0, c0, rfl, hg, hcx, _, hB1⟩
  have H1 : Hid (CurS A0 c0 w1 g l (0, 0)) := Lib.hid hcx
  have HB1 := Lib.hid hB1
  clear hcx hB1 HR
  go_wp2_with fail
  refine (numS w1 g l (0, 0) 2 H1.out).mono ?_
  rintro e w2 ⟨rfl, hC, hG⟩
  have H2 := Lib.hid hC
  have HG2 := Lib.hid hG
  obtain ⟨b0, b1⟩ := u16_bd HO.out (0, 0)
  rw [← HD.out.1] at H2
  have HD2 := Lib.hid HD.out.2.1
  generalize nV l (0, 0) 2 = x1 at *
  generalize hs1 : sq1 l = s1 at *
  clear hC hG H1 hs1
  go_wp2_with fail
  refine (skipS w2 g l s1 x1 H2.out).mono ?_
  rintro e w3 ⟨rfl, hC, hG⟩
  have H3 := Lib.hid hC
  have HG3 := Lib.hid (only_trans HG2.out hG)
  rw [← HD2.out] at H3
  have HD3 := Lib.hid HD.out.2.2.1
  have HD4 := Lib.hid HD.out.2.2.2
  generalize hs2 : sq2 l = s2 at *
  clear hC hG H2 HG2 HD2 hs2 b0 b1 HD
  go_wp2_with fail
  refine (numS w3 g l s2 2 H3.out).mono ?_
  rintro e w4 ⟨rfl, hC, hG⟩
  have H4 := Lib.hid hC
  have HG4 := Lib.hid (only_trans HG3.out hG)
  obtain ⟨b0, b1⟩ := u16_bd HO.out s2
  rw [← HD3.out] at H4
  generalize nV l s2 2 = x2 at *
  generalize hs3 : sq3 l = s3 at *
  clear hC hG H3 HG3 hs3 HD3
  go_wp2_with fail
  refine (takeS w4 g l s3 x2 H4.out).mono ?_
  rintro e w5 ⟨A5, rfl, hN5, hC, hG⟩
  have H5 := Lib.hid hC
  have HG5 := Lib.hid (only_trans HG4.out hG)
  have HR5 := Lib.hid hN5.rd
  have hl5 : (tV l s3 x2).length ≤ l.length := stepTook_len _ _ _ _
  rw [← HD4.out.2] at H5
  rw [← HD4.out.1] at HR5 hl5
  rw [← HD4.out.1]
  have hB5 : Below w.heap.size w w5 := below_only HB1.out HG5.out HB1.out.size (fun j e => by injection e with e; omega)
  have HB5 := Lib.hid hB5
  generalize hv5 : spV7 l = v5 at *
  generalize hs4 : sq4 l = s4 at *
  clear hC hG H4 HG4 hN5 hB5 HG5 HD4 hs4 hv5
  go_wp2_with fail
  refine (err_is _ g l _ _ H5.out.toIsCurT).mono ?_
  rintro e w6 ⟨rfl, rfl⟩
  rcases HCur.out with ⟨e1, he, hne, hno⟩ | ⟨he, hsp⟩
  · have HEnd : Hid (SplitP w l (.returned (.tuple #[.slice none 0 0, .bool false])) w5) := Lib.hid ⟨HB5.out, by rw [hno]⟩
    rw [he]
    have e0 : (e1 != 0) = true := by simpa using hne
    clear he hne hno HCur
    go_wp2
    go_ret2
    exact HEnd.out
  · have HSp := Lib.hid hsp
    rw [he]
    clear he hsp HCur
    go_wp2_with fail
    refine (split_is w5 A5 _ _ v5 HR5.out (by omega)).mono ?_
    rintro e w7 ⟨hB7, hp⟩
    have HB7 := Lib.hid (HB5.out.trans (hB7.mono HB5.out.size))
    have hs7 := HB5.out.size
    cases hsv : split v5 with
    | none =>
      rw [hsv] at hp
      simp only at hp
      subst hp
      have HEnd : Hid (SplitP w l (.returned (.tuple #[.slice none 0 0, .bool false])) w7) := Lib.hid ⟨HB7.out, by rw [HSp.out, hsv]⟩
      clear hB7 hsv
      go_wp2
      go_ret2
      exact HEnd.out
    | some rs =>
      rw [hsv] at hp
      simp only at hp
      obtain ⟨v, rfl, ho⟩ := hp
      have HEnd : Hid (SplitP w l (.returned (.tuple #[v, .bool true])) w7) := Lib.hid ⟨HB7.out, by rw [HSp.out, hsv]; exact ⟨v, rfl, ho.low hs7⟩⟩
      clear hB7 hsv ho
      go_wp2
      go_ret2
      exact HEnd.out
end Go.Proofs.YtdgoeibfggjbmaaGreatDoor
namespace Go.Proofs.YtdgoeibfggjbmaaGreatDoor
open Go.RowKit
set_option maxRecDepth 100000
set_option linter.unusedSimpArgs false
set_option linter.unusedVariables false

section
variable {A0 : Option Addr} {c0 : Nat}
theorem rfam_is (w : World) (g : Nat) (l : List Int) (s : CS) (h : CurS A0 c0 w g l s) :
    Calls Tryz.prog 119 #[.pointer (some ⟨g, 0, none⟩)] w fun e w' => e = .returned (.bool (decide (nV l s 2 = 25) && decide (nV l (nS l s 2) 1 = 70))) ∧ CurS A0 c0 w' g l (nS l (nS l s 2) 1) ∧ w.grownBy w' (some g) := by
  have H := Lib.hid h
  have HN1 := Lib.hid (numS w g l s 2 h)
  have HN2 := Lib.hid (fun W (h : CurS A0 c0 W g l (nS l s 2)) => numS W g l (nS l s 2) 1 h)
  clear h
  generalize nV l s 2 = k1 at *
  generalize nS l s 2 = s1 at *
  generalize nV l s1 1 = k2 at *
  generalize nS l s1 1 = s2 at *
  by_cases e1 : k1 = 25
  · by_cases e2 : k2 = 70
    · have q1 : (k1 == 25) = true := by simpa using e1
      have q2 : (k2 == 70) = true := by simpa using e2
      have HE : Hid ((decide (k1 = 25) && decide (k2 = 70)) = true) := Lib.hid (by rw [decide_eq_true e1, decide_eq_true e2]; rfl)
      clear e1 e2
      go_enter Tryz.func119, Tryz.ntmps119
      go_wp2_with fail
      refine HN1.out.mono ?_
      rintro e w1 ⟨rfl, hC, hG⟩
      have H1 := Lib.hid hC
      have HG1 := Lib.hid hG
      clear hC hG
      go_wp2_with fail
      refine (HN2.out w1 H1.out).mono ?_
      rintro e w2 ⟨rfl, hC, hG⟩
      have H2 := Lib.hid hC
      have HG2 := Lib.hid (only_trans HG1.out hG)
      clear hC hG
      go_wp2
      go_ret
      exact ⟨by rw [HE.out]; rfl, H2.out, HG2.out⟩
    · have q1 : (k1 == 25) = true := by simpa using e1
      have q2 : (k2 == 70) = false := by simpa using e2
      have HE : Hid ((decide (k1 = 25) && decide (k2 = 70)) = false) := Lib.hid (by rw [decide_eq_true e1, decide_eq_false e2]; rfl)
      clear e1 e2
      go_enter Tryz.func119, Tryz.ntmps119
      go_wp2_with fail
      refine HN1.out.mono ?_
      rintro e w1 ⟨rfl, hC, hG⟩
      have H1 := Lib.hid hC
      have HG1 := Lib.hid hG
      clear hC hG
      go_wp2_with fail
      refine (HN2.out w1 H1.out).mono ?_
      rintro e w2 ⟨rfl, hC, hG⟩
      have H2 := Lib.hid hC
      have HG2 := Lib.hid (only_trans HG1.out hG)
      clear hC hG
      go_wp2
      go_ret
      exact ⟨by rw [HE.out]; rfl, H2.out, HG2.out⟩
  · have q1 : (k1 == 25) = false := by simpa using e1
    have HE : Hid ((decide (k1 = 25) && decide (k2 = 70)) = false) := Lib.hid (by rw [decide_eq_false e1]; rfl)
    clear e1
    go_enter Tryz.func119, Tryz.ntmps119
    go_wp2_with fail
    refine HN1.out.mono ?_
    rintro e w1 ⟨rfl, hC, hG⟩
    have H1 := Lib.hid hC
    have HG1 := Lib.hid hG
    clear hC hG
    go_wp2_with fail
    refine (HN2.out w1 H1.out).mono ?_
    rintro e w2 ⟨rfl, hC, hG⟩
    have H2 := Lib.hid hC
    have HG2 := Lib.hid (only_trans HG1.out hG)
    clear hC hG
    go_wp2
    go_ret
    exact ⟨by rw [HE.out]; rfl, H2.out, HG2.out⟩
end

/-! The next hop. -/
/-- The address, whether it is as it must be, where the cursor stands. -/
def nxM (l : List Int) (s : CS) : (Bool × List Int) × Bool × CS :=
  if nV l s 1 = 4 then ((false, four (nV l (nS l s 1) 4)), decide ((tS l (nS l (nS l s 1) 4) 1).2 = 0), tS l (nS l (nS l s 1) 4) 1)
  else if nV l s 1 = 16 then ((true, pad (tV l (nS l s 1) 16)), decide ((tS l (tS l (nS l s 1) 16) 1).2 = 0), tS l (tS l (nS l s 1) 16) 1)
  else ((false, z16), false, nS l s 1)
def NextP (A0 : Option Addr) (c0 : Nat) (w : World) (g : Nat) (l : List Int) (m : (Bool × List Int) × Bool × CS) (e : Ending) (w' : World) : Prop :=
  e = .returned (.tuple #[.agg (ipc m.1.1 m.1.2).toArray, .bool m.2.1]) ∧ CurS A0 c0 w' g l m.2.2 ∧ w.grownBy w' (some g)
theorem ip17 : (Tryz.prog.info? 27).map (·.size) = some 17 := by kernel_rfl
/-- The end of readNext: the address is told. -/
theorem next_end {A0 : Option Addr} {c0 : Nat} {w W : World} {g : Nat} {l : List Int} {s : CS} {v : Bool} {xs : List Int} (h : IpW A0 c0 w W g l s v xs) (hx : xs.length = 16) (b : Bool) (hb : decide (s.2 = 0) = b) :
    NextP A0 c0 w g l ((v, xs), decide (s.2 = 0), s) (.returned (.tuple #[.agg (ipc v xs).toArray, .bool b])) (W.setRow w.heap.size (ipc v xs).toArray) := by
  subst hb
  have hl := h.lt
  refine ⟨rfl, h.cu.above (below_setRow _ _ _ (Nat.le_refl _)) hl, ?_⟩
  exact only_then h.gr (below_setRow W w.heap.size _ (Nat.le_refl _)) (Nat.le_refl _)
-- BEGIN GENERATED
theorem Blk.setRow_otherN {w : World} {g g' : Nat} {t : TypeId} {cs : Array Value} (h : Blk w g t cs) (hne : g ≠ g') (cs' : Array Value) : Blk (w.setRow g' cs') g t cs := (setRow_other w g' g _ hne).trans h
theorem four16 (n : Int) : (four n).length = 16 := by simp [four]
section
variable {A0 : Option Addr} {c0 : Nat}
theorem ipw_new (w : World) (g : Nat) (l : List Int) (s : CS) (h : CurS A0 c0 w g l s) : IpW A0 c0 w ((w.alloc (.cells (ipc false z16).toArray 27)).alloc (.cells (ipc false z16).toArray 27)) g l s false z16 := by
  have hlt := h.toIsCurT.lt
  have b1 : Blk ((w.alloc (.cells (ipc false z16).toArray 27)).alloc (.cells (ipc false z16).toArray 27)) (w.heap.size + 1) 27 (ipc false z16).toArray := by simpa using Blk.new (w.alloc (.cells (ipc false z16).toArray 27)) 27 (ipc false z16).toArray
  have hb : Below w.heap.size w ((w.alloc (.cells (ipc false z16).toArray 27)).alloc (.cells (ipc false z16).toArray 27)) := ((Below.refl w.heap.size w).alloc (Nat.le_refl _) _).alloc (by simp) _
  exact ⟨⟨_, (Blk.new w 27 _).alloc _, by rfl⟩, b1, h.above hb hlt, only_of_below hb _, hlt⟩
theorem IpW.put {w W : World} {g : Nat} {l : List Int} {s : CS} {v v2 : Bool} {xs ys : List Int} (h : IpW A0 c0 w W g l s v xs) : IpW A0 c0 w (W.setRow (w.heap.size + 1) (ipc v2 ys).toArray) g l s v2 ys := by
  obtain ⟨Z, hZ, hZs⟩ := h.res
  have hl := h.lt
  have hb := below_setRow W (w.heap.size + 1) (ipc v2 ys).toArray (B := w.heap.size) (by omega)
  exact ⟨⟨Z, hZ.setRow_otherN (by omega) _, hZs⟩, h.a.setRow _, h.cu.above hb hl, only_then h.gr hb (Nat.le_refl _), hl⟩
theorem IpW.flag {w W : World} {g : Nat} {l : List Int} {s : CS} {v : Bool} {xs : List Int} (h : IpW A0 c0 w W g l s v xs) : IpW A0 c0 w (W.setCell ⟨w.heap.size + 1, 0, none⟩ (.bool true)) g l s true xs := by
  obtain ⟨Z, hZ, hZs⟩ := h.res
  have hl := h.lt
  have hb : Below w.heap.size W (W.setCell ⟨w.heap.size + 1, 0, none⟩ (.bool true)) := (Below.refl _ _).setCell (by show w.heap.size ≤ w.heap.size + 1; omega) _
  have ha := h.a.set_ 0 (.bool true)
  rw [show (ipc v xs).toArray.setIfInBounds 0 (.bool true) = (ipc true xs).toArray from rfl] at ha
  exact ⟨⟨Z, hZ.far (p := ⟨w.heap.size + 1, 0, none⟩) (by show w.heap.size ≠ w.heap.size + 1; omega) _, hZs⟩, ha, h.cu.above hb hl, only_then h.gr hb (Nat.le_refl _), hl⟩
set_option maxHeartbeats 4000000 in
theorem rnext_is (w : World) (g : Nat) (l : List Int) (s : CS) (h : CurS A0 c0 w g l s) : Calls Tryz.prog 120 #[.pointer (some ⟨g, 0, none⟩)] w (NextP A0 c0 w g l (nxM l s)) := by
  have HI0 := Lib.hid (ipw_new w g l s h)
  have HOct := Lib.hid h.oct
  have HZ16 : Hid (z16.length = 16) := Lib.hid rfl
  have HM : Hid (nxM l s = if nV l s 1 = 4 then ((false, four (nV l (nS l s 1) 4)), decide ((tS l (nS l (nS l s 1) 4) 1).2 = 0), tS l (nS l (nS l s 1) 4) 1)
    else if nV l s 1 = 16 then ((true, pad (tV l (nS l s 1) 16)), decide ((tS l (tS l (nS l s 1) 16) 1).2 = 0), tS l (tS l (nS l s 1) 16) 1)
    else ((false, z16), false, nS l s 1)) := Lib.hid rfl
  have HN1 := Lib.hid (fun W (h : CurS A0 c0 W g l s) => numS W g l s 1 h)
  have hs16 : ∀ W, (Instr.sliceAt 25 (.pointer (some ⟨w.heap.size + 1, 1, none⟩)) none none none).run Tryz.prog W = .ok (.slice (some ⟨w.heap.size + 1, 1, none⟩) 16 16) W := fun W => by go_simp
  clear h
  generalize nxM l s = M at *
  generalize nV l s 1 = k at *
  generalize nS l s 1 = s1 at *
  rcases (show k = 4 ∨ ((¬ k = 4 ∧ k = 16) ∨ (¬ k = 4 ∧ ¬ k = 16)) by omega) with e | ⟨e, e2⟩ | ⟨e, e2⟩
  · have q1 : (k == 4) = true := by simpa using e
    rw [if_pos e] at HM
    have HMM := HM.out
    subst HMM
    clear e HM
    go_enter Tryz.func120, Tryz.ntmps120
    go_wp2_with fail
    refine (HN1.out _ HI0.out.cu).mono ?_
    rintro e W1 ⟨rfl, hC, hG⟩
    have HI1 := Lib.hid (HI0.out.step hC hG)
    clear hC hG HI0
    go_wp2_with fail
    refine (numS W1 g l s1 4 HI1.out.cu).mono ?_
    rintro e W2 ⟨rfl, hC, hG⟩
    have HI2 := Lib.hid (HI1.out.step hC hG)
    have hb := nV_bd HOct.out s1 4
    have hb : 0 ≤ nV l s1 4 ∧ nV l s1 4 < 4294967296 := hb
    clear hC hG HI1
    generalize nV l s1 4 = n4 at *
    generalize nS l s1 4 = s2 at *
    obtain ⟨b0, b1⟩ := hb
    have hw4 : n4 % 4294967296 = n4 := Int.emod_eq_of_lt b0 b1
    go_wp2_with fail
    refine (four_is W2 n4 b0 b1).mono ?_
    rintro e W3 ⟨rfl, hB⟩
    have HI2 := Lib.hid (HI2.out.below hB)
    have HXl : Hid ((four n4).length = 16) := Lib.hid (four16 n4)
    clear hB hw4
    go_wp2_with (first
      | (refine ip_store_to rfl _ _ rfl (w.heap.size + 1) false (four n4) HXl.out rfl rfl 27 _ HI2.out.a rfl (fun W => IpW A0 c0 w W g l s2 false (four n4)) (HI2.out.put) ?_; intro W3 hW3; have HI3 := Lib.hid hW3; clear hW3)
      | fail)
    go_wp2_with fail
    refine (skipS _ g l s2 1 HI3.out.cu).mono ?_
    rintro e W4 ⟨rfl, hC, hG⟩
    have HI4 := Lib.hid (HI3.out.step hC hG)
    clear hC hG HI3
    generalize tS l s2 1 = s9 at *
    go_wp2_with fail
    refine wp_region_held_drew (S := fun W => IpW A0 c0 w W g l s9 false (four n4)) (by kernel_rfl) (HI4.out.below (bl_drew _)) (fun hS => ?_)
    refine wpAnyH_take (i := 0) (oi := ⟨some 24, _, _, _, _, _⟩) rfl (by kernel_rfl) (by kernel_rfl) (by kernel_rfl) (fun _ _ _ h => h) (yieldsIf_load_mid (by rfl) 27 _ rfl _ _ rfl (ipc false (four n4)) _ (fun wq hq => blk_range hq.a) Tryz.underlying27 rfl (by rw [ip17, ipc_len, HXl.out])) hS ?_
    try simp only [Act.put, List.setIfInBounds_toArray, List.set_cons_zero, List.set_cons_succ]
    refine wpAnyH_take (i := 1) (oi := ⟨some 25, _, _, _, _, _⟩) (v := ?_) rfl (by kernel_rfl) (by kernel_rfl) (by kernel_rfl) (fun _ _ _ h => h) (Or.inl ⟨by rfl, ?_⟩) hS ?_
    rotate_left
    · intro wq hq
      first | (go_simp; done) | (go_simp; rfl)
    try simp only [Act.put, List.setIfInBounds_toArray, List.set_cons_zero, List.set_cons_succ]
    generalize W4.drew = W5 at *
    clear HI4
    refine wpAnyH_ready (rs := [2]) (by kernel_rfl) (by simp) ?_
    refine AllReadyH.cons (o := ⟨some 26, _, _, _, _, _⟩) rfl (fun K hK => ?_) AllReadyH.nil
    rw [if_pos (by rfl)]
    go_wp2_with fail
    refine (err_is W5 g l _ _ hS.cu.toIsCurT).mono ?_
    rintro e W6 ⟨rfl, rfl⟩
    refine hK.out _ _ (hS) (fun hS => ?_)
    clear hK K
    try simp only [Act.put, List.setIfInBounds_toArray, List.set_cons_zero, List.set_cons_succ]
    by_cases he : s9.2 = 0
    · have q0 : (s9.2 == 0) = true := by simpa using he
      have HEnd := Lib.hid (next_end hS HXl.out true (decide_eq_true he))
      clear he
      refine wpAnyH_take (i := 3) (oi := ⟨some 27, _, _, _, _, _⟩) (v := ?_) rfl (by kernel_rfl) (by kernel_rfl) (by kernel_rfl) (fun _ _ _ h => h) (Or.inl ⟨by rfl, ?_⟩) hS ?_
      rotate_left
      · intro wq hq
        first | (go_simp; done) | (go_simp; rfl)
      try simp only [Act.put, List.setIfInBounds_toArray, List.set_cons_zero, List.set_cons_succ]
      obtain ⟨Z, hZ, hZs⟩ := hS.res
      refine wpAnyH_ready (rs := [4]) (by kernel_rfl) (by simp) ?_
      refine AllReadyH.cons (o := ⟨none, _, _, _, _, _⟩) rfl (fun K hK => ?_) AllReadyH.nil
      rw [if_pos (by rfl)]
      refine wp_store_row 27 _ _ rfl w.heap.size (ipc false (four n4)).toArray rfl rfl 27 Z hZ (by rw [ip17]; simp [HXl.out]) (by rw [hZs]; simp [HXl.out]) (all_oneCell_toArray (one_ipcN _ _)) ?_
      have HZ : Hid (Blk (W5.setRow w.heap.size (ipc false (four n4)).toArray) w.heap.size 27 (ipc false (four n4)).toArray) := Lib.hid (hZ.setRow _)
      have hSn : IpW A0 c0 w (W5.setRow w.heap.size (ipc false (four n4)).toArray) g l s9 false (four n4) := ⟨⟨_, HZ.out, by simp [HXl.out]⟩, hS.a.setRow_otherN (by omega) _, hS.cu.above (below_setRow _ _ _ (Nat.le_refl _)) hS.lt, only_then hS.gr (below_setRow W5 w.heap.size _ (Nat.le_refl _)) (Nat.le_refl _), hS.lt⟩
      refine hK.out _ _ (hSn) (fun hS => ?_)
      clear hK K
      try simp only [Act.put, List.setIfInBounds_toArray, List.set_cons_zero, List.set_cons_succ]
      refine wpAnyH_take (i := 5) (oi := ⟨some 3, _, _, _, _, _⟩) (v := ?_) rfl (by kernel_rfl) (by kernel_rfl) (by kernel_rfl) (fun _ _ _ h => h) (Or.inl ⟨by rfl, ?_⟩) hS ?_
      rotate_left
      · intro wq hq
        first | (go_simp; done) | (go_simp; rfl)
      try simp only [Act.put, List.setIfInBounds_toArray, List.set_cons_zero, List.set_cons_succ]
      refine wpAnyH_done (by kernel_rfl) ?_ _
      clear hS hSn hZ hZs
      go_wp2
      try simp only [Exit.inBlock, Exit.then]
      exact bodyPost_ret (results_cell_slot rfl _ _ w.heap.size 27 _ _ (.bool true) rfl rfl HZ.out Tryz.underlying27 rfl (by rw [ip17]; simp [HXl.out])) rfl HEnd.out
    · have q0 : (s9.2 == 0) = false := by simpa using he
      have HEnd := Lib.hid (next_end hS HXl.out false (decide_eq_false he))
      clear he
      refine wpAnyH_take (i := 3) (oi := ⟨some 27, _, _, _, _, _⟩) (v := ?_) rfl (by kernel_rfl) (by kernel_rfl) (by kernel_rfl) (fun _ _ _ h => h) (Or.inl ⟨by rfl, ?_⟩) hS ?_
      rotate_left
      · intro wq hq
        first | (go_simp; done) | (go_simp; rfl)
      try simp only [Act.put, List.setIfInBounds_toArray, List.set_cons_zero, List.set_cons_succ]
      obtain ⟨Z, hZ, hZs⟩ := hS.res
      refine wpAnyH_ready (rs := [4]) (by kernel_rfl) (by simp) ?_
      refine AllReadyH.cons (o := ⟨none, _, _, _, _, _⟩) rfl (fun K hK => ?_) AllReadyH.nil
      rw [if_pos (by rfl)]
      refine wp_store_row 27 _ _ rfl w.heap.size (ipc false (four n4)).toArray rfl rfl 27 Z hZ (by rw [ip17]; simp [HXl.out]) (by rw [hZs]; simp [HXl.out]) (all_oneCell_toArray (one_ipcN _ _)) ?_
      have HZ : Hid (Blk (W5.setRow w.heap.size (ipc false (four n4)).toArray) w.heap.size 27 (ipc false (four n4)).toArray) := Lib.hid (hZ.setRow _)
      have hSn : IpW A0 c0 w (W5.setRow w.heap.size (ipc false (four n4)).toArray) g l s9 false (four n4) := ⟨⟨_, HZ.out, by simp [HXl.out]⟩, hS.a.setRow_otherN (by omega) _, hS.cu.above (below_setRow _ _ _ (Nat.le_refl _)) hS.lt, only_then hS.gr (below_setRow W5 w.heap.size _ (Nat.le_refl _)) (Nat.le_refl _), hS.lt⟩
      refine hK.out _ _ (hSn) (fun hS => ?_)
      clear hK K
      try simp only [Act.put, List.setIfInBounds_toArray, List.set_cons_zero, List.set_cons_succ]
      refine wpAnyH_take (i := 5) (oi := ⟨some 3, _, _, _, _, _⟩) (v := ?_) rfl (by kernel_rfl) (by kernel_rfl) (by kernel_rfl) (fun _ _ _ h => h) (Or.inl ⟨by rfl, ?_⟩) hS ?_
      rotate_left
      · intro wq hq
        first | (go_simp; done) | (go_simp; rfl)
      try simp only [Act.put, List.setIfInBounds_toArray, List.set_cons_zero, List.set_cons_succ]
      refine wpAnyH_done (by kernel_rfl) ?_ _
      clear hS hSn hZ hZs
      go_wp2
      try simp only [Exit.inBlock, Exit.then]
      exact bodyPost_ret (results_cell_slot rfl _ _ w.heap.size 27 _ _ (.bool false) rfl rfl HZ.out Tryz.underlying27 rfl (by rw [ip17]; simp [HXl.out])) rfl HEnd.out
  · have q1 : (k == 4) = false := by simpa using e
    have q2 : (k == 16) = true := by simpa using e2
    rw [if_neg e, if_pos e2] at HM
    have HMM := HM.out
    subst HMM
    clear e e2 HM
    go_enter Tryz.func120, Tryz.ntmps120
    go_wp2_with fail
    refine (HN1.out _ HI0.out.cu).mono ?_
    rintro e W1 ⟨rfl, hC, hG⟩
    have HI1 := Lib.hid (HI0.out.step hC hG)
    have f0 := HI1.out.a.frozen 0
    have c0' := HI1.out.a.cell 0
    clear hC hG HI0
    go_wp2_with fail
    have HI2 := Lib.hid (HI1.out.flag.below (bl_drew _))
    clear HI1
    refine wp_region_held_drew (S := fun _ => True) (by kernel_rfl) (trivial) (fun hS => ?_)
    refine wpAnyH_take (i := 0) (oi := ⟨some 17, _, _, _, _, _⟩) (v := ?_) rfl (by kernel_rfl) (by kernel_rfl) (by kernel_rfl) (fun _ _ _ h => h) (Or.inl ⟨by rfl, ?_⟩) hS ?_
    rotate_left
    · intro wq hq
      first | (go_simp; done) | (go_simp; rfl)
    try simp only [Act.put, List.setIfInBounds_toArray, List.set_cons_zero, List.set_cons_succ]
    refine wpAnyH_take (i := 1) (oi := ⟨some 18, _, _, _, _, _⟩) (v := ?_) rfl (by kernel_rfl) (by kernel_rfl) (by kernel_rfl) (fun _ _ _ h => h) (Or.inl ⟨by rfl, ?_⟩) hS ?_
    rotate_left
    · intro wq hq
      first | (go_simp; done) | (go_simp; rfl)
    try simp only [Act.put, List.setIfInBounds_toArray, List.set_cons_zero, List.set_cons_succ]
    refine wpAnyH_take (i := 2) (oi := ⟨some 19, _, _, _, _, _⟩) (v := ?_) rfl (by kernel_rfl) (by kernel_rfl) (by kernel_rfl) (fun _ _ _ h => h) (Or.inl ⟨by rfl, ?_⟩) hS ?_
    rotate_left
    · intro wq hq
      first | (go_simp; done) | (go_simp; rfl)
    try simp only [Act.put, List.setIfInBounds_toArray, List.set_cons_zero, List.set_cons_succ]
    refine wpAnyH_ready (rs := [3]) (by kernel_rfl) (by simp) ?_
    refine AllReadyH.cons (o := ⟨some 20, _, _, _, _, _⟩) rfl (fun K hK => ?_) AllReadyH.nil
    rw [if_pos (by rfl)]
    go_wp2_with fail
    refine (takeS _ g l s1 16 HI2.out.cu).mono ?_
    rintro e w3 ⟨A3, rfl, hN3, hC3, hG3⟩
    have HD3 := Lib.hid (HI2.out.step hC3 hG3)
    clear hC3 hG3 HI2
    refine hK.out _ _ (trivial) (fun hS => ?_)
    clear hK K
    try simp only [Act.put, List.setIfInBounds_toArray, List.set_cons_zero, List.set_cons_succ]
    have hle : (tV l s1 16).length ≤ 16 := took_le l s1.1 s1.2 16
    have hoc : Oct (tV l s1 16) := took_oct HOct.out _ _ _
    generalize tV l s1 16 = xs at *
    generalize tS l s1 16 = s2 at *
    have hrd := hN3.rd
    have hsrc : 0 < (u8s xs).length → (some ⟨w.heap.size + 1, 1, none⟩ : Option Addr) = some ⟨w.heap.size + 1, 1, none⟩ ∧ ∃ ad, A3 = some ad ∧ ∀ j v, (u8s xs)[j]? = some v → w3.cell? (ad.add j) = some v := fun hp => by
      obtain ⟨b, off, rfl, _, hc⟩ := hrd.at_ (by simpa using hp)
      exact ⟨rfl, _, rfl, src_u8 rfl hc⟩
    obtain ⟨w4, hcp, hg4, hB4, hG4⟩ := copy_row (P := Tryz.prog) w3 38 38 3 5 Tryz.underlying38 size_byte (some ⟨w.heap.size + 1, 1, none⟩) A3 16 16 xs.length xs.length (w.heap.size + 1) 1 (ipc true z16) 27 HD3.out.a (u8s xs) (by rw [u8s_len]; exact (Nat.min_eq_left hle).symm) hsrc (by rw [u8s_len, ipc_len, HZ16.out]; omega) (one_u8s _)
    rw [splice_ip] at hg4
    have HI3 : Hid (IpW A0 c0 w w4 g l s2 true (pad xs)) := Lib.hid (by
      obtain ⟨Z, hZ, hs⟩ := HD3.out.res
      have hl := HD3.out.lt
      exact ⟨⟨Z, hZ.below hB4 (by omega), hs⟩, hg4, HD3.out.cu.above hB4 (by omega), only_then HD3.out.gr hB4 (by omega), hl⟩)
    have HXl : Hid ((pad xs).length = 16) := Lib.hid (pad_len hle)
    clear HD3 hsrc hrd hN3 hg4 hB4 hG4 hle hoc
    refine wpAnyH_ready (rs := [4]) (by kernel_rfl) (by simp) ?_
    refine AllReadyH.cons (o := ⟨some 21, _, _, _, _, _⟩) rfl (fun K hK => ?_) AllReadyH.nil
    rw [if_pos (by rfl)]
    go_wp2_with fail
    refine hK.out _ _ (trivial) (fun hS => ?_)
    clear hK K
    try simp only [Act.put, List.setIfInBounds_toArray, List.set_cons_zero, List.set_cons_succ]
    refine wpAnyH_done (by kernel_rfl) ?_ _
    clear hcp
    go_wp2_with fail
    refine (skipS _ g l s2 1 HI3.out.cu).mono ?_
    rintro e W4 ⟨rfl, hC, hG⟩
    have HI4 := Lib.hid (HI3.out.step hC hG)
    clear hC hG HI3
    generalize tS l s2 1 = s9 at *
    go_wp2_with fail
    refine wp_region_held_drew (S := fun W => IpW A0 c0 w W g l s9 true (pad xs)) (by kernel_rfl) (HI4.out.below (bl_drew _)) (fun hS => ?_)
    refine wpAnyH_take (i := 0) (oi := ⟨some 24, _, _, _, _, _⟩) rfl (by kernel_rfl) (by kernel_rfl) (by kernel_rfl) (fun _ _ _ h => h) (yieldsIf_load_mid (by rfl) 27 _ rfl _ _ rfl (ipc true (pad xs)) _ (fun wq hq => blk_range hq.a) Tryz.underlying27 rfl (by rw [ip17, ipc_len, HXl.out])) hS ?_
    try simp only [Act.put, List.setIfInBounds_toArray, List.set_cons_zero, List.set_cons_succ]
    refine wpAnyH_take (i := 1) (oi := ⟨some 25, _, _, _, _, _⟩) (v := ?_) rfl (by kernel_rfl) (by kernel_rfl) (by kernel_rfl) (fun _ _ _ h => h) (Or.inl ⟨by rfl, ?_⟩) hS ?_
    rotate_left
    · intro wq hq
      first | (go_simp; done) | (go_simp; rfl)
    try simp only [Act.put, List.setIfInBounds_toArray, List.set_cons_zero, List.set_cons_succ]
    generalize W4.drew = W5 at *
    clear HI4
    refine wpAnyH_ready (rs := [2]) (by kernel_rfl) (by simp) ?_
    refine AllReadyH.cons (o := ⟨some 26, _, _, _, _, _⟩) rfl (fun K hK => ?_) AllReadyH.nil
    rw [if_pos (by rfl)]
    go_wp2_with fail
    refine (err_is W5 g l _ _ hS.cu.toIsCurT).mono ?_
    rintro e W6 ⟨rfl, rfl⟩
    refine hK.out _ _ (hS) (fun hS => ?_)
    clear hK K
    try simp only [Act.put, List.setIfInBounds_toArray, List.set_cons_zero, List.set_cons_succ]
    by_cases he : s9.2 = 0
    · have q0 : (s9.2 == 0) = true := by simpa using he
      have HEnd := Lib.hid (next_end hS HXl.out true (decide_eq_true he))
      clear he
      refine wpAnyH_take (i := 3) (oi := ⟨some 27, _, _, _, _, _⟩) (v := ?_) rfl (by kernel_rfl) (by kernel_rfl) (by kernel_rfl) (fun _ _ _ h => h) (Or.inl ⟨by rfl, ?_⟩) hS ?_
      rotate_left
      · intro wq hq
        first | (go_simp; done) | (go_simp; rfl)
      try simp only [Act.put, List.setIfInBounds_toArray, List.set_cons_zero, List.set_cons_succ]
      obtain ⟨Z, hZ, hZs⟩ := hS.res
      refine wpAnyH_ready (rs := [4]) (by kernel_rfl) (by simp) ?_
      refine AllReadyH.cons (o := ⟨none, _, _, _, _, _⟩) rfl (fun K hK => ?_) AllReadyH.nil
      rw [if_pos (by rfl)]
      refine wp_store_row 27 _ _ rfl w.heap.size (ipc true (pad xs)).toArray rfl rfl 27 Z hZ (by rw [ip17]; simp [HXl.out]) (by rw [hZs]; simp [HXl.out]) (all_oneCell_toArray (one_ipcN _ _)) ?_
      have HZ : Hid (Blk (W5.setRow w.heap.size (ipc true (pad xs)).toArray) w.heap.size 27 (ipc true (pad xs)).toArray) := Lib.hid (hZ.setRow _)
      have hSn : IpW A0 c0 w (W5.setRow w.heap.size (ipc true (pad xs)).toArray) g l s9 true (pad xs) := ⟨⟨_, HZ.out, by simp [HXl.out]⟩, hS.a.setRow_otherN (by omega) _, hS.cu.above (below_setRow _ _ _ (Nat.le_refl _)) hS.lt, only_then hS.gr (below_setRow W5 w.heap.size _ (Nat.le_refl _)) (Nat.le_refl _), hS.lt⟩
      refine hK.out _ _ (hSn) (fun hS => ?_)
      clear hK K
      try simp only [Act.put, List.setIfInBounds_toArray, List.set_cons_zero, List.set_cons_succ]
      refine wpAnyH_take (i := 5) (oi := ⟨some 3, _, _, _, _, _⟩) (v := ?_) rfl (by kernel_rfl) (by kernel_rfl) (by kernel_rfl) (fun _ _ _ h => h) (Or.inl ⟨by rfl, ?_⟩) hS ?_
      rotate_left
      · intro wq hq
        first | (go_simp; done) | (go_simp; rfl)
      try simp only [Act.put, List.setIfInBounds_toArray, List.set_cons_zero, List.set_cons_succ]
      refine wpAnyH_done (by kernel_rfl) ?_ _
      clear hS hSn hZ hZs
      go_wp2
      try simp only [Exit.inBlock, Exit.then]
      exact bodyPost_ret (results_cell_slot rfl _ _ w.heap.size 27 _ _ (.bool true) rfl rfl HZ.out Tryz.underlying27 rfl (by rw [ip17]; simp [HXl.out])) rfl HEnd.out
    · have q0 : (s9.2 == 0) = false := by simpa using he
      have HEnd := Lib.hid (next_end hS HXl.out false (decide_eq_false he))
      clear he
      refine wpAnyH_take (i := 3) (oi := ⟨some 27, _, _, _, _, _⟩) (v := ?_) rfl (by kernel_rfl) (by kernel_rfl) (by kernel_rfl) (fun _ _ _ h => h) (Or.inl ⟨by rfl, ?_⟩) hS ?_
      rotate_left
      · intro wq hq
        first | (go_simp; done) | (go_simp; rfl)
      try simp only [Act.put, List.setIfInBounds_toArray, List.set_cons_zero, List.set_cons_succ]
      obtain ⟨Z, hZ, hZs⟩ := hS.res
      refine wpAnyH_ready (rs := [4]) (by kernel_rfl) (by simp) ?_
      refine AllReadyH.cons (o := ⟨none, _, _, _, _, _⟩) rfl (fun K hK => ?_) AllReadyH.nil
      rw [if_pos (by rfl)]
      refine wp_store_row 27 _ _ rfl w.heap.size (ipc true (pad xs)).toArray rfl rfl 27 Z hZ (by rw [ip17]; simp [HXl.out]) (by rw [hZs]; simp [HXl.out]) (all_oneCell_toArray (one_ipcN _ _)) ?_
      have HZ : Hid (Blk (W5.setRow w.heap.size (ipc true (pad xs)).toArray) w.heap.size 27 (ipc true (pad xs)).toArray) := Lib.hid (hZ.setRow _)
      have hSn : IpW A0 c0 w (W5.setRow w.heap.size (ipc true (pad xs)).toArray) g l s9 true (pad xs) := ⟨⟨_, HZ.out, by simp [HXl.out]⟩, hS.a.setRow_otherN (by omega) _, hS.cu.above (below_setRow _ _ _ (Nat.le_refl _)) hS.lt, only_then hS.gr (below_setRow W5 w.heap.size _ (Nat.le_refl _)) (Nat.le_refl _), hS.lt⟩
      refine hK.out _ _ (hSn) (fun hS => ?_)
      clear hK K
      try simp only [Act.put, List.setIfInBounds_toArray, List.set_cons_zero, List.set_cons_succ]
      refine wpAnyH_take (i := 5) (oi := ⟨some 3, _, _, _, _, _⟩) (v := ?_) rfl (by kernel_rfl) (by kernel_rfl) (by kernel_rfl) (fun _ _ _ h => h) (Or.inl ⟨by rfl, ?_⟩) hS ?_
      rotate_left
      · intro wq hq
        first | (go_simp; done) | (go_simp; rfl)
      try simp only [Act.put, List.setIfInBounds_toArray, List.set_cons_zero, List.set_cons_succ]
      refine wpAnyH_done (by kernel_rfl) ?_ _
      clear hS hSn hZ hZs
      go_wp2
      try simp only [Exit.inBlock, Exit.then]
      exact bodyPost_ret (results_cell_slot rfl _ _ w.heap.size 27 _ _ (.bool false) rfl rfl HZ.out Tryz.underlying27 rfl (by rw [ip17]; simp [HXl.out])) rfl HEnd.out
  · have q1 : (k == 4) = false := by simpa using e
    have q2 : (k == 16) = false := by simpa using e2
    rw [if_neg e, if_neg e2] at HM
    have HMM := HM.out
    subst HMM
    clear e e2 HM
    go_enter Tryz.func120, Tryz.ntmps120
    go_wp2_with fail
    refine (HN1.out _ HI0.out.cu).mono ?_
    rintro e W1 ⟨rfl, hC, hG⟩
    have HI1 := Lib.hid (HI0.out.step hC hG)
    clear hC hG HI0
    obtain ⟨Z, hZ, hZs⟩ := HI1.out.res
    have HZ := Lib.hid hZ
    have HZs := Lib.hid hZs
    have HZ2 : Hid (Blk (W1.setRow w.heap.size (ipc false z16).toArray) w.heap.size 27 (ipc false z16).toArray) := Lib.hid (hZ.setRow _)
    have HEnd : Hid (NextP A0 c0 w g l ((false, z16), false, s1) (.returned (.tuple #[.agg (ipc false z16).toArray, .bool false])) (W1.setRow w.heap.size (ipc false z16).toArray)) := Lib.hid ⟨rfl, HI1.out.cu.above (below_setRow _ _ _ (Nat.le_refl _)) HI1.out.lt, only_then HI1.out.gr (below_setRow W1 w.heap.size _ (Nat.le_refl _)) (Nat.le_refl _)⟩
    clear hZ hZs
    go_wp2_with (first
      | (refine wpList_store_row rfl 27 _ _ rfl w.heap.size (ipc false z16).toArray rfl rfl 27 Z HZ.out (by rw [ip17]; rfl) (by rw [HZs.out]; rfl) (all_oneCell_toArray (one_ipcN _ _)) ?_)
      | fail)
    try simp only [Exit.inBlock, Exit.then]
    exact bodyPost_ret (results_cell_slot rfl _ _ w.heap.size 27 _ _ (.bool false) rfl rfl HZ2.out Tryz.underlying27 rfl (by rw [ip17]; rfl)) rfl HEnd.out
end
end Go.Proofs.YtdgoeibfggjbmaaGreatDoor
namespace Go.Proofs.YtdgoeibfggjbmaaGreatDoor
open Go.RowKit
set_option maxRecDepth 100000
set_option linter.unusedSimpArgs false
set_option linter.unusedVariables false

/-! What an attribute says, in the cursor's words. -/
theorem numOf_two (a b : Int) : numOf [a, b] = a * 256 + b := by simp [numOf]
theorem fam_cur (v : List Int) (ho : Oct v) :
    (v.length < 3 ∧ (nS v (nS v (0, 0) 2) 1).2 ≠ 0) ∨ (3 ≤ v.length ∧ nS v (nS v (0, 0) 2) 1 = (3, 0) ∧ (decide (nV v (0, 0) 2 = 25) && decide (nV v (nS v (0, 0) 2) 1 = 70)) = oursB v) := by
  by_cases h2 : v.length < 2
  · left
    have ⟨a1, a2⟩ := nS_no (l := v) (p := 0) (k := 2) (by omega) (by omega) (by omega) (by omega)
    have a2 : nS v (0, 0) 2 = (0, 3) := a2
    rw [a2]
    have ⟨b1, b2⟩ := nS_err (l := v) 0 3 1 (by omega) (by omega) (by decide)
    have b2 : nS v (0, 3) 1 = (0, 3) := b2
    rw [b2]
    exact ⟨by omega, by decide⟩
  · have ⟨a1, a2⟩ := nS_fit (l := v) (p := 0) (k := 2) (by omega) (by omega) (by omega)
    have a1 : nV v (0, 0) 2 = numOf ((v.drop 0).take 2) := a1
    have a2 : nS v (0, 0) 2 = (2, 0) := a2
    rw [a2]
    by_cases h3 : v.length < 3
    · left
      have ⟨b1, b2⟩ := nS_no (l := v) (p := 2) (k := 1) (by omega) (by omega) (by omega) (by omega)
      have b2 : nS v (2, 0) 1 = (2, 3) := b2
      rw [b2]
      exact ⟨h3, by decide⟩
    · right
      have ⟨b1, b2⟩ := nS_fit (l := v) (p := 2) (k := 1) (by omega) (by omega) (by omega)
      have b1 : nV v (2, 0) 1 = numOf ((v.drop 2).take 1) := b1
      have b2 : nS v (2, 0) 1 = (3, 0) := b2
      rw [b2, b1, a1]
      refine ⟨by omega, rfl, ?_⟩
      match v, h3, ho with
      | x :: y :: z :: tl, _, ho =>
        have hx := ho x (by simp)
        have hy := ho y (by simp)
        have e1 : numOf (((x :: y :: z :: tl).drop 0).take 2) = x * 256 + y := numOf_two x y
        have e2 : numOf (((x :: y :: z :: tl).drop 2).take 1) = z := by simp [numOf]
        rw [e1, e2]
        unfold oursB
        rw [Bool.eq_iff_iff]
        simp only [Bool.and_eq_true, decide_eq_true_eq, List.take_succ_cons, List.take_zero, List.cons.injEq, and_true]
        constructor
        · rintro ⟨h1, h2⟩; exact ⟨by omega, by omega, h2⟩
        · rintro ⟨h1, h2, h3⟩; exact ⟨by omega, h3⟩
theorem next_cur (v : List Int) (ho : Oct v) (h3 : 3 ≤ v.length) (hours : oursB v = true) :
    ((nxM v (3, 0)).2.1 = false ∧ sdR 14 v = none) ∨ ∃ nv nl p, nxM v (3, 0) = ((nv, nl), true, (p, 0)) ∧ p ≤ v.length ∧ sdR 14 v = withR nv nl (v.drop p) ∧ nl.length = 16 ∧ Oct nl := by
  have hsd : sdR 14 v = (if v.length < 4 then none else if v.getD 3 0 = 4 then (if v.length < 9 then none else withR false (pad ((v.drop 4).take 4)) (v.drop 9))
     else if v.getD 3 0 = 16 then (if v.length < 21 then none else withR true (pad ((v.drop 4).take 16)) (v.drop 21)) else none) := by
    unfold sdR
    rw [if_neg (by omega), if_neg (by rw [hours]; decide), if_pos rfl]
  rw [hsd]
  unfold nxM
  by_cases h4 : v.length < 4
  · left
    have ⟨a1, a2⟩ := nS_no (l := v) (p := 3) (k := 1) (by omega) (by omega) (by omega) (by omega)
    have a1 : nV v (3, 0) 1 = 0 := a1
    have a2 : nS v (3, 0) 1 = (3, 3) := a2
    rw [a1, if_neg (by decide), if_neg (by decide), if_pos h4]
    exact ⟨rfl, rfl⟩
  · have ⟨a1, a2⟩ := nS_fit (l := v) (p := 3) (k := 1) (by omega) (by omega) (by omega)
    have a1 : nV v (3, 0) 1 = numOf ((v.drop 3).take 1) := a1
    have a2 : nS v (3, 0) 1 = (4, 0) := a2
    have a3 : numOf ((v.drop 3).take 1) = v.getD 3 0 := by
      have e := List.drop_eq_getElem_cons (show 3 < v.length by omega)
      rw [e]
      show numOf [v[3]] = _
      simp [numOf, List.getD, show 3 < v.length by omega]
    rw [a1, a2, a3, if_neg h4]
    by_cases e4 : v.getD 3 0 = 4
    · rw [if_pos e4, if_pos e4]
      by_cases h8 : v.length < 8
      · left
        have ⟨b1, b2⟩ := nS_no (l := v) (p := 4) (k := 4) (by omega) (by omega) (by omega) (by omega)
        have b2 : nS v (4, 0) 4 = (4, 3) := b2
        rw [b2]
        have ⟨d1, d2⟩ := tS_err v 4 3 1 (by decide)
        rw [d2, if_pos (by omega)]
        exact ⟨rfl, rfl⟩
      · have ⟨b1, b2⟩ := nS_fit (l := v) (p := 4) (k := 4) (by omega) (by omega) (by omega)
        have b1 : nV v (4, 0) 4 = numOf ((v.drop 4).take 4) := b1
        have b2 : nS v (4, 0) 4 = (8, 0) := b2
        rw [b2, b1]
        by_cases h9 : v.length < 9
        · left
          have ⟨d1, d2⟩ := tS_out (l := v) (p := 8) (n := (1 : Int)) (by omega) (by omega)
          rw [d2, if_pos h9]
          exact ⟨rfl, rfl⟩
        · right
          have ⟨d1, d2⟩ := tS_in (l := v) (p := 8) (n := 1) (by omega)
          have d2 : tS v (8, 0) 1 = (9, 0) := d2
          have hl4 : ((v.drop 4).take 4).length = 4 := by simp; omega
          have ho4 : Oct ((v.drop 4).take 4) := fun x hx => ho x (List.mem_of_mem_drop (List.mem_of_mem_take hx))
          have ef : four (numOf ((v.drop 4).take 4)) = pad ((v.drop 4).take 4) := by
            rw [four_back _ hl4 ho4]; unfold pad; rw [hl4]
          rw [d2, if_neg h9, ef]
          exact ⟨false, _, 9, rfl, by omega, rfl, pad_len (by omega), pad_oct ho4⟩
    · rw [if_neg e4, if_neg e4]
      by_cases e16 : v.getD 3 0 = 16
      · rw [if_pos e16, if_pos e16]
        by_cases h20 : v.length < 20
        · left
          have ⟨b1, b2⟩ := tS_out (l := v) (p := 4) (n := (16 : Int)) (by omega) (by omega)
          have b2 : tS v (4, 0) 16 = (4, 3) := b2
          rw [b2]
          have ⟨d1, d2⟩ := tS_err v 4 3 1 (by decide)
          rw [d2, if_pos (by omega)]
          exact ⟨rfl, rfl⟩
        · have ⟨b1, b2⟩ := tS_in (l := v) (p := 4) (n := 16) (by omega)
          have b1 : tV v (4, 0) 16 = (v.drop 4).take 16 := b1
          have b2 : tS v (4, 0) 16 = (20, 0) := b2
          rw [b1, b2]
          by_cases h21 : v.length < 21
          · left
            have ⟨d1, d2⟩ := tS_out (l := v) (p := 20) (n := (1 : Int)) (by omega) (by omega)
            rw [d2, if_pos h21]
            exact ⟨rfl, rfl⟩
          · right
            have ⟨d1, d2⟩ := tS_in (l := v) (p := 20) (n := 1) (by omega)
            have d2 : tS v (20, 0) 1 = (21, 0) := d2
            have ho4 : Oct ((v.drop 4).take 16) := fun x hx => ho x (List.mem_of_mem_drop (List.mem_of_mem_take hx))
            rw [d2, if_neg h21]
            exact ⟨true, _, 21, rfl, by omega, rfl, pad_len (by simp; omega), pad_oct ho4⟩
      · left
        rw [if_neg e16, if_neg e16]
        exact ⟨rfl, rfl⟩

/-! In memory. -/
def sdc (nv : Bool) (nl : List Int) (vr : Value) (wr : Int) : List Value := ipc nv nl ++ [vr, .int .i64 wr]
theorem sdc_len {nv : Bool} {nl : List Int} {vr : Value} {wr : Int} (h : nl.length = 16) : (sdc nv nl vr wr).length = 19 := by simp [sdc, h]
theorem sdc_17 {nv : Bool} {nl : List Int} {vr : Value} {wr : Int} (h : nl.length = 16) : (sdc nv nl vr wr).toArray[17]? = some vr := by
  have hl17 : (ipc nv nl).length = 17 := by rw [ipc_len, h]
  rw [List.getElem?_toArray]
  unfold sdc
  rw [List.getElem?_append_right (by omega), hl17]
  rfl
theorem sdc_18 {nv : Bool} {nl : List Int} {vr : Value} {wr : Int} (h : nl.length = 16) : (sdc nv nl vr wr).toArray[18]? = some (.int .i64 wr) := by
  have hl17 : (ipc nv nl).length = 17 := by rw [ipc_len, h]
  rw [List.getElem?_toArray]
  unfold sdc
  rw [List.getElem?_append_right (by omega), hl17]
  rfl
theorem ssz : (Tryz.prog.info? 108).map (·.size) = some 19 := by kernel_rfl
theorem sdc_one {nv : Bool} {nl : List Int} {vr : Value} {wr : Int} (h : vr.oneCell' = true) : ∀ v ∈ sdc nv nl vr wr, v.oneCell' = true := by
  intro v hv
  rcases List.mem_append.1 hv with hv | hv
  · exact one_ipcN _ _ v hv
  · simp only [List.mem_cons, List.mem_nil_iff, or_false] at hv
    rcases hv with rfl | rfl
    · exact h
    · rfl
theorem sd_fetch {ops : Array Oper} {rest : List Oper} {op : Oper} {a : Act} {W : World} {Q : Exit → Act → World → Prop} (hw : Region.wanted op (yielded ops a.tmps) = true) (x : Operand) (ho : op.op = .load 108 x) (b : Nat) {nv : Bool} {nl : List Int} {vr : Value} {wr : Int} (h : Blk W b 108 (sdc nv nl vr wr).toArray) (hl : nl.length = 16)
    (hx : a.eval x = .pointer (some ⟨b, 0, none⟩)) (k : wpList Tryz.prog ops Q rest (a.put op.dst (.agg (sdc nv nl vr wr).toArray)) W) : wpList Tryz.prog ops Q (op :: rest) a W :=
  part_fetch hw 108 x ho b 0 (sdc nv nl vr wr) _ hx h.range Tryz.underlying108 rfl (by rw [ssz, sdc_len hl]) k
theorem sd_store {ops : Array Oper} {rest : List Oper} {o : Oper} {a : Act} {w : World} {Q : Exit → Act → World → Prop} (hgd : o.guard = none) (x y : Operand) (ho : o.op = .store 108 x y) (g : Nat) (nv : Bool) (nl : List Int) (vr : Value) (wr : Int) (hl : nl.length = 16) (h1 : vr.oneCell' = true)
    (hx : a.eval x = .pointer (some ⟨g, 0, none⟩)) (hy : a.eval y = .agg (sdc nv nl vr wr).toArray) (t : TypeId) (old : Array Value) (hg : Blk w g t old) (hold : old.size = 19)
    (k : wpList Tryz.prog ops Q rest (a.put o.dst undef) (w.setRow g (sdc nv nl vr wr).toArray)) : wpList Tryz.prog ops Q (o :: rest) a w :=
  wpList_store_row hgd 108 x y ho g _ hx hy t old hg (by rw [ssz]; simp [sdc_len hl]) (by rw [hold]; simp [sdc_len hl]) (all_oneCell_toArray (sdc_one h1)) k
def WrP (w : World) (nv : Bool) (nl l : List Int) (e : Ending) (w' : World) : Prop :=
  ∃ A n c, e = .returned (.tuple #[.agg (sdc nv nl (.slice A n c) (readMN l)).toArray, .bool (decide (readE l = 0))]) ∧ OwnRt w.heap.size w' (.slice A n c) (readRs l) ∧ Below w.heap.size w w'
theorem sd_set (nv : Bool) (nl : List Int) (h : nl.length = 16) (v0 v : Value) (m0 m : Int) : ((sdc nv nl v0 m0).toArray.setIfInBounds 17 v).setIfInBounds 18 (.int .i64 m) = (sdc nv nl v m).toArray := by
  have hl : (ipc nv nl).length = 17 := by rw [ipc_len, h]
  unfold sdc
  rw [List.setIfInBounds_toArray, List.setIfInBounds_toArray, List.set_append_right _ _ (by omega), List.set_append_right _ _ (by omega), hl]
  rfl
theorem readE_any (l : List Int) : readE l = 0 ∨ readE l = 3 := by unfold readE; split <;> simp
set_option maxHeartbeats 2000000 in
theorem wroutes_is (w : World) (nv : Bool) (nl : List Int) (hl : nl.length = 16) (A : Option Addr) (n c : Nat) (m0 : Int) (A2 : Option Addr) (n2 c2 : Nat) (l : List Int) (hr : Rd w w.heap.size A2 n2 l) (hm : n2 ≤ 1000000000000) :
    Calls Tryz.prog 121 #[.agg (sdc nv nl (.slice A n c) m0).toArray, .slice A2 n2 c2] w (WrP w nv nl l) := by
  have hal : Below w.heap.size w ((w.alloc (.cells (sdc nv nl (.slice A n c) m0).toArray 108)).alloc (.cells (sdc false z16 (.slice none 0 0) 0).toArray 108)) := ((Below.refl w.heap.size w).alloc (Nat.le_refl _) _).alloc (by simp) _
  have hb0 := (Blk.new w 108 (sdc nv nl (.slice A n c) m0).toArray).alloc (.cells (sdc false z16 (.slice none 0 0) 0).toArray 108)
  have hb1 : Blk ((w.alloc (.cells (sdc nv nl (.slice A n c) m0).toArray 108)).alloc (.cells (sdc false z16 (.slice none 0 0) 0).toArray 108)) (w.heap.size + 1) 108 (sdc false z16 (.slice none 0 0) 0).toArray := by simpa using Blk.new (w.alloc (.cells (sdc nv nl (.slice A n c) m0).toArray 108)) 108 (sdc false z16 (.slice none 0 0) 0).toArray
  have HRd := Lib.hid (readNl_is ((w.alloc (.cells (sdc nv nl (.slice A n c) m0).toArray 108)).alloc (.cells (sdc false z16 (.slice none 0 0) 0).toArray 108)) A2 n2 c2 l ((hr.below hal).more hal.size) hm)
  have HB0 := Lib.hid hal
  have H0 := Lib.hid hb0
  have H1 := Lib.hid hb1
  have HL := Lib.hid hl
  have HZ16 : Hid (z16.length = 16) := Lib.hid rfl
  have HEr := Lib.hid (readE_any l)
  clear hal hb0 hb1 hr hl
  go_enter Tryz.func121, Tryz.ntmps121
  go_wp2_with fail
  refine HRd.out.mono ?_
  rintro e W2 ⟨v, rfl, hO, hB⟩
  have hsz : ((w.alloc (.cells (sdc nv nl (.slice A n c) m0).toArray 108)).alloc (.cells (sdc false z16 (.slice none 0 0) 0).toArray 108)).heap.size = w.heap.size + 2 := by simp
  rw [hsz] at hB hO
  have h0 := H0.out.below hB (by omega)
  have h1 := H1.out.below hB (by omega)
  have hlow := HB0.out.trans (hB.mono (by omega))
  obtain ⟨A3, c3, rfl, _⟩ := hO.rd
  generalize hn3 : (readRs l).length = n3 at *
  have f17 := h0.frozen 17
  have f18 := h0.frozen 18
  have c17 : W2.cell? ⟨w.heap.size, 17, none⟩ = some (.slice A n c) := by
    rw [h0.cell]
    exact sdc_17 HL.out
  have c18 : W2.cell? ⟨w.heap.size, 18, none⟩ = some (.int .i64 m0) := by
    rw [h0.cell]
    exact sdc_18 HL.out
  have h02 := (h0.set_ 17 (.slice A3 n3 c3)).set_ 18 (.int .i64 (readMN l))
  rw [sd_set nv nl HL.out] at h02
  have h12 := (h1.far (p := ⟨w.heap.size, 17, none⟩) (by show w.heap.size + 1 ≠ w.heap.size; omega) (.slice A3 n3 c3)).far (p := ⟨w.heap.size, 18, none⟩) (by show w.heap.size + 1 ≠ w.heap.size; omega) (.int .i64 (readMN l))
  have hlow2 := (hlow.setCell (p := ⟨w.heap.size, 17, none⟩) (Nat.le_refl _) (.slice A3 n3 c3)).setCell (p := ⟨w.heap.size, 18, none⟩) (Nat.le_refl _) (.int .i64 (readMN l))
  have g2 : W2.grownBy ((W2.setCell ⟨w.heap.size, 17, none⟩ (.slice A3 n3 c3)).setCell ⟨w.heap.size, 18, none⟩ (.int .i64 (readMN l))) (some w.heap.size) := only_setCell (only_setCell (only_refl _ _) (p := ⟨w.heap.size, 17, none⟩) (.inl rfl) _) (p := ⟨w.heap.size, 18, none⟩) (.inl rfl) _
  have hO2 := hO.grown g2 (by omega)
  have HX0 := Lib.hid h02
  have HX1 := Lib.hid h12
  have HO2 := Lib.hid hO2
  have HLow2 := Lib.hid hlow2
  have HEnd : Hid (∀ b, decide (readE l = 0) = b → ∀ W, W = (((W2.setCell ⟨w.heap.size, 17, none⟩ (.slice A3 n3 c3)).setCell ⟨w.heap.size, 18, none⟩ (.int .i64 (readMN l))).setRow (w.heap.size + 1) (sdc nv nl (.slice A3 n3 c3) (readMN l)).toArray) → WrP w nv nl l (.returned (.tuple #[.agg (sdc nv nl (.slice A3 n3 c3) (readMN l)).toArray, .bool b])) W) := Lib.hid (fun b hb W hW => by
    subst hb hW
    refine ⟨A3, n3, c3, rfl, ?_, HLow2.out.trans (below_setRow _ _ _ (by omega))⟩
    have hg3 := below_setRow ((W2.setCell ⟨w.heap.size, 17, none⟩ (.slice A3 n3 c3)).setCell ⟨w.heap.size, 18, none⟩ (.int .i64 (readMN l))) (w.heap.size + 1) (sdc nv nl (.slice A3 n3 c3) (readMN l)).toArray (Nat.le_refl _)
    have g3 : ((W2.setCell ⟨w.heap.size, 17, none⟩ (.slice A3 n3 c3)).setCell ⟨w.heap.size, 18, none⟩ (.int .i64 (readMN l))).grownBy (((W2.setCell ⟨w.heap.size, 17, none⟩ (.slice A3 n3 c3)).setCell ⟨w.heap.size, 18, none⟩ (.int .i64 (readMN l))).setRow (w.heap.size + 1) (sdc nv nl (.slice A3 n3 c3) (readMN l)).toArray) (some (w.heap.size + 1)) := ⟨hg3.os, hg3.tape, hg3.output, hg3.size, fun i hi hne => setRow_other _ _ _ _ (fun e => hne (by rw [e]))⟩
    exact (HO2.out.grown g3 (by omega)).low (by omega))
  generalize (readMN l : Int) = rm at *
  generalize readE l = re at *
  clear h0 h1 hlow hO hB h02 h12 hlow2 g2 hO2 hn3 hsz HRd H0 H1
  by_cases he : re = 0
  · have q0 : (re == 0) = true := by simpa using he
    have HE2 := Lib.hid (HEnd.out true (decide_eq_true he) _ rfl)
    clear HEnd he HEr
    go_wp2_with (first
      | (refine sd_fetch rfl _ rfl w.heap.size HX0.out HL.out rfl ?_)
      | (refine sd_store rfl _ _ rfl (w.heap.size + 1) nv nl (.slice A3 n3 c3) rm HL.out rfl rfl rfl 108 _ HX1.out (by simp [sdc_len HZ16.out]) ?_))
    try simp only [Exit.inBlock, Exit.then]
    exact bodyPost_ret (results_cell_slot rfl _ _ (w.heap.size + 1) 108 _ _ (.bool true) rfl rfl (HX1.out.setRow _) Tryz.underlying108 rfl (by rw [ssz]; simp [sdc_len HL.out])) rfl HE2.out
  · have q0 : (re == 0) = false := by simpa using he
    have HE2 := Lib.hid (HEnd.out false (decide_eq_false he) _ rfl)
    clear HEnd he HEr
    go_wp2_with (first
      | (refine sd_fetch rfl _ rfl w.heap.size HX0.out HL.out rfl ?_)
      | (refine sd_store rfl _ _ rfl (w.heap.size + 1) nv nl (.slice A3 n3 c3) rm HL.out rfl rfl rfl 108 _ HX1.out (by simp [sdc_len HZ16.out]) ?_))
    try simp only [Exit.inBlock, Exit.then]
    exact bodyPost_ret (results_cell_slot rfl _ _ (w.heap.size + 1) 108 _ _ (.bool false) rfl rfl (HX1.out.setRow _) Tryz.underlying108 rfl (by rw [ssz]; simp [sdc_len HL.out])) rfl HE2.out
end Go.Proofs.YtdgoeibfggjbmaaGreatDoor
namespace Go.Proofs.YtdgoeibfggjbmaaGreatDoor
open Go.RowKit
set_option maxRecDepth 100000
set_option linter.unusedSimpArgs false
set_option linter.unusedVariables false

set_option maxHeartbeats 4000000 in
theorem raws7_is (w : World) (E : EnvK w) (u : Up) (hu : UpOk u) (cs : List Value) (hcs : RdAt w w.heap.size cs u.at_) (A1 : Option Addr) (n1 c1 : Nat) (A2 : Option Addr) (n2 c2 : Nat) (hr : UpRd w u A1 n1 A2 n2) (h1 : n1 ≤ 900000) (h2 : n2 ≤ 900000) (hR : rightsB u.re = true) (hU : rightsB u.un = true) :
    Calls Tryz.prog 49 #[.agg (upc cs u.nv u.nl (.slice A1 n1 c1) (.slice A2 n2 c2)).toArray] w (RawsP w u) := by
  have hc : cs.length = 27 := by
    obtain ⟨_, _, _, _, _, _, rfl, _⟩ := hcs.ex
    exact attV_len _ _ _ _ hu.at_.ip
  have hal := bl_one w (.cells (upc cs u.nv u.nl (.slice A1 n1 c1) (.slice A2 n2 c2)).toArray 34)
  have HS : Hid (PbS w (w.alloc (.cells (upc cs u.nv u.nl (.slice A1 n1 c1) (.slice A2 n2 c2)).toArray 34)) cs u (.slice A1 n1 c1) (.slice A2 n2 c2)) := Lib.hid ⟨UpBox.new w hc hu.nl, hal⟩
  have HOk := Lib.hid hu
  have HUp := Lib.hid (fun W (hB : Below w.heap.size w W) => hr.up hB)
  have HRe := Lib.hid hR
  have HUn := Lib.hid hU
  have HWr := Lib.hid (write_is _ (E.below hal) u.at_ hu.at_ cs ((hcs.below hal).more hal.size))
  have hpr := puts_le (rights_all hu.re hR)
  have hpu := puts_le (rights_all hu.un hU)
  have hlr := hr.re.len
  have hlu := hr.un.len
  have HFr : Hid (([famB, nextB u.nv u.nl, puts u.re] : List (List Int)).flatten = reachV u) := Lib.hid (by simp [reachV])
  have HFg : Hid (([famB, puts u.un] : List (List Int)).flatten = goneV u) := Lib.hid (by simp [goneV])
  have HLr : Hid ((([famB, nextB u.nv u.nl, puts u.re] : List (List Int)).flatten).length ≤ 140737488355328) := Lib.hid (by
    have : (nextB u.nv u.nl).length ≤ 100 := by unfold nextB nb; split <;> simp <;> omega
    simp only [List.flatten_cons, List.flatten_nil, List.length_append, List.length_nil]
    have : famB.length = 3 := rfl
    omega)
  have HLg : Hid ((([famB, puts u.un] : List (List Int)).flatten).length ≤ 140737488355328) := Lib.hid (by
    simp only [List.flatten_cons, List.flatten_nil, List.length_append, List.length_nil]
    have : famB.length = 3 := rfl
    omega)
  have HNdP := Lib.hid (pre_nodup u)
  have HLen : Hid ((u.re = [] ↔ n1 = 0) ∧ (u.un = [] ↔ n2 = 0)) := Lib.hid ⟨⟨fun h => by rw [h] at hlr; exact hlr.symm, fun h => List.eq_nil_of_length_eq_zero (by rw [hlr, h])⟩, ⟨fun h => by rw [h] at hlu; exact hlu.symm, fun h => List.eq_nil_of_length_eq_zero (by rw [hlu, h])⟩⟩
  have hr44 := HS.out.bx.cr
  clear hr hu hcs hc hR hU E hal hpr hpu hlr hlu
  rcases Nat.eq_zero_or_pos n1 with q1 | q1
  · have HRn := Lib.hid (HLen.out.1.2 q1)
    have HWe : Hid (u.re ≠ [] → writeE u.at_ = 0) := Lib.hid (fun h => absurd HRn.out h)
    have HOw : Hid (OwnW (w.heap.size + 1) (w.alloc (.cells (upc cs u.nv u.nl (.slice A1 n1 c1) (.slice A2 n2 c2)).toArray 34)) (.slice none 0 0) []) := Lib.hid (OwnW.nil_ _ _)
    subst q1
    have hu45 := HS.out.bx.cu
    clear HWr HLr HFr
    rcases Nat.eq_zero_or_pos n2 with q2 | q2
    · have HUn2 := Lib.hid (HLen.out.2.2 q2)
      have HPre : Hid (([] : List Raw) = preU u) := Lib.hid (by unfold preU goneR; rw [if_pos HRn.out, if_pos HUn2.out]; rfl)
      have HNd : Hid ((([] : List Raw).map (·.2.1)).Nodup) := Lib.hid (by rw [HPre.out]; exact HNdP.out)
      have HTl : Hid (([] : List Raw).length ≤ 10) := Lib.hid (by simp)
      subst q2
      clear HLen
      go_enter Tryz.func49, Tryz.ntmps49
      go_wp2_with fail
      refine (sort_raw (w.heap.size + 1) _ _ ([]) HOw.out HS.out.bx.lt HNd.out (by have := HTl.out; omega)).mono ?_
      rintro e Y ⟨rfl, hB, A9, c9, ss, hv, hrd, hpm, hso⟩
      cases hv
      have HEnd : Hid (RawsP w u (.returned (.tuple #[.slice none ([] : List Raw).length 0, .int .i64 0])) Y) := Lib.hid (by
        rw [HPre.out] at hpm
        obtain rfl := sorted_raws hpm hso
        have hl : ([] : List Raw).length = (rawsU u).length := by rw [HPre.out]; exact (hpm.length_eq).symm
        rw [hl] at hrd ⊢
        exact ⟨HS.out.low.trans (hB.mono (Nat.le_succ _)), Or.inr ⟨HWe.out, none, 0, rfl, hrd⟩⟩)
      clear hB hrd hpm hso
      go_wp2
      go_ret2
      exact HEnd.out
    · have HUn2 := Lib.hid (show ¬ u.un = [] from fun h => by have := HLen.out.2.1 h; omega)
      have HPre : Hid (([rawW 128 15 (goneV u)] : List Raw) = preU u) := Lib.hid (by unfold preU goneR; rw [if_pos HRn.out, if_neg HUn2.out]; rfl)
      have HNd : Hid ((([rawW 128 15 (goneV u)] : List Raw).map (·.2.1)).Nodup) := Lib.hid (by rw [HPre.out]; exact HNdP.out)
      have HTl : Hid (([rawW 128 15 (goneV u)] : List Raw).length ≤ 10) := Lib.hid (by simp)
      have hgt : (n2 : Int) > 0 := by omega
      clear HLen
      go_enter Tryz.func49, Tryz.ntmps49
      go_wp2_with fail
      clear hr44 hu45
      generalize (w.alloc (.cells (upc cs u.nv u.nl (.slice A1 0 c1) (.slice A2 n2 c2)).toArray 34)) = W2 at *
      refine wp_region_held_drew (S := fun W => PbS w W cs u (.slice A1 0 c1) (.slice A2 n2 c2)) (by kernel_rfl) (HS.out.below (below_drewN (Below.refl _ _) 1)) (fun hS => ?_)
      refine wpAnyH_take (i := 0) (oi := ⟨some 36, _, _, _, _, _⟩) (v := ?_) rfl (by kernel_rfl) (by kernel_rfl) (by kernel_rfl) (fun _ _ _ h => h) (Or.inl ⟨by rfl, ?_⟩) hS ?_
      rotate_left
      · intro wq hq
        first | (go_simp; done) | (go_simp; rfl)
      try simp only [Act.put, List.setIfInBounds_toArray, List.set_cons_zero, List.set_cons_succ]
      refine wpAnyH_take (i := 2) (oi := ⟨some 38, _, _, _, _, _⟩) (v := ?_) rfl (by kernel_rfl) (by kernel_rfl) (by kernel_rfl) (fun _ _ _ h => h) (Or.inl ⟨by rfl, ?_⟩) hS ?_
      rotate_left
      · intro wq hq
        first | (go_simp; done) | (go_simp; rfl)
      try simp only [Act.put, List.setIfInBounds_toArray, List.set_cons_zero, List.set_cons_succ]
      refine wpAnyH_take (i := 3) (oi := ⟨some 39, _, _, _, _, _⟩) (v := ?_) rfl (by kernel_rfl) (by kernel_rfl) (by kernel_rfl) (fun _ _ _ h => h) (Or.inl ⟨by rfl, ?_⟩) hS ?_
      rotate_left
      · intro wq hq
        have c45 := hq.bx.cu
        first | (go_simp; done) | (go_simp; rfl)
      try simp only [Act.put, List.setIfInBounds_toArray, List.set_cons_zero, List.set_cons_succ]
      have how := HOw.out.below (below_drewN (Below.refl _ _) 1)
      change OwnW (w.heap.size + 1) W2.drew _ _ at how
      generalize W2.drew = X1 at *
      clear HS HOw
      refine wpAnyH_ready (rs := [1]) (by kernel_rfl) (by simp) ?_
      refine AllReadyH.cons (o := ⟨some 37, _, _, _, _, _⟩) rfl (fun K hK => ?_) AllReadyH.nil
      rw [if_pos (by rfl)]
      go_wp2_with fail
      refine (family7_is X1).mono ?_
      rintro e X2 ⟨v1, rfl, hO, hB⟩
      obtain ⟨B1, d1, rfl, _, r1, _⟩ := hO.at_
      have hSn := hS.below hB
      have how := how.below hB
      clear hB hS hO
      refine hK.out _ _ (hSn) (fun hS => ?_)
      clear hK K
      try simp only [Act.put, List.setIfInBounds_toArray, List.set_cons_zero, List.set_cons_succ]
      clear hSn
      refine wpAnyH_ready (rs := [4]) (by kernel_rfl) (by simp) ?_
      refine AllReadyH.cons (o := ⟨some 40, _, _, _, _, _⟩) rfl (fun K hK => ?_) AllReadyH.nil
      rw [if_pos (by rfl)]
      go_wp2_with fail
      refine (rb7_is X2 A2 n2 c2 u.un (HUp.out X2 hS.low).un HUn.out h2).mono ?_
      rintro e X4 ⟨v3, rfl, hO, hB⟩
      obtain ⟨B2, d2, rfl, _, r2, _⟩ := hO.at_
      have hSn := hS.below hB
      have how := how.below hB
      have r1 := r1.up7 hB
      clear hB hS hO
      refine hK.out _ _ (hSn) (fun hS => ?_)
      clear hK K
      try simp only [Act.put, List.setIfInBounds_toArray, List.set_cons_zero, List.set_cons_succ]
      clear hSn
      refine wpAnyH_ready (rs := [5]) (by kernel_rfl) (by simp) ?_
      refine AllReadyH.cons (o := ⟨some 41, _, _, _, _, _⟩) rfl (fun K hK => ?_) AllReadyH.nil
      rw [if_pos (by rfl)]
      generalize hq1 : (famB).length = m1 at *
      generalize hq2 : (puts u.un).length = m2 at *
      go_wp2
      have hL := rdl_new_at (W := X4) (vs := [(B1, m1, d1), (B2, m2, d2)]) (ls := [famB, puts u.un]) ⟨r1, r2, trivial⟩ 38 #[.slice B1 m1 d1, .slice B2 m2 d2] rfl _ rfl
      have hSn := hS.below (bl_one X4 (.cells #[.slice B1 m1 d1, .slice B2 m2 d2] 38))
      have how := how.below (bl_one X4 (.cells #[.slice B1 m1 d1, .slice B2 m2 d2] 38))
      refine hK.out _ _ (hSn) (fun hS => ?_)
      clear hK K
      try simp only [Act.put, List.setIfInBounds_toArray, List.set_cons_zero, List.set_cons_succ]
      clear hSn r1 r2 hq1 hq2
      have HMd := Lib.hid (made7_is _ 15 (some ⟨X4.heap.size, 0, none⟩) 2 2 [famB, puts u.un] hL (by omega) HLg.out)
      rw [HFg.out] at HMd
      clear hL
      generalize X4.alloc (.cells #[.slice B1 m1 d1, .slice B2 m2 d2] 38) = X5 at *
      refine wpAnyH_ready (rs := [6]) (by kernel_rfl) (by simp) ?_
      refine AllReadyH.cons (o := ⟨some 42, _, _, _, _, _⟩) rfl (fun K hK => ?_) AllReadyH.nil
      rw [if_pos (by rfl)]
      go_wp2_with fail
      refine (HMd.out).mono ?_
      rintro e X6 ⟨B6, d6, rfl, hbd, hB⟩
      have hbd := hbd.low (lo' := w.heap.size + 1) hS.bx.lt
      have hSn := hS.below hB
      have how := how.below hB
      clear hB hS HMd
      refine hK.out _ _ (hSn) (fun hS => ?_)
      clear hK K
      try simp only [Act.put, List.setIfInBounds_toArray, List.set_cons_zero, List.set_cons_succ]
      clear hSn
      generalize hq4 : (goneV u).length = m4 at *
      generalize hq5 : lfl 128 (goneV u) = f4 at *
      refine wpAnyH_ready (rs := [7]) (by kernel_rfl) (by simp) ?_
      refine AllReadyH.cons (o := ⟨some 43, _, _, _, _, _⟩) rfl (fun K hK => ?_) AllReadyH.nil
      rw [if_pos (by rfl)]
      refine one_raw_wp _ rfl f4 15 B6 m4 d6 rfl ?_
      have hS6 := hS
      refine hK.out _ _ (hS.below (bl_one X6 _)) (fun hS => ?_)
      clear hK K
      try simp only [Act.put, List.setIfInBounds_toArray, List.set_cons_zero, List.set_cons_succ]
      refine wpAnyH_ready (rs := [8]) (by kernel_rfl) (by simp) ?_
      refine AllReadyH.cons (o := ⟨some 44, _, _, _, _, _⟩) rfl (fun K hK => ?_) AllReadyH.nil
      rw [if_pos (by rfl)]
      refine app_w_wp _ _ rfl how hS6.bx.lt (by have := write_len u.at_; simp; try omega) hbd rfl rfl ?_
      intro v7 X7 ho7 hb7 hg7 hold7
      have hS7 := hS6.low1 hb7
      have ho7 : OwnW (w.heap.size + 1) X7 v7 ([rawW 128 15 (goneV u)]) := by rw [show ([rawW 128 15 (goneV u)] : List Raw) = [] ++ [(f4, 15, goneV u)] from by rw [← hq5]; rfl]; exact ho7
      clear how hbd hb7 hg7 hold7 hS6 hS hq4 hq5
      refine hK.out _ _ (hS7) (fun hS => ?_)
      clear hK K
      try simp only [Act.put, List.setIfInBounds_toArray, List.set_cons_zero, List.set_cons_succ]
      refine wpAnyH_take (i := 9) (oi := ⟨some 4, _, _, _, _, _⟩) (v := ?_) rfl (by kernel_rfl) (by kernel_rfl) (by kernel_rfl) (fun _ _ _ h => h) (Or.inl ⟨by rfl, ?_⟩) hS ?_
      rotate_left
      · intro wq hq
        first | (go_simp; done) | (go_simp; rfl)
      try simp only [Act.put, List.setIfInBounds_toArray, List.set_cons_zero, List.set_cons_succ]
      refine wpAnyH_done (by kernel_rfl) ?_ _
      have HS := Lib.hid hS7
      have HOw := Lib.hid ho7
      clear hS hS7 ho7
      go_wp2_with fail
      refine (sort_raw (w.heap.size + 1) _ _ ([rawW 128 15 (goneV u)]) HOw.out HS.out.bx.lt HNd.out (by have := HTl.out; omega)).mono ?_
      rintro e Y ⟨rfl, hB, A9, c9, ss, hv, hrd, hpm, hso⟩
      subst hv
      have HEnd : Hid (RawsP w u (.returned (.tuple #[.slice A9 ([rawW 128 15 (goneV u)] : List Raw).length c9, .int .i64 0])) Y) := Lib.hid (by
        rw [HPre.out] at hpm
        obtain rfl := sorted_raws hpm hso
        have hl : ([rawW 128 15 (goneV u)] : List Raw).length = (rawsU u).length := by rw [HPre.out]; exact (hpm.length_eq).symm
        rw [hl] at hrd ⊢
        exact ⟨HS.out.low.trans (hB.mono (Nat.le_succ _)), Or.inr ⟨HWe.out, A9, c9, rfl, hrd⟩⟩)
      clear hB hrd hpm hso
      generalize ([rawW 128 15 (goneV u)] : List Raw).length = tl at *
      go_wp2
      go_ret2
      exact HEnd.out
  · have HRn := Lib.hid (show ¬ u.re = [] from fun h => by have := HLen.out.1.1 h; omega)
    have hgt : (n1 : Int) > 0 := by omega
    by_cases hw : writeE u.at_ = 0
    · have HWr2 := Lib.hid (HWr.out.mono (R' := fun e w' => ∃ v, e = .returned (.tuple #[v, .int .i64 0]) ∧ OwnW (w.heap.size + 1) w' v (writeR u.at_) ∧ Below (w.alloc (.cells (upc cs u.nv u.nl (.slice A1 n1 c1) (.slice A2 n2 c2)).toArray 34)).heap.size (w.alloc (.cells (upc cs u.nv u.nl (.slice A1 n1 c1) (.slice A2 n2 c2)).toArray 34)) w') (by
        rintro e w' ⟨hB, hp⟩
        rw [if_pos hw] at hp
        obtain ⟨v, rfl, ho⟩ := hp
        exact ⟨v, rfl, ho.low (by simp), hB⟩))
      have HWe : Hid (u.re ≠ [] → writeE u.at_ = 0) := Lib.hid (fun _ => hw)
      clear HWr hw
      have HTb : Hid ((writeR u.at_).length ≤ 8) := Lib.hid (write_len _)
      rcases Nat.eq_zero_or_pos n2 with q2 | q2
      · have HUn2 := Lib.hid (HLen.out.2.2 q2)
        have HPre : Hid ((writeR u.at_ ++ [rawW 128 14 (reachV u)] : List Raw) = preU u) := Lib.hid (by unfold preU goneR; rw [if_neg HRn.out, if_pos HUn2.out]; simp)
        have HNd : Hid (((writeR u.at_ ++ [rawW 128 14 (reachV u)] : List Raw).map (·.2.1)).Nodup) := Lib.hid (by rw [HPre.out]; exact HNdP.out)
        have HTl : Hid ((writeR u.at_ ++ [rawW 128 14 (reachV u)] : List Raw).length ≤ 10) := Lib.hid (by have := HTb.out; simp; omega)
        subst q2
        clear HLen
        go_enter Tryz.func49, Tryz.ntmps49
        go_wp2_with (first | (refine upa_fetch rfl _ rfl w.heap.size HS.out.bx rfl ?_) | fail)
        refine HWr2.out.mono ?_
        rintro e W2 ⟨v0, rfl, how, hB⟩
        have HS := Lib.hid (HS.out.below hB)
        have HOw := Lib.hid how
        clear hB how hr44 HWr2
        go_wp2_with fail
        refine wp_region_held_drew (S := fun W => PbS w W cs u (.slice A1 n1 c1) (.slice A2 0 c2)) (by kernel_rfl) (HS.out.below (below_drewN (Below.refl _ _) 1)) (fun hS => ?_)
        refine wpAnyH_take (i := 0) (oi := ⟨some 20, _, _, _, _, _⟩) (v := ?_) rfl (by kernel_rfl) (by kernel_rfl) (by kernel_rfl) (fun _ _ _ h => h) (Or.inl ⟨by rfl, ?_⟩) hS ?_
        rotate_left
        · intro wq hq
          first | (go_simp; done) | (go_simp; rfl)
        try simp only [Act.put, List.setIfInBounds_toArray, List.set_cons_zero, List.set_cons_succ]
        refine wpAnyH_take (i := 2) (oi := ⟨some 22, _, _, _, _, _⟩) (v := ?_) rfl (by kernel_rfl) (by kernel_rfl) (by kernel_rfl) (fun _ _ _ h => h) (Or.inl ⟨by rfl, ?_⟩) hS ?_
        rotate_left
        · intro wq hq
          first | (go_simp; done) | (go_simp; rfl)
        try simp only [Act.put, List.setIfInBounds_toArray, List.set_cons_zero, List.set_cons_succ]
        refine wpAnyH_take (i := 3) (oi := ⟨some 23, _, _, _, _, _⟩) rfl (by kernel_rfl) (by kernel_rfl) (by kernel_rfl) (fun _ _ _ h => h) (yieldsIf_load_mid (by rfl) 27 _ rfl _ _ rfl (ipc u.nv u.nl) _ (fun wq hq => hq.bx.rn) Tryz.underlying27 rfl (by rw [ip_sz, ipc_len, HOk.out.nl])) hS ?_
        try simp only [Act.put, List.setIfInBounds_toArray, List.set_cons_zero, List.set_cons_succ]
        refine wpAnyH_take (i := 5) (oi := ⟨some 25, _, _, _, _, _⟩) (v := ?_) rfl (by kernel_rfl) (by kernel_rfl) (by kernel_rfl) (fun _ _ _ h => h) (Or.inl ⟨by rfl, ?_⟩) hS ?_
        rotate_left
        · intro wq hq
          first | (go_simp; done) | (go_simp; rfl)
        try simp only [Act.put, List.setIfInBounds_toArray, List.set_cons_zero, List.set_cons_succ]
        refine wpAnyH_take (i := 6) (oi := ⟨some 26, _, _, _, _, _⟩) (v := ?_) rfl (by kernel_rfl) (by kernel_rfl) (by kernel_rfl) (fun _ _ _ h => h) (Or.inl ⟨by rfl, ?_⟩) hS ?_
        rotate_left
        · intro wq hq
          have c44 := hq.bx.cr
          first | (go_simp; done) | (go_simp; rfl)
        try simp only [Act.put, List.setIfInBounds_toArray, List.set_cons_zero, List.set_cons_succ]
        have how := HOw.out.below (below_drewN (Below.refl _ _) 1)
        change OwnW (w.heap.size + 1) W2.drew _ _ at how
        generalize W2.drew = X1 at *
        clear HS HOw
        refine wpAnyH_ready (rs := [1]) (by kernel_rfl) (by simp) ?_
        refine AllReadyH.cons (o := ⟨some 21, _, _, _, _, _⟩) rfl (fun K hK => ?_) AllReadyH.nil
        rw [if_pos (by rfl)]
        go_wp2_with fail
        refine (family7_is X1).mono ?_
        rintro e X2 ⟨v1, rfl, hO, hB⟩
        obtain ⟨B1, d1, rfl, _, r1, _⟩ := hO.at_
        have hSn := hS.below hB
        have how := how.below hB
        clear hB hS hO
        refine hK.out _ _ (hSn) (fun hS => ?_)
        clear hK K
        try simp only [Act.put, List.setIfInBounds_toArray, List.set_cons_zero, List.set_cons_succ]
        clear hSn
        refine wpAnyH_ready (rs := [4]) (by kernel_rfl) (by simp) ?_
        refine AllReadyH.cons (o := ⟨some 24, _, _, _, _, _⟩) rfl (fun K hK => ?_) AllReadyH.nil
        rw [if_pos (by rfl)]
        go_wp2_with fail
        refine (next7_is X2 u.nv u.nl HOk.out.nl HOk.out.onl).mono ?_
        rintro e X3 ⟨v2, rfl, hO, hB⟩
        obtain ⟨B2, d2, rfl, _, r2, _⟩ := hO.at_
        have hSn := hS.below hB
        have how := how.below hB
        have r1 := r1.up7 hB
        clear hB hS hO
        refine hK.out _ _ (hSn) (fun hS => ?_)
        clear hK K
        try simp only [Act.put, List.setIfInBounds_toArray, List.set_cons_zero, List.set_cons_succ]
        clear hSn
        refine wpAnyH_ready (rs := [7]) (by kernel_rfl) (by simp) ?_
        refine AllReadyH.cons (o := ⟨some 27, _, _, _, _, _⟩) rfl (fun K hK => ?_) AllReadyH.nil
        rw [if_pos (by rfl)]
        go_wp2_with fail
        refine (rb7_is X3 A1 n1 c1 u.re (HUp.out X3 hS.low).re HRe.out h1).mono ?_
        rintro e X4 ⟨v3, rfl, hO, hB⟩
        obtain ⟨B3, d3, rfl, _, r3, _⟩ := hO.at_
        have hSn := hS.below hB
        have how := how.below hB
        have r1 := r1.up7 hB
        have r2 := r2.up7 hB
        clear hB hS hO
        refine hK.out _ _ (hSn) (fun hS => ?_)
        clear hK K
        try simp only [Act.put, List.setIfInBounds_toArray, List.set_cons_zero, List.set_cons_succ]
        clear hSn
        refine wpAnyH_ready (rs := [8]) (by kernel_rfl) (by simp) ?_
        refine AllReadyH.cons (o := ⟨some 28, _, _, _, _, _⟩) rfl (fun K hK => ?_) AllReadyH.nil
        rw [if_pos (by rfl)]
        generalize hq1 : (famB).length = m1 at *
        generalize hq2 : (nextB u.nv u.nl).length = m2 at *
        generalize hq3 : (puts u.re).length = m3 at *
        go_wp2
        have hL := rdl_new_at (W := X4) (vs := [(B1, m1, d1), (B2, m2, d2), (B3, m3, d3)]) (ls := [famB, nextB u.nv u.nl, puts u.re]) ⟨r1, r2, r3, trivial⟩ 38 #[.slice B1 m1 d1, .slice B2 m2 d2, .slice B3 m3 d3] rfl _ rfl
        have hSn := hS.below (bl_one X4 (.cells #[.slice B1 m1 d1, .slice B2 m2 d2, .slice B3 m3 d3] 38))
        have how := how.below (bl_one X4 (.cells #[.slice B1 m1 d1, .slice B2 m2 d2, .slice B3 m3 d3] 38))
        refine hK.out _ _ (hSn) (fun hS => ?_)
        clear hK K
        try simp only [Act.put, List.setIfInBounds_toArray, List.set_cons_zero, List.set_cons_succ]
        clear hSn r1 r2 r3 hq1 hq2 hq3
        have HMd := Lib.hid (made7_is _ 14 (some ⟨X4.heap.size, 0, none⟩) 3 3 [famB, nextB u.nv u.nl, puts u.re] hL (by omega) HLr.out)
        rw [HFr.out] at HMd
        clear hL
        generalize X4.alloc (.cells #[.slice B1 m1 d1, .slice B2 m2 d2, .slice B3 m3 d3] 38) = X5 at *
        refine wpAnyH_ready (rs := [9]) (by kernel_rfl) (by simp) ?_
        refine AllReadyH.cons (o := ⟨some 29, _, _, _, _, _⟩) rfl (fun K hK => ?_) AllReadyH.nil
        rw [if_pos (by rfl)]
        go_wp2_with fail
        refine (HMd.out).mono ?_
        rintro e X6 ⟨B6, d6, rfl, hbd, hB⟩
        have hbd := hbd.low (lo' := w.heap.size + 1) hS.bx.lt
        have hSn := hS.below hB
        have how := how.below hB
        clear hB hS HMd
        refine hK.out _ _ (hSn) (fun hS => ?_)
        clear hK K
        try simp only [Act.put, List.setIfInBounds_toArray, List.set_cons_zero, List.set_cons_succ]
        clear hSn
        generalize hq4 : (reachV u).length = m4 at *
        generalize hq5 : lfl 128 (reachV u) = f4 at *
        refine wpAnyH_ready (rs := [10]) (by kernel_rfl) (by simp) ?_
        refine AllReadyH.cons (o := ⟨some 30, _, _, _, _, _⟩) rfl (fun K hK => ?_) AllReadyH.nil
        rw [if_pos (by rfl)]
        refine one_raw_wp _ rfl f4 14 B6 m4 d6 rfl ?_
        have hS6 := hS
        refine hK.out _ _ (hS.below (bl_one X6 _)) (fun hS => ?_)
        clear hK K
        try simp only [Act.put, List.setIfInBounds_toArray, List.set_cons_zero, List.set_cons_succ]
        refine wpAnyH_ready (rs := [11]) (by kernel_rfl) (by simp) ?_
        refine AllReadyH.cons (o := ⟨some 31, _, _, _, _, _⟩) rfl (fun K hK => ?_) AllReadyH.nil
        rw [if_pos (by rfl)]
        refine app_w_wp _ _ rfl how hS6.bx.lt (by have := write_len u.at_; simp; try omega) hbd rfl rfl ?_
        intro v7 X7 ho7 hb7 hg7 hold7
        have hS7 := hS6.low1 hb7
        have ho7 : OwnW (w.heap.size + 1) X7 v7 (writeR u.at_ ++ [rawW 128 14 (reachV u)]) := by rw [show (writeR u.at_ ++ [rawW 128 14 (reachV u)] : List Raw) = writeR u.at_ ++ [(f4, 14, reachV u)] from by rw [← hq5]; rfl]; exact ho7
        clear how hbd hb7 hg7 hold7 hS6 hS hq4 hq5
        refine hK.out _ _ (hS7) (fun hS => ?_)
        clear hK K
        try simp only [Act.put, List.setIfInBounds_toArray, List.set_cons_zero, List.set_cons_succ]
        refine wpAnyH_take (i := 12) (oi := ⟨some 4, _, _, _, _, _⟩) (v := ?_) rfl (by kernel_rfl) (by kernel_rfl) (by kernel_rfl) (fun _ _ _ h => h) (Or.inl ⟨by rfl, ?_⟩) hS ?_
        rotate_left
        · intro wq hq
          first | (go_simp; done) | (go_simp; rfl)
        try simp only [Act.put, List.setIfInBounds_toArray, List.set_cons_zero, List.set_cons_succ]
        refine wpAnyH_done (by kernel_rfl) ?_ _
        have HS := Lib.hid hS7
        have HOw := Lib.hid ho7
        clear hS hS7 ho7
        have hu45 := HS.out.bx.cu
        go_wp2_with fail
        refine (sort_raw (w.heap.size + 1) _ _ (writeR u.at_ ++ [rawW 128 14 (reachV u)]) HOw.out HS.out.bx.lt HNd.out (by have := HTl.out; omega)).mono ?_
        rintro e Y ⟨rfl, hB, A9, c9, ss, hv, hrd, hpm, hso⟩
        subst hv
        have HEnd : Hid (RawsP w u (.returned (.tuple #[.slice A9 (writeR u.at_ ++ [rawW 128 14 (reachV u)] : List Raw).length c9, .int .i64 0])) Y) := Lib.hid (by
          rw [HPre.out] at hpm
          obtain rfl := sorted_raws hpm hso
          have hl : (writeR u.at_ ++ [rawW 128 14 (reachV u)] : List Raw).length = (rawsU u).length := by rw [HPre.out]; exact (hpm.length_eq).symm
          rw [hl] at hrd ⊢
          exact ⟨HS.out.low.trans (hB.mono (Nat.le_succ _)), Or.inr ⟨HWe.out, A9, c9, rfl, hrd⟩⟩)
        clear hB hrd hpm hso
        generalize (writeR u.at_ ++ [rawW 128 14 (reachV u)] : List Raw).length = tl at *
        go_wp2
        go_ret2
        exact HEnd.out
      · have HUn2 := Lib.hid (show ¬ u.un = [] from fun h => by have := HLen.out.2.1 h; omega)
        have HPre : Hid (((writeR u.at_ ++ [rawW 128 14 (reachV u)]) ++ [rawW 128 15 (goneV u)] : List Raw) = preU u) := Lib.hid (by unfold preU goneR; rw [if_neg HRn.out, if_neg HUn2.out])
        have HNd : Hid ((((writeR u.at_ ++ [rawW 128 14 (reachV u)]) ++ [rawW 128 15 (goneV u)] : List Raw).map (·.2.1)).Nodup) := Lib.hid (by rw [HPre.out]; exact HNdP.out)
        have HTl : Hid (((writeR u.at_ ++ [rawW 128 14 (reachV u)]) ++ [rawW 128 15 (goneV u)] : List Raw).length ≤ 10) := Lib.hid (by have := HTb.out; simp; omega)
        have hgt2 : (n2 : Int) > 0 := by omega
        clear HLen
        go_enter Tryz.func49, Tryz.ntmps49
        go_wp2_with (first | (refine upa_fetch rfl _ rfl w.heap.size HS.out.bx rfl ?_) | fail)
        refine HWr2.out.mono ?_
        rintro e W2 ⟨v0, rfl, how, hB⟩
        have HS := Lib.hid (HS.out.below hB)
        have HOw := Lib.hid how
        clear hB how hr44 HWr2
        go_wp2_with fail
        refine wp_region_held_drew (S := fun W => PbS w W cs u (.slice A1 n1 c1) (.slice A2 n2 c2)) (by kernel_rfl) (HS.out.below (below_drewN (Below.refl _ _) 1)) (fun hS => ?_)
        refine wpAnyH_take (i := 0) (oi := ⟨some 20, _, _, _, _, _⟩) (v := ?_) rfl (by kernel_rfl) (by kernel_rfl) (by kernel_rfl) (fun _ _ _ h => h) (Or.inl ⟨by rfl, ?_⟩) hS ?_
        rotate_left
        · intro wq hq
          first | (go_simp; done) | (go_simp; rfl)
        try simp only [Act.put, List.setIfInBounds_toArray, List.set_cons_zero, List.set_cons_succ]
        refine wpAnyH_take (i := 2) (oi := ⟨some 22, _, _, _, _, _⟩) (v := ?_) rfl (by kernel_rfl) (by kernel_rfl) (by kernel_rfl) (fun _ _ _ h => h) (Or.inl ⟨by rfl, ?_⟩) hS ?_
        rotate_left
        · intro wq hq
          first | (go_simp; done) | (go_simp; rfl)
        try simp only [Act.put, List.setIfInBounds_toArray, List.set_cons_zero, List.set_cons_succ]
        refine wpAnyH_take (i := 3) (oi := ⟨some 23, _, _, _, _, _⟩) rfl (by kernel_rfl) (by kernel_rfl) (by kernel_rfl) (fun _ _ _ h => h) (yieldsIf_load_mid (by rfl) 27 _ rfl _ _ rfl (ipc u.nv u.nl) _ (fun wq hq => hq.bx.rn) Tryz.underlying27 rfl (by rw [ip_sz, ipc_len, HOk.out.nl])) hS ?_
        try simp only [Act.put, List.setIfInBounds_toArray, List.set_cons_zero, List.set_cons_succ]
        refine wpAnyH_take (i := 5) (oi := ⟨some 25, _, _, _, _, _⟩) (v := ?_) rfl (by kernel_rfl) (by kernel_rfl) (by kernel_rfl) (fun _ _ _ h => h) (Or.inl ⟨by rfl, ?_⟩) hS ?_
        rotate_left
        · intro wq hq
          first | (go_simp; done) | (go_simp; rfl)
        try simp only [Act.put, List.setIfInBounds_toArray, List.set_cons_zero, List.set_cons_succ]
        refine wpAnyH_take (i := 6) (oi := ⟨some 26, _, _, _, _, _⟩) (v := ?_) rfl (by kernel_rfl) (by kernel_rfl) (by kernel_rfl) (fun _ _ _ h => h) (Or.inl ⟨by rfl, ?_⟩) hS ?_
        rotate_left
        · intro wq hq
          have c44 := hq.bx.cr
          first | (go_simp; done) | (go_simp; rfl)
        try simp only [Act.put, List.setIfInBounds_toArray, List.set_cons_zero, List.set_cons_succ]
        have how := HOw.out.below (below_drewN (Below.refl _ _) 1)
        change OwnW (w.heap.size + 1) W2.drew _ _ at how
        generalize W2.drew = X1 at *
        clear HS HOw
        refine wpAnyH_ready (rs := [1]) (by kernel_rfl) (by simp) ?_
        refine AllReadyH.cons (o := ⟨some 21, _, _, _, _, _⟩) rfl (fun K hK => ?_) AllReadyH.nil
        rw [if_pos (by rfl)]
        go_wp2_with fail
        refine (family7_is X1).mono ?_
        rintro e X2 ⟨v1, rfl, hO, hB⟩
        obtain ⟨B1, d1, rfl, _, r1, _⟩ := hO.at_
        have hSn := hS.below hB
        have how := how.below hB
        clear hB hS hO
        refine hK.out _ _ (hSn) (fun hS => ?_)
        clear hK K
        try simp only [Act.put, List.setIfInBounds_toArray, List.set_cons_zero, List.set_cons_succ]
        clear hSn
        refine wpAnyH_ready (rs := [4]) (by kernel_rfl) (by simp) ?_
        refine AllReadyH.cons (o := ⟨some 24, _, _, _, _, _⟩) rfl (fun K hK => ?_) AllReadyH.nil
        rw [if_pos (by rfl)]
        go_wp2_with fail
        refine (next7_is X2 u.nv u.nl HOk.out.nl HOk.out.onl).mono ?_
        rintro e X3 ⟨v2, rfl, hO, hB⟩
        obtain ⟨B2, d2, rfl, _, r2, _⟩ := hO.at_
        have hSn := hS.below hB
        have how := how.below hB
        have r1 := r1.up7 hB
        clear hB hS hO
        refine hK.out _ _ (hSn) (fun hS => ?_)
        clear hK K
        try simp only [Act.put, List.setIfInBounds_toArray, List.set_cons_zero, List.set_cons_succ]
        clear hSn
        refine wpAnyH_ready (rs := [7]) (by kernel_rfl) (by simp) ?_
        refine AllReadyH.cons (o := ⟨some 27, _, _, _, _, _⟩) rfl (fun K hK => ?_) AllReadyH.nil
        rw [if_pos (by rfl)]
        go_wp2_with fail
        refine (rb7_is X3 A1 n1 c1 u.re (HUp.out X3 hS.low).re HRe.out h1).mono ?_
        rintro e X4 ⟨v3, rfl, hO, hB⟩
        obtain ⟨B3, d3, rfl, _, r3, _⟩ := hO.at_
        have hSn := hS.below hB
        have how := how.below hB
        have r1 := r1.up7 hB
        have r2 := r2.up7 hB
        clear hB hS hO
        refine hK.out _ _ (hSn) (fun hS => ?_)
        clear hK K
        try simp only [Act.put, List.setIfInBounds_toArray, List.set_cons_zero, List.set_cons_succ]
        clear hSn
        refine wpAnyH_ready (rs := [8]) (by kernel_rfl) (by simp) ?_
        refine AllReadyH.cons (o := ⟨some 28, _, _, _, _, _⟩) rfl (fun K hK => ?_) AllReadyH.nil
        rw [if_pos (by rfl)]
        generalize hq1 : (famB).length = m1 at *
        generalize hq2 : (nextB u.nv u.nl).length = m2 at *
        generalize hq3 : (puts u.re).length = m3 at *
        go_wp2
        have hL := rdl_new_at (W := X4) (vs := [(B1, m1, d1), (B2, m2, d2), (B3, m3, d3)]) (ls := [famB, nextB u.nv u.nl, puts u.re]) ⟨r1, r2, r3, trivial⟩ 38 #[.slice B1 m1 d1, .slice B2 m2 d2, .slice B3 m3 d3] rfl _ rfl
        have hSn := hS.below (bl_one X4 (.cells #[.slice B1 m1 d1, .slice B2 m2 d2, .slice B3 m3 d3] 38))
        have how := how.below (bl_one X4 (.cells #[.slice B1 m1 d1, .slice B2 m2 d2, .slice B3 m3 d3] 38))
        refine hK.out _ _ (hSn) (fun hS => ?_)
        clear hK K
        try simp only [Act.put, List.setIfInBounds_toArray, List.set_cons_zero, List.set_cons_succ]
        clear hSn r1 r2 r3 hq1 hq2 hq3
        have HMd := Lib.hid (made7_is _ 14 (some ⟨X4.heap.size, 0, none⟩) 3 3 [famB, nextB u.nv u.nl, puts u.re] hL (by omega) HLr.out)
        rw [HFr.out] at HMd
        clear hL
        generalize X4.alloc (.cells #[.slice B1 m1 d1, .slice B2 m2 d2, .slice B3 m3 d3] 38) = X5 at *
        refine wpAnyH_ready (rs := [9]) (by kernel_rfl) (by simp) ?_
        refine AllReadyH.cons (o := ⟨some 29, _, _, _, _, _⟩) rfl (fun K hK => ?_) AllReadyH.nil
        rw [if_pos (by rfl)]
        go_wp2_with fail
        refine (HMd.out).mono ?_
        rintro e X6 ⟨B6, d6, rfl, hbd, hB⟩
        have hbd := hbd.low (lo' := w.heap.size + 1) hS.bx.lt
        have hSn := hS.below hB
        have how := how.below hB
        clear hB hS HMd
        refine hK.out _ _ (hSn) (fun hS => ?_)
        clear hK K
        try simp only [Act.put, List.setIfInBounds_toArray, List.set_cons_zero, List.set_cons_succ]
        clear hSn
        generalize hq4 : (reachV u).length = m4 at *
        generalize hq5 : lfl 128 (reachV u) = f4 at *
        refine wpAnyH_ready (rs := [10]) (by kernel_rfl) (by simp) ?_
        refine AllReadyH.cons (o := ⟨some 30, _, _, _, _, _⟩) rfl (fun K hK => ?_) AllReadyH.nil
        rw [if_pos (by rfl)]
        refine one_raw_wp _ rfl f4 14 B6 m4 d6 rfl ?_
        have hS6 := hS
        refine hK.out _ _ (hS.below (bl_one X6 _)) (fun hS => ?_)
        clear hK K
        try simp only [Act.put, List.setIfInBounds_toArray, List.set_cons_zero, List.set_cons_succ]
        refine wpAnyH_ready (rs := [11]) (by kernel_rfl) (by simp) ?_
        refine AllReadyH.cons (o := ⟨some 31, _, _, _, _, _⟩) rfl (fun K hK => ?_) AllReadyH.nil
        rw [if_pos (by rfl)]
        refine app_w_wp _ _ rfl how hS6.bx.lt (by have := write_len u.at_; simp; try omega) hbd rfl rfl ?_
        intro v7 X7 ho7 hb7 hg7 hold7
        have hS7 := hS6.low1 hb7
        have ho7 : OwnW (w.heap.size + 1) X7 v7 (writeR u.at_ ++ [rawW 128 14 (reachV u)]) := by rw [show (writeR u.at_ ++ [rawW 128 14 (reachV u)] : List Raw) = writeR u.at_ ++ [(f4, 14, reachV u)] from by rw [← hq5]; rfl]; exact ho7
        clear how hbd hb7 hg7 hold7 hS6 hS hq4 hq5
        refine hK.out _ _ (hS7) (fun hS => ?_)
        clear hK K
        try simp only [Act.put, List.setIfInBounds_toArray, List.set_cons_zero, List.set_cons_succ]
        refine wpAnyH_take (i := 12) (oi := ⟨some 4, _, _, _, _, _⟩) (v := ?_) rfl (by kernel_rfl) (by kernel_rfl) (by kernel_rfl) (fun _ _ _ h => h) (Or.inl ⟨by rfl, ?_⟩) hS ?_
        rotate_left
        · intro wq hq
          first | (go_simp; done) | (go_simp; rfl)
        try simp only [Act.put, List.setIfInBounds_toArray, List.set_cons_zero, List.set_cons_succ]
        refine wpAnyH_done (by kernel_rfl) ?_ _
        have HS := Lib.hid hS7
        have HOw := Lib.hid ho7
        clear hS hS7 ho7
        have hu45 := HS.out.bx.cu
        go_wp2_with fail
        clear hu45
        refine wp_region_held_drew (S := fun W => PbS w W cs u (.slice A1 n1 c1) (.slice A2 n2 c2)) (by kernel_rfl) (HS.out.below (below_drewN (Below.refl _ _) 1)) (fun hS => ?_)
        refine wpAnyH_take (i := 0) (oi := ⟨some 36, _, _, _, _, _⟩) (v := ?_) rfl (by kernel_rfl) (by kernel_rfl) (by kernel_rfl) (fun _ _ _ h => h) (Or.inl ⟨by rfl, ?_⟩) hS ?_
        rotate_left
        · intro wq hq
          first | (go_simp; done) | (go_simp; rfl)
        try simp only [Act.put, List.setIfInBounds_toArray, List.set_cons_zero, List.set_cons_succ]
        refine wpAnyH_take (i := 2) (oi := ⟨some 38, _, _, _, _, _⟩) (v := ?_) rfl (by kernel_rfl) (by kernel_rfl) (by kernel_rfl) (fun _ _ _ h => h) (Or.inl ⟨by rfl, ?_⟩) hS ?_
        rotate_left
        · intro wq hq
          first | (go_simp; done) | (go_simp; rfl)
        try simp only [Act.put, List.setIfInBounds_toArray, List.set_cons_zero, List.set_cons_succ]
        refine wpAnyH_take (i := 3) (oi := ⟨some 39, _, _, _, _, _⟩) (v := ?_) rfl (by kernel_rfl) (by kernel_rfl) (by kernel_rfl) (fun _ _ _ h => h) (Or.inl ⟨by rfl, ?_⟩) hS ?_
        rotate_left
        · intro wq hq
          have c45 := hq.bx.cu
          first | (go_simp; done) | (go_simp; rfl)
        try simp only [Act.put, List.setIfInBounds_toArray, List.set_cons_zero, List.set_cons_succ]
        have how := HOw.out.below (below_drewN (Below.refl _ _) 1)
        change OwnW (w.heap.size + 1) X7.drew _ _ at how
        generalize X7.drew = Y1 at *
        clear HS HOw
        refine wpAnyH_ready (rs := [1]) (by kernel_rfl) (by simp) ?_
        refine AllReadyH.cons (o := ⟨some 37, _, _, _, _, _⟩) rfl (fun K hK => ?_) AllReadyH.nil
        rw [if_pos (by rfl)]
        go_wp2_with fail
        refine (family7_is Y1).mono ?_
        rintro e Y2 ⟨v1, rfl, hO, hB⟩
        obtain ⟨B1, d1, rfl, _, r1, _⟩ := hO.at_
        have hSn := hS.below hB
        have how := how.below hB
        clear hB hS hO
        refine hK.out _ _ (hSn) (fun hS => ?_)
        clear hK K
        try simp only [Act.put, List.setIfInBounds_toArray, List.set_cons_zero, List.set_cons_succ]
        clear hSn
        refine wpAnyH_ready (rs := [4]) (by kernel_rfl) (by simp) ?_
        refine AllReadyH.cons (o := ⟨some 40, _, _, _, _, _⟩) rfl (fun K hK => ?_) AllReadyH.nil
        rw [if_pos (by rfl)]
        go_wp2_with fail
        refine (rb7_is Y2 A2 n2 c2 u.un (HUp.out Y2 hS.low).un HUn.out h2).mono ?_
        rintro e Y4 ⟨v3, rfl, hO, hB⟩
        obtain ⟨B2, d2, rfl, _, r2, _⟩ := hO.at_
        have hSn := hS.below hB
        have how := how.below hB
        have r1 := r1.up7 hB
        clear hB hS hO
        refine hK.out _ _ (hSn) (fun hS => ?_)
        clear hK K
        try simp only [Act.put, List.setIfInBounds_toArray, List.set_cons_zero, List.set_cons_succ]
        clear hSn
        refine wpAnyH_ready (rs := [5]) (by kernel_rfl) (by simp) ?_
        refine AllReadyH.cons (o := ⟨some 41, _, _, _, _, _⟩) rfl (fun K hK => ?_) AllReadyH.nil
        rw [if_pos (by rfl)]
        generalize hq1 : (famB).length = m1 at *
        generalize hq2 : (puts u.un).length = m2 at *
        go_wp2
        have hL := rdl_new_at (W := Y4) (vs := [(B1, m1, d1), (B2, m2, d2)]) (ls := [famB, puts u.un]) ⟨r1, r2, trivial⟩ 38 #[.slice B1 m1 d1, .slice B2 m2 d2] rfl _ rfl
        have hSn := hS.below (bl_one Y4 (.cells #[.slice B1 m1 d1, .slice B2 m2 d2] 38))
        have how := how.below (bl_one Y4 (.cells #[.slice B1 m1 d1, .slice B2 m2 d2] 38))
        refine hK.out _ _ (hSn) (fun hS => ?_)
        clear hK K
        try simp only [Act.put, List.setIfInBounds_toArray, List.set_cons_zero, List.set_cons_succ]
        clear hSn r1 r2 hq1 hq2
        have HMd := Lib.hid (made7_is _ 15 (some ⟨Y4.heap.size, 0, none⟩) 2 2 [famB, puts u.un] hL (by omega) HLg.out)
        rw [HFg.out] at HMd
        clear hL
        generalize Y4.alloc (.cells #[.slice B1 m1 d1, .slice B2 m2 d2] 38) = Y5 at *
        refine wpAnyH_ready (rs := [6]) (by kernel_rfl) (by simp) ?_
        refine AllReadyH.cons (o := ⟨some 42, _, _, _, _, _⟩) rfl (fun K hK => ?_) AllReadyH.nil
        rw [if_pos (by rfl)]
        go_wp2_with fail
        refine (HMd.out).mono ?_
        rintro e Y6 ⟨B6, d6, rfl, hbd, hB⟩
        have hbd := hbd.low (lo' := w.heap.size + 1) hS.bx.lt
        have hSn := hS.below hB
        have how := how.below hB
        clear hB hS HMd
        refine hK.out _ _ (hSn) (fun hS => ?_)
        clear hK K
        try simp only [Act.put, List.setIfInBounds_toArray, List.set_cons_zero, List.set_cons_succ]
        clear hSn
        generalize hq4 : (goneV u).length = m4 at *
        generalize hq5 : lfl 128 (goneV u) = f4 at *
        refine wpAnyH_ready (rs := [7]) (by kernel_rfl) (by simp) ?_
        refine AllReadyH.cons (o := ⟨some 43, _, _, _, _, _⟩) rfl (fun K hK => ?_) AllReadyH.nil
        rw [if_pos (by rfl)]
        refine one_raw_wp _ rfl f4 15 B6 m4 d6 rfl ?_
        have hS6 := hS
        refine hK.out _ _ (hS.below (bl_one Y6 _)) (fun hS => ?_)
        clear hK K
        try simp only [Act.put, List.setIfInBounds_toArray, List.set_cons_zero, List.set_cons_succ]
        refine wpAnyH_ready (rs := [8]) (by kernel_rfl) (by simp) ?_
        refine AllReadyH.cons (o := ⟨some 44, _, _, _, _, _⟩) rfl (fun K hK => ?_) AllReadyH.nil
        rw [if_pos (by rfl)]
        refine app_w_wp _ _ rfl how hS6.bx.lt (by have := write_len u.at_; simp; try omega) hbd rfl rfl ?_
        intro v8 Y7 ho7 hb7 hg7 hold7
        have hS7 := hS6.low1 hb7
        have ho7 : OwnW (w.heap.size + 1) Y7 v8 ((writeR u.at_ ++ [rawW 128 14 (reachV u)]) ++ [rawW 128 15 (goneV u)]) := by rw [show ((writeR u.at_ ++ [rawW 128 14 (reachV u)]) ++ [rawW 128 15 (goneV u)] : List Raw) = (writeR u.at_ ++ [rawW 128 14 (reachV u)]) ++ [(f4, 15, goneV u)] from by rw [← hq5]; rfl]; exact ho7
        clear how hbd hb7 hg7 hold7 hS6 hS hq4 hq5
        refine hK.out _ _ (hS7) (fun hS => ?_)
        clear hK K
        try simp only [Act.put, List.setIfInBounds_toArray, List.set_cons_zero, List.set_cons_succ]
        refine wpAnyH_take (i := 9) (oi := ⟨some 4, _, _, _, _, _⟩) (v := ?_) rfl (by kernel_rfl) (by kernel_rfl) (by kernel_rfl) (fun _ _ _ h => h) (Or.inl ⟨by rfl, ?_⟩) hS ?_
        rotate_left
        · intro wq hq
          first | (go_simp; done) | (go_simp; rfl)
        try simp only [Act.put, List.setIfInBounds_toArray, List.set_cons_zero, List.set_cons_succ]
        refine wpAnyH_done (by kernel_rfl) ?_ _
        have HS := Lib.hid hS7
        have HOw := Lib.hid ho7
        clear hS hS7 ho7
        go_wp2_with fail
        refine (sort_raw (w.heap.size + 1) _ _ ((writeR u.at_ ++ [rawW 128 14 (reachV u)]) ++ [rawW 128 15 (goneV u)]) HOw.out HS.out.bx.lt HNd.out (by have := HTl.out; omega)).mono ?_
        rintro e Y ⟨rfl, hB, A9, c9, ss, hv, hrd, hpm, hso⟩
        subst hv
        have HEnd : Hid (RawsP w u (.returned (.tuple #[.slice A9 ((writeR u.at_ ++ [rawW 128 14 (reachV u)]) ++ [rawW 128 15 (goneV u)] : List Raw).length c9, .int .i64 0])) Y) := Lib.hid (by
          rw [HPre.out] at hpm
          obtain rfl := sorted_raws hpm hso
          have hl : ((writeR u.at_ ++ [rawW 128 14 (reachV u)]) ++ [rawW 128 15 (goneV u)] : List Raw).length = (rawsU u).length := by rw [HPre.out]; exact (hpm.length_eq).symm
          rw [hl] at hrd ⊢
          exact ⟨HS.out.low.trans (hB.mono (Nat.le_succ _)), Or.inr ⟨HWe.out, A9, c9, rfl, hrd⟩⟩)
        clear hB hrd hpm hso
        generalize ((writeR u.at_ ++ [rawW 128 14 (reachV u)]) ++ [rawW 128 15 (goneV u)] : List Raw).length = tl at *
        go_wp2
        go_ret2
        exact HEnd.out
    · have HWr2 := Lib.hid (HWr.out.mono (R' := fun e w' => e = .returned (.tuple #[.slice none 0 0, .int .i64 (writeE u.at_)]) ∧ Below (w.alloc (.cells (upc cs u.nv u.nl (.slice A1 n1 c1) (.slice A2 n2 c2)).toArray 34)).heap.size (w.alloc (.cells (upc cs u.nv u.nl (.slice A1 n1 c1) (.slice A2 n2 c2)).toArray 34)) w') (by
        rintro e w' ⟨hB, hp⟩
        rw [if_neg hw] at hp
        exact ⟨hp, hB⟩))
      have HEnd : Hid (∀ Y, Below w.heap.size w Y → RawsP w u (.returned (.tuple #[.slice none 0 0, .int .i64 (writeE u.at_)])) Y) := Lib.hid (fun Y hB => ⟨hB, Or.inl ⟨HRn.out, hw, rfl⟩⟩)
      clear HWr
      generalize writeE u.at_ = we at *
      have e0 : (we != 0) = true := by simpa using hw
      clear hw
      go_enter Tryz.func49, Tryz.ntmps49
      go_wp2_with (first | (refine upa_fetch rfl _ rfl w.heap.size HS.out.bx rfl ?_) | fail)
      refine HWr2.out.mono ?_
      rintro e W2 ⟨rfl, hB⟩
      have HS2 := Lib.hid (HS.out.below hB)
      clear hB hr44 HWr2
      go_wp2
      go_ret2
      exact HEnd.out _ HS2.out.low
end Go.Proofs.YtdgoeibfggjbmaaGreatDoor
namespace Go.Proofs.YtdgoeibfggjbmaaGreatDoor
open Go.RowKit
set_option maxRecDepth 100000
set_option linter.unusedSimpArgs false
set_option linter.unusedVariables false

theorem raws_val {u : Up} (hu : UpOk u) (hr : rightU u = true) (hw : u.re ≠ [] → writeE u.at_ = 0) (h1 : u.re.length ≤ 900000) (h2 : u.un.length ≤ 900000) : ∀ r ∈ rawsU u, r.2.2.length ≤ 140737488355328 := by
  unfold rightU at hr
  simp only [Bool.and_eq_true] at hr
  have hpr := puts_le (rights_all hu.re hr.2.1)
  have hpu := puts_le (rights_all hu.un hr.1)
  have hf3 : famB.length = 3 := rfl
  have hnx : (nextB u.nv u.nl).length ≤ 100 := by unfold nextB nb; split <;> simp <;> omega
  intro r hm
  have hm := (raws_perm u).mem_iff.1 hm
  unfold preU at hm
  rcases List.mem_append.1 hm with hm | hm
  · by_cases hre : u.re = []
    · rw [if_pos hre] at hm; cases hm
    · rw [if_neg hre] at hm
      rcases List.mem_append.1 hm with hm | hm
      · obtain ⟨_, p1, p2, p3⟩ := writeE_parts (hw hre)
        have := enc_val (write_enc hu.at_ p1 p2 p3 r hm)
        omega
      · rw [List.mem_singleton] at hm
        subst hm
        show (reachV u).length ≤ _
        unfold reachV
        simp only [List.length_append]
        omega
  · unfold goneR at hm
    by_cases hun : u.un = []
    · rw [if_pos hun] at hm; cases hm
    · rw [if_neg hun, List.mem_singleton] at hm
      subst hm
      show (goneV u).length ≤ _
      unfold goneV
      simp only [List.length_append]
      omega
theorem raws_join (u : Up) (m : Nat) (hm : m ≤ (rawsU u).length) (h : ∀ j (hj : j < (rawsU u).length), j < m → encE (rawsU u)[j] = 0) : (joinB ((rawsU u).take m)).length ≤ 99900000 := by
  have h1 := joinB_len ((rawsU u).take m) (fun r hr => by
    obtain ⟨j, hj, rfl⟩ := List.getElem_of_mem hr
    rw [List.getElem_take]
    have : j < m := by simp at hj; omega
    exact h j (by simp at hj; omega) this)
  have h2 := raws_len u
  have h3 : ((rawsU u).take m).length ≤ 10 := by simp; omega
  omega
theorem joinE_all {rs : List Raw} (h : joinE rs = 0) : ∀ r ∈ rs, encE r = 0 := by
  intro r hr
  unfold joinE at h
  cases hf : rs.find? (fun r => decide (encE r ≠ 0)) with
  | none =>
    rw [List.find?_eq_none] at hf
    simpa using hf r hr
  | some x =>
    rw [hf] at h
    have := List.find?_some hf
    simp at this
    exact absurd h this
theorem raws_jlen {u : Up} (h : joinE (rawsU u) = 0) : (joinB (rawsU u)).length ≤ 99900000 := by
  have := raws_join u (rawsU u).length (Nat.le_refl _) (fun j hj _ => joinE_all h _ (List.getElem_mem hj))
  rwa [List.take_length] at this
def PutU (w : World) (u : Up) (e : Ending) (w' : World) : Prop := ∃ v, e = .returned (.tuple #[v, .int .i64 (upE u)]) ∧ OwnB w.heap.size w' v (bodyU u) ∧ Below w.heap.size w w'
theorem PutU.no {w w' : World} {u : Up} {k : Int} (hB : Below w.heap.size w w') (h : upE u = k) (hk : k ≠ 0) : PutU w u (.returned (.tuple #[.slice none 0 0, .int .i64 k])) w' :=
  ⟨_, by rw [h], by unfold bodyU; rw [h, if_neg hk]; exact OwnB.nil_ _ _, hB⟩
theorem upc_att {w : World} {cs : List Value} {a : Att} (h : RdAt w w.heap.size cs a) (hip : a.pm.ip.length = 16) : cs.length = 27 := by
  obtain ⟨_, _, _, _, _, _, rfl, _⟩ := h.ex
  exact attV_len _ _ _ _ hip

set_option maxHeartbeats 4000000 in
theorem put7_is (w : World) (E : EnvK w) (u : Up) (hu : UpOk u) (cs : List Value) (hcs : RdAt w w.heap.size cs u.at_) (A1 : Option Addr) (n1 c1 : Nat) (A2 : Option Addr) (n2 c2 : Nat) (hr : UpRd w u A1 n1 A2 n2) (h1 : n1 ≤ 900000) (h2 : n2 ≤ 900000) :
    Calls Tryz.prog 18 #[.agg (upc cs u.nv u.nl (.slice A1 n1 c1) (.slice A2 n2 c2)).toArray] w (PutU w u) := by
  have hc := upc_att hcs hu.at_.ip
  have hal := bl_one w (.cells (upc cs u.nv u.nl (.slice A1 n1 c1) (.slice A2 n2 c2)).toArray 34)
  have HS : Hid (PbS w (w.alloc (.cells (upc cs u.nv u.nl (.slice A1 n1 c1) (.slice A2 n2 c2)).toArray 34)) cs u (.slice A1 n1 c1) (.slice A2 n2 c2)) := Lib.hid ⟨UpBox.new w hc hu.nl, hal⟩
  have HI := Lib.hid (fun W (hB : Below w.heap.size w W) => isRight7_is W u hu cs hc A1 n1 c1 A2 n2 c2 (hr.up hB) h1 h2)
  have HRw := Lib.hid (fun W (hB : Below w.heap.size w W) (q1 : rightsB u.re = true) (q2 : rightsB u.un = true) => raws7_is W (E.below hB) u hu cs ((hcs.below hB).more hB.size) A1 n1 c1 A2 n2 c2 (hr.up hB) h1 h2 q1 q2)
  have HL := Lib.hid hr.re.len
  have HL2 := Lib.hid hr.un.len
  have HOk := Lib.hid hu
  clear hr hu hcs hc E hal
  cases hru : rightU u
  · have HEnd := Lib.hid (fun W (hB : Below w.heap.size w W) => PutU.no hB (show upE u = 2 from by unfold upE; rw [if_pos hru]) (by decide))
    rw [hru] at HI
    clear hru HRw
    go_enter Tryz.func18, Tryz.ntmps18
    go_wp2_with (first | (refine up_fetch rfl _ rfl w.heap.size HS.out.bx rfl ?_) | fail)
    refine (HI.out _ HS.out.low).mono ?_
    rintro e W2 ⟨rfl, hB⟩
    have HS2 := Lib.hid (HS.out.below hB)
    clear hB HI HS
    go_wp2
    go_ret2
    exact HEnd.out _ HS2.out.low
  · have HR := Lib.hid hru
    have hq : rightsB u.re = true ∧ rightsB u.un = true := by
      unfold rightU at hru
      simp only [Bool.and_eq_true] at hru
      exact ⟨hru.2.1, hru.1⟩
    have HQ := Lib.hid hq
    rw [hru] at HI
    clear hru hq
    go_enter Tryz.func18, Tryz.ntmps18
    go_wp2_with (first | (refine up_fetch rfl _ rfl w.heap.size HS.out.bx rfl ?_) | fail)
    refine (HI.out _ HS.out.low).mono ?_
    rintro e W2 ⟨rfl, hB⟩
    have HS2 := Lib.hid (HS.out.below hB)
    clear hB HI HS
    go_wp2_with (first | (refine up_fetch rfl _ rfl w.heap.size HS2.out.bx rfl ?_) | fail)
    refine (HRw.out _ HS2.out.low HQ.out.1 HQ.out.2).mono ?_
    rintro e W3 ⟨hB, hcase⟩
    have HS3 := Lib.hid (HS2.out.below hB)
    clear hB HRw HS2
    rcases hcase with ⟨hne, hwe, rfl⟩ | ⟨hwe, A, c, rfl, hrd⟩
    · have HEnd := Lib.hid (fun W (hB : Below w.heap.size w W) => PutU.no hB (show upE u = writeE u.at_ from by unfold upE; rw [if_neg (by rw [HR.out]; decide), if_pos ⟨hne, hwe⟩]) hwe)
      generalize writeE u.at_ = we at *
      have e0 : (we != 0) = true := by simpa using hwe
      clear hwe hne
      go_wp2
      go_ret2
      exact HEnd.out _ HS3.out.low
    · have HJ := Lib.hid (join_is W3 A (rawsU u).length c (rawsU u) hrd (by have := raws_len u; omega) (raws_val HOk.out HR.out hwe (by have := HL.out; omega) (by have := HL2.out; omega)) (fun m hm h => raws_join u m hm h))
      have hE0 : upE u = if joinE (rawsU u) ≠ 0 then joinE (rawsU u) else if 4077 < 4 + (joinB (rawsU u)).length then 5 else 0 := by
        unfold upE
        rw [if_neg (by rw [HR.out]; decide), if_neg (fun h => h.2 (hwe h.1))]
      have HE0 := Lib.hid hE0
      have HBo : Hid (upE u = 0 → bodyU u = upB u) := Lib.hid (fun h => by unfold bodyU; rw [if_pos h])
      have HUb : Hid ([be 2 0, be 2 ((joinB (rawsU u)).length : Int), joinB (rawsU u)].flatten = upB u) := Lib.hid (by
        have e2 : be 2 0 = [0, 0] := by decide
        rw [e2]; simp [upB])
      have hjl : joinE (rawsU u) = 0 → (joinB (rawsU u)).length ≤ 99900000 := raws_jlen
      clear hwe hrd hE0
      generalize hrs : rawsU u = rs at *
      generalize hrl : rs.length = rl at *
      clear hrl hrs
      by_cases hj : joinE rs = 0
      · go_wp2_with fail
        refine HJ.out.mono ?_
        rintro e W4 ⟨hB, hp⟩
        rw [if_pos hj] at hp
        obtain ⟨v, rfl, hO⟩ := hp
        obtain ⟨A4, c4, rfl, _, hr4, _⟩ := hO.at_
        have HS4 := Lib.hid (HS3.out.below hB)
        have HR4 := Lib.hid hr4
        have HOct := Lib.hid hO.oct
        rw [if_neg (by simp [hj])] at HE0
        have hjb := hjl hj
        clear hjl
        generalize joinB rs = jb at *
        clear hB hO hr4 HJ HS3 hj
        by_cases hlen : 4077 < 4 + jb.length
        · have HEnd := Lib.hid (fun W (hB : Below w.heap.size w W) => PutU.no hB (show upE u = 5 from by rw [HE0.out, if_pos hlen]) (by decide))
          have hgt : 4 + (jb.length : Int) > 4077 := by omega
          clear hlen
          go_wp2
          go_ret2
          exact HEnd.out _ HS4.out.low
        · have HZ : Hid (upE u = 0) := Lib.hid (by rw [HE0.out, if_neg hlen])
          have hgt : ¬ (4 + (jb.length : Int) > 4077) := by omega
          have hlen2 : jb.length ≤ 4073 := by omega
          clear hlen
          go_wp2_with fail
          refine (numU7_is W4 0 2 (by omega) (by omega) (by omega) (by decide) (by omega)).mono ?_
          rintro e W5 hnp
          obtain ⟨rfl, r1, hB⟩ := hnp.rd7
          have HS5 := Lib.hid (HS4.out.below hB)
          have HR5 := Lib.hid (HR4.out.up7 hB)
          have HA5 := Lib.hid r1
          clear hnp r1 hB HS4 HR4
          go_wp2_with fail
          refine (numU7_is W5 (jb.length : Int) 2 (by omega) (by omega) (by omega) (by omega) (by omega)).mono ?_
          rintro e W6 hnp
          obtain ⟨rfl, r2, hB⟩ := hnp.rd7
          have HS6 := Lib.hid (HS5.out.below hB)
          have hL := rdl_new_at (W := W6) (vs := [(some ⟨W4.heap.size, 0, none⟩, 2, 2), (some ⟨W5.heap.size, 0, none⟩, 2, 2), (A4, jb.length, c4)]) (ls := [be 2 0, be 2 (jb.length : Int), jb]) ⟨HA5.out.up7 hB, r2, HR5.out.up7 hB, trivial⟩ 38 #[.slice (some ⟨W4.heap.size, 0, none⟩) 2 2, .slice (some ⟨W5.heap.size, 0, none⟩) 2 2, .slice A4 jb.length c4] rfl _ rfl
          have HC := Lib.hid (concat_is _ _ 3 3 _ hL (by omega) (by rw [HUb.out]; unfold upB; have := congrArg List.length HUb.out; simp only [List.flatten_cons, List.flatten_nil, List.length_append, List.length_nil, be_len, upB] at this; simp only [List.length_append, List.length_cons, List.length_nil, be_len]; omega))
          have HS7 := Lib.hid (HS6.out.below (bl_one W6 (.cells #[.slice (some ⟨W4.heap.size, 0, none⟩) 2 2, .slice (some ⟨W5.heap.size, 0, none⟩) 2 2, .slice A4 jb.length c4] 38)))
          rw [HUb.out] at HC
          have hs7 : w.heap.size ≤ (W6.alloc (.cells #[.slice (some ⟨W4.heap.size, 0, none⟩) 2 2, .slice (some ⟨W5.heap.size, 0, none⟩) 2 2, .slice A4 jb.length c4] 38)).heap.size := HS7.out.low.size
          clear hnp r2 hB hL HS5 HR5 HA5 HS6
          go_wp2_with fail
          refine HC.out.mono ?_
          rintro e W8 ⟨x, rfl, hO, hB⟩
          have HEnd : Hid (PutU w u (.returned (.tuple #[x, .int .i64 0])) W8) := Lib.hid ⟨x, by rw [HZ.out], by rw [HBo.out HZ.out]; exact hO.low hs7, HS7.out.low.trans (hB.mono hs7)⟩
          clear hO hB hs7
          go_wp2
          go_ret2
          exact HEnd.out
      · go_wp2_with fail
        refine HJ.out.mono ?_
        rintro e W4 ⟨hB, hp⟩
        rw [if_neg hj] at hp
        subst hp
        have HEnd := Lib.hid (fun W (hB : Below w.heap.size w W) => PutU.no hB (show upE u = joinE rs from by rw [HE0.out, if_pos hj]) hj)
        have HS4 := Lib.hid (HS3.out.below hB)
        clear hB HE0 HJ HBo HUb hjl
        generalize joinE rs = je at *
        have e0 : (je != 0) = true := by simpa using hj
        clear hj
        go_wp2
        go_ret2
        exact HEnd.out _ HS4.out.low
end Go.Proofs.YtdgoeibfggjbmaaGreatDoor
namespace Go.Proofs.YtdgoeibfggjbmaaGreatDoor
open Go.RowKit
set_option maxRecDepth 100000
set_option linter.unusedSimpArgs false
set_option linter.unusedVariables false

def zat : List Value := attV Att.zero (.slice none 0 0) (.slice none 0 0) (.slice none 0 0)
def zup : List Value := upc zat false z16 (.slice none 0 0) (.slice none 0 0)
theorem zup_len : zup.length = 46 := by rfl
theorem upc_one {cs : List Value} {nv : Bool} {nl : List Int} {vr vu : Value} (h : ∀ v ∈ cs, v.oneCell' = true) (h1 : vr.oneCell' = true) (h2 : vu.oneCell' = true) : ∀ v ∈ upc cs nv nl vr vu, v.oneCell' = true := by
  intro v hv
  rcases List.mem_append.1 hv with hv | hv
  · exact h v hv
  · rcases List.mem_append.1 hv with hv | hv
    · exact one_ipcN _ _ v hv
    · simp only [List.mem_cons, List.mem_nil_iff, or_false] at hv
      rcases hv with rfl | rfl
      · exact h1
      · exact h2
theorem zup_one : ∀ v ∈ zup, v.oneCell' = true := upc_one (one_attV _ rfl rfl rfl) rfl rfl
/-- The memory of refused. -/
structure RfS (w W : World) (cs : List Value) : Prop where
  bx : Blk W w.heap.size 56 cs.toArray
  t2 : ∃ Z, Blk W (w.heap.size + 1) 34 Z ∧ Z.size = 46
  t4 : ∃ Z, Blk W (w.heap.size + 2) 56 Z ∧ Z.size = 3
  low : Below w.heap.size w W
theorem RfS.below {w W W' : World} {cs : List Value} (h : RfS w W cs) (hB : Below W.heap.size W W') : RfS w W' cs := by
  obtain ⟨Z2, h2, z2⟩ := h.t2
  obtain ⟨Z4, h4, z4⟩ := h.t4
  exact ⟨h.bx.below hB h.bx.lt, ⟨Z2, h2.below hB h2.lt, z2⟩, ⟨Z4, h4.below hB h4.lt, z4⟩, h.low.trans (hB.mono h.low.size)⟩
theorem RfS.put2 {w W : World} {cs : List Value} (h : RfS w W cs) (ds : Array Value) (hd : ds.size = 46) : RfS w (W.setRow (w.heap.size + 1) ds) cs := by
  obtain ⟨Z2, h2, z2⟩ := h.t2
  obtain ⟨Z4, h4, z4⟩ := h.t4
  exact ⟨h.bx.setRow_otherN (by omega) _, ⟨ds, h2.setRow _, hd⟩, ⟨Z4, h4.setRow_otherN (by omega) _, z4⟩, h.low.trans (below_setRow _ _ _ (by omega))⟩
theorem RfS.put4 {w W : World} {cs : List Value} (h : RfS w W cs) (ds : Array Value) (hd : ds.size = 3) : RfS w (W.setRow (w.heap.size + 2) ds) cs := by
  obtain ⟨Z2, h2, z2⟩ := h.t2
  obtain ⟨Z4, h4, z4⟩ := h.t4
  exact ⟨h.bx.setRow_otherN (by omega) _, ⟨Z2, h2.setRow_otherN (by omega) _, z2⟩, ⟨ds, h4.setRow _, hd⟩, h.low.trans (below_setRow _ _ _ (by omega))⟩
def RefP (w : World) (c s : Int) (A : Option Addr) (n cp : Nat) (e : Ending) (w' : World) : Prop := e = .returned (.tuple #[.agg zup.toArray, .int .i64 3, .agg #[.int .i64 c, .int .i64 s, .slice A n cp]]) ∧ Below w.heap.size w w'
set_option maxHeartbeats 1000000 in
theorem refused7_is (w : World) (c s : Int) (A : Option Addr) (n cp : Nat) : Calls Tryz.prog 62 #[.agg #[.int .i64 c, .int .i64 s, .slice A n cp]] w (RefP w c s A n cp) := by
  have hS0 : RfS w (((w.alloc (.cells [.int .i64 c, .int .i64 s, .slice A n cp].toArray 56)).alloc (.cells zup.toArray 34)).alloc (.cells #[.int .i64 0, .int .i64 0, .slice none 0 0] 56)) [.int .i64 c, .int .i64 s, .slice A n cp] := by
    refine ⟨((Blk.new w 56 _).alloc _).alloc _, ⟨zup.toArray, ?_, by rfl⟩, ⟨#[.int .i64 0, .int .i64 0, .slice none 0 0], ?_, rfl⟩, (((Below.refl w.heap.size w).alloc (Nat.le_refl _) _).alloc (by simp) _).alloc (by simp; omega) _⟩
    · have := (Blk.new (w.alloc (.cells [.int .i64 c, .int .i64 s, .slice A n cp].toArray 56)) 34 zup.toArray).alloc (.cells #[.int .i64 0, .int .i64 0, .slice none 0 0] 56)
      simpa using this
    · have := Blk.new ((w.alloc (.cells [.int .i64 c, .int .i64 s, .slice A n cp].toArray 56)).alloc (.cells zup.toArray 34)) 56 #[.int .i64 0, .int .i64 0, .slice none 0 0]
      simpa using this
  have HS0 := Lib.hid hS0
  clear hS0
  go_enter Tryz.func62, Tryz.ntmps62
  go_wp2_with fail
  refine wp_region_held_drew (S := fun W => RfS w W [.int .i64 c, .int .i64 s, .slice A n cp]) (by kernel_rfl) (HS0.out.below (bl_drew _)) (fun hS => ?_)
  refine wpAnyH_take (i := 0) (oi := ⟨some 5, _, _, _, _, _⟩) (v := ?_) rfl (by kernel_rfl) (by kernel_rfl) (by kernel_rfl) (fun _ _ _ h => h) (Or.inl ⟨by rfl, ?_⟩) hS ?_
  rotate_left
  · intro wq hq
    first | (go_simp; done) | (go_simp; rfl)
  try simp only [Act.put, List.setIfInBounds_toArray, List.set_cons_zero, List.set_cons_succ]
  refine wpAnyH_take (i := 1) (oi := ⟨some 6, _, _, _, _, _⟩) rfl (by kernel_rfl) (by kernel_rfl) (by kernel_rfl) (fun _ _ _ h => h) (yieldsIf_load_mid (by rfl) 56 _ rfl _ _ rfl ([.int .i64 c, .int .i64 s, .slice A n cp]) _ (fun wq hq => hq.bx.range) Tryz.underlying56 rfl (by rw [fsz]; rfl)) hS ?_
  try simp only [Act.put, List.setIfInBounds_toArray, List.set_cons_zero, List.set_cons_succ]
  obtain ⟨Z2, h2, z2⟩ := hS.t2
  refine wpAnyH_ready (rs := [2]) (by kernel_rfl) (by simp) ?_
  refine AllReadyH.cons (o := ⟨none, _, _, _, _, _⟩) rfl (fun K hK => ?_) AllReadyH.nil
  rw [if_pos (by rfl)]
  refine wp_store_row 34 _ _ rfl (w.heap.size + 1) zup.toArray rfl rfl 34 Z2 h2 (by rw [usz]; rfl) (by rw [z2]; rfl) (all_oneCell_toArray zup_one) ?_
  have g2 := h2.setRow zup.toArray
  refine hK.out _ _ (hS.put2 zup.toArray (by rfl)) (fun hS => ?_)
  clear hK K
  try simp only [Act.put, List.setIfInBounds_toArray, List.set_cons_zero, List.set_cons_succ]
  refine wpAnyH_take (i := 3) (oi := ⟨some 3, _, _, _, _, _⟩) (v := ?_) rfl (by kernel_rfl) (by kernel_rfl) (by kernel_rfl) (fun _ _ _ h => h) (Or.inl ⟨by rfl, ?_⟩) hS ?_
  rotate_left
  · intro wq hq
    first | (go_simp; done) | (go_simp; rfl)
  try simp only [Act.put, List.setIfInBounds_toArray, List.set_cons_zero, List.set_cons_succ]
  obtain ⟨Z4, h4, z4⟩ := hS.t4
  refine wpAnyH_ready (rs := [4]) (by kernel_rfl) (by simp) ?_
  refine AllReadyH.cons (o := ⟨none, _, _, _, _, _⟩) rfl (fun K hK => ?_) AllReadyH.nil
  rw [if_pos (by rfl)]
  refine wp_store_row 56 _ _ rfl (w.heap.size + 2) #[.int .i64 c, .int .i64 s, .slice A n cp] rfl rfl 56 Z4 h4 (by rw [fsz]; rfl) (by rw [z4]; rfl) (by kernel_rfl) ?_
  have g4 := h4.setRow #[.int .i64 c, .int .i64 s, .slice A n cp]
  have g22 := g2.setRow_otherN (g' := w.heap.size + 2) (by omega) #[.int .i64 c, .int .i64 s, .slice A n cp]
  have hlow := (hS.put4 #[.int .i64 c, .int .i64 s, .slice A n cp] rfl).low
  refine hK.out _ _ (hS.put4 _ rfl) (fun hS => ?_)
  clear hK K
  try simp only [Act.put, List.setIfInBounds_toArray, List.set_cons_zero, List.set_cons_succ]
  refine wpAnyH_done (by kernel_rfl) ?_ _
  have HG4 := Lib.hid g4
  have HG2 := Lib.hid g22
  have HLow := Lib.hid hlow
  clear hS h2 h4 g2 g4 g22 hlow z2 z4
  go_wp2
  try simp only [Exit.inBlock, Exit.then]
  exact bodyPost_ret (results_csc rfl _ _ (w.heap.size + 1) (w.heap.size + 2) zup [.int .i64 c, .int .i64 s, .slice A n cp] _ _ (.int .i64 3) rfl rfl rfl HG2.out.range HG4.out.range Tryz.underlying34 rfl (by rw [usz]; rfl) Tryz.underlying56 rfl (by rw [fsz]; rfl)) rfl ⟨rfl, HLow.out⟩

/-! faultOf. -/
theorem OwnR.rdc {lo : Nat} {w : World} {v : Value} {rs : List Raw} (h : OwnR lo w v rs) : ∃ A c, v = .slice A rs.length c ∧ rs.length ≤ c ∧ RdR w w.heap.size A rs.length rs := by
  obtain ⟨A, c, rfl, hr⟩ := h.rd
  obtain ⟨cs, h1, _⟩ := h
  refine ⟨A, c, rfl, ?_, hr⟩
  rcases h1.2 with ⟨e, hn⟩ | ⟨g, cap, cur, e, _, _, hnc, _⟩
  · rw [hn]; exact Nat.zero_le _
  · injection e with _ _ e; omega
theorem RdR.one_ {w : World} {B b off : Nat} {n : Nat} {rs : List Raw} (h : RdR w B (some ⟨b, off, none⟩) n rs) {i : Nat} (hi : i < rs.length) : RdR w B (some ⟨b, off + i * 3, none⟩) 1 [rs[i]] := by
  obtain ⟨b', off', e, hb, hc⟩ := h.at_ (by have := h.len; omega)
  injection e with e
  injection e with e1 e2 _
  subst e1 e2
  obtain ⟨A1, n1, c1, k0, k1, k2, k3⟩ := hc i hi
  refine ⟨rfl, fun _ => ⟨b, off + i * 3, rfl, hb, fun j hj => ?_⟩⟩
  obtain rfl : j = 0 := by simp at hj; omega
  exact ⟨A1, n1, c1, by simpa using k0, by simpa using k1, by simpa using k2, by simpa using k3⟩
def FofP (w : World) (l : List Int) (e : Ending) (w' : World) : Prop := ∃ A n c, e = .returned (.agg #[.int .i64 3, .int .i64 9, .slice A n c]) ∧ OwnB w.heap.size w' (.slice A n c) l ∧ Below w.heap.size w w'
set_option maxHeartbeats 1000000 in
theorem faultOf7_is (w : World) (A : Option Addr) (n c : Nat) (rs : List Raw) (k : Int) (i : Nat) (hi : i < rs.length) (hp : plc rs k = i) (hr : RdR w w.heap.size A n rs) (hc : n ≤ c) (hn : n ≤ 1048576) (he : encE rs[i] = 0) : Calls Tryz.prog 65 #[.slice A n c, .int .i64 k] w (FofP w (encB rs[i])) := by
  have hal := bl_one w (.cells #[.int .i64 0, .int .i64 0, .slice none 0 0] 56)
  have hr1 := (hr.below hal).more hal.size
  have HR := Lib.hid hr1
  have HP := Lib.hid (place7_is _ A n c rs k hr1 hn)
  have HB0 := Lib.hid hal
  have H0 := Lib.hid (Blk.new w 56 #[.int .i64 0, .int .i64 0, .slice none 0 0])
  have hlen := hr.len
  have HE := Lib.hid he
  have hv := enc_val he
  have hb := encB_len rs[i] he
  rw [hp] at HP
  clear hp hr he hal hr1
  obtain ⟨b, off, hA, _⟩ := HR.out.at_ (by omega)
  subst hA
  have hel : Tryz.prog.elem 64 = 67 := by kernel_rfl
  have hu : Tryz.prog.underlying 64 = some (.slice (Tryz.prog.elem 64)) := by kernel_rfl
  have hsl : ∀ W, (Instr.sliceAt 64 (.slice (some ⟨b, off, none⟩) n c) (some (.int .i64 (i : Int))) (some (.int .i64 ((i : Int) + 1))) none).run Tryz.prog W = .ok (.slice (some ⟨b, off + i * 3, none⟩) 1 (c - i)) W := fun W => by
    rw [run_sliceAt_slice (h := hu), run_slice_lh (ht := hu) (h0 := by omega) (h1 := by omega) (h2 := by omega), hel, Tryz.sizeOf67]
    have e1 : ((i : Int) + 1).toNat = i + 1 := by omega
    have e2 : (⟨b, off, none⟩ : Addr).add (i * 3) = ⟨b, off + i * 3, none⟩ := by unfold Addr.add; split <;> simp_all
    simp only [Result.andThen, sliced, Int.toNat_natCast, e1, if_neg (show ¬ c = i by omega), Option.map_some, e2, Nat.add_sub_cancel_left]
  clear hel hu
  have HRd := Lib.hid (fun W (hB : Below (w.alloc (.cells #[.int .i64 0, .int .i64 0, .slice none 0 0] 56)).heap.size (w.alloc (.cells #[.int .i64 0, .int .i64 0, .slice none 0 0] 56)) W) => ((HR.out.below hB).more hB.size).one_ hi)
  generalize rs[i] = r at *
  have HJb : Hid (joinB [r] = encB r ∧ joinE [r] = 0) := Lib.hid ⟨by simp [joinB], joinE_zero (fun x hx => by rw [List.mem_singleton] at hx; subst hx; exact HE.out)⟩
  have hi0 : (0 : Int) ≤ (i : Int) := by omega
  have hw1 : IntKind.i64.wrap ((i : Int) + 1) = (i : Int) + 1 := IntWalk.i64_in _ (by omega)
  have hilt : (i : Int) ≤ 1048576 := by omega
  go_enter Tryz.func65, Tryz.ntmps65
  go_wp2_with fail
  refine HP.out.mono ?_
  rintro e W1 ⟨rfl, hB⟩
  have HB1 := Lib.hid (HB0.out.trans (hB.mono (by simp)))
  have H1 := Lib.hid (H0.out.below hB (by simp))
  have hr1 := HRd.out W1 hB
  have HJ := Lib.hid (join_is W1 (some ⟨b, off + i * 3, none⟩) 1 (c - i) [r] hr1 (by omega) (fun x hx => by rw [List.mem_singleton] at hx; subst hx; omega) (fun m hm h => by
    have h1 := joinB_len ([r].take m) (fun x hx => by have := List.mem_of_mem_take hx; rw [List.mem_singleton] at this; subst this; exact HE.out)
    have h2 : ([r].take m).length ≤ 1 := by simp; omega
    omega))
  clear hB hr1 HRd HP HB0 H0
  go_wp2_with fail
  refine HJ.out.mono ?_
  rintro e W2 ⟨hB, hp⟩
  rw [if_pos HJb.out.2, HJb.out.1] at hp
  obtain ⟨v, rfl, hO⟩ := hp
  obtain ⟨A3, c3, rfl, _⟩ := hO.at_
  generalize hn3 : (encB r).length = n3 at *
  have hlt : w.heap.size < W1.heap.size := H1.out.lt
  have HB2 := Lib.hid (HB1.out.trans (hB.mono HB1.out.size))
  have H2 := Lib.hid (H1.out.below hB H1.out.lt)
  have hg3 := below_setRow W2 w.heap.size #[.int .i64 3, .int .i64 9, .slice A3 n3 c3] (Nat.le_refl _)
  have g3 : W2.grownBy (W2.setRow w.heap.size #[.int .i64 3, .int .i64 9, .slice A3 n3 c3]) (some w.heap.size) := ⟨hg3.os, hg3.tape, hg3.output, hg3.size, fun i hi hne => setRow_other _ _ _ _ (fun e => hne (by rw [e]))⟩
  have HEnd : Hid (FofP w (encB r) (.returned (.agg #[.int .i64 3, .int .i64 9, .slice A3 n3 c3])) (W2.setRow w.heap.size #[.int .i64 3, .int .i64 9, .slice A3 n3 c3])) := Lib.hid ⟨A3, n3, c3, rfl, (hO.far g3 hlt).low (Nat.le_of_lt hlt), HB2.out.trans hg3⟩
  clear hB hO hn3 hg3 g3 HJ HB1 H1
  go_wp2_with (first
    | (refine fault_store5 rfl _ _ rfl w.heap.size 3 9 A3 n3 c3 rfl rfl 56 _ H2.out rfl ?_)
    | fail)
  try simp only [Exit.inBlock, Exit.then]
  exact bodyPost_ret (results_cell_row rfl _ _ w.heap.size 56 _ (0, 0) _ rfl (H2.out.setRow _) Tryz.underlying56 rfl (by rw [fsz]; rfl)) rfl HEnd.out

/-! classOf. -/
def sdg (s : Sd) (A : Option Addr) (c : Nat) : List Value := sdc s.nv s.nl (.slice A s.rs.length c) s.wr
theorem ints3 (W : World) (a b c : Int) : ∀ j (hj : j < [a, b, c].length), (W.alloc (.cells #[.int .i64 a, .int .i64 b, .int .i64 c] 3)).cell? ⟨W.heap.size, 0 + j, none⟩ = some (.int .i64 [a, b, c][j]) := by
  intro j hj
  rw [Nat.zero_add, (Blk.new W 3 #[.int .i64 a, .int .i64 b, .int .i64 c]).cell]
  match j, hj with
  | 0, _ => rfl
  | 1, _ => rfl
  | 2, _ => rfl
set_option maxHeartbeats 1000000 in
theorem classOf7_is (w : World) (A : Option Addr) (n c : Nat) (rs : List Raw) (hr : RdR w w.heap.size A n rs) (hn : n ≤ 1048576) (g t : Sd) (hg : g.nl.length = 16) (ht : t.nl.length = 16) (Ag : Option Addr) (cg : Nat) (At : Option Addr) (ct : Nat) :
    Calls Tryz.prog 66 #[.slice A n c, .agg (sdg g Ag cg).toArray, .agg (sdg t At ct).toArray] w fun e w' => e = .returned (.int .i64 (classR rs g t)) ∧ Below w.heap.size w w' := by
  have hal : Below w.heap.size w ((w.alloc (.cells (sdg g Ag cg).toArray 108)).alloc (.cells (sdg t At ct).toArray 108)) := ((Below.refl w.heap.size w).alloc (Nat.le_refl _) _).alloc (by simp) _
  have h4 := (Blk.new w 108 (sdg g Ag cg).toArray).alloc (.cells (sdg t At ct).toArray 108)
  have h5 : Blk ((w.alloc (.cells (sdg g Ag cg).toArray 108)).alloc (.cells (sdg t At ct).toArray 108)) (w.heap.size + 1) 108 (sdg t At ct).toArray := by simpa using Blk.new (w.alloc (.cells (sdg g Ag cg).toArray 108)) 108 (sdg t At ct).toArray
  have HB0 := Lib.hid hal
  have H4 := Lib.hid h4
  have H5 := Lib.hid h5
  have HRr := Lib.hid (fun W (hB : Below w.heap.size w W) => (hr.below hB).more hB.size)
  have HC : Hid (classR rs g t = if t.rs ≠ [] ∧ (hasK rs 1 && (hasK rs 2 && hasK rs 5)) = false then 2 else if 0 < g.wr ∨ 0 < t.wr then 1 else 0) := Lib.hid rfl
  have HAll : Hid ([1, 2, 5].all (hasK rs) = (hasK rs 1 && (hasK rs 2 && hasK rs 5))) := Lib.hid (by simp)
  have c5r : ∀ W, Blk W (w.heap.size + 1) 108 (sdg t At ct).toArray → W.cell? ⟨w.heap.size + 1, 17, none⟩ = some (.slice At t.rs.length ct) := fun W h => by rw [h.cell]; exact sdc_17 ht
  have c5w : ∀ W, Blk W (w.heap.size + 1) 108 (sdg t At ct).toArray → W.cell? ⟨w.heap.size + 1, 18, none⟩ = some (.int .i64 t.wr) := fun W h => by rw [h.cell]; exact sdc_18 ht
  have c4w : ∀ W, Blk W w.heap.size 108 (sdg g Ag cg).toArray → W.cell? ⟨w.heap.size, 18, none⟩ = some (.int .i64 g.wr) := fun W h => by rw [h.cell]; exact sdc_18 hg
  have C5R := Lib.hid c5r
  have C5W := Lib.hid c5w
  have C4W := Lib.hid c4w
  have HTe : Hid (t.rs = [] ↔ t.rs.length = 0) := Lib.hid ⟨fun h => by rw [h]; rfl, List.eq_nil_of_length_eq_zero⟩
  clear hal h4 h5 hr c5r c5w c4w hg ht
  generalize classR rs g t = cl at *
  generalize sdg g Ag cg = sg at *
  generalize sdg t At ct = st at *
  generalize hnt : t.rs.length = nt at *
  generalize (hasK rs 1 && (hasK rs 2 && hasK rs 5)) = hb at *
  have q17 := C5R.out _ H5.out
  have q18 := C5W.out _ H5.out
  have q4 := C4W.out _ H4.out
  have hBal : Hid (Below (w.heap.size + 2) ((w.alloc (.cells sg.toArray 108)).alloc (.cells st.toArray 108)) (((w.alloc (.cells sg.toArray 108)).alloc (.cells st.toArray 108)).alloc (.cells #[.int .i64 1, .int .i64 2, .int .i64 5] 3))) := Lib.hid ((Below.refl _ _).alloc (by simp) _)
  have HStand : Hid (Calls Tryz.prog _ _ (((w.alloc (.cells sg.toArray 108)).alloc (.cells st.toArray 108)).alloc (.cells #[.int .i64 1, .int .i64 2, .int .i64 5] 3)) _) := Lib.hid (standAll_is (((w.alloc (.cells sg.toArray 108)).alloc (.cells st.toArray 108)).alloc (.cells #[.int .i64 1, .int .i64 2, .int .i64 5] 3)) A n c rs (HRr.out _ (HB0.out.trans (hBal.out.mono (by omega)))) hn ((w.alloc (.cells sg.toArray 108)).alloc (.cells st.toArray 108)).heap.size [1, 2, 5] (by simp) (ints3 ((w.alloc (.cells sg.toArray 108)).alloc (.cells st.toArray 108)) 1 2 5) (by simp) 3)
  rw [HAll.out, show ((w.alloc (.cells sg.toArray 108)).alloc (.cells st.toArray 108)).heap.size = w.heap.size + 1 + 1 by simp] at HStand
  simp only [List.length_cons, List.length_nil, Nat.zero_add, Nat.reduceAdd] at HStand
  rcases Nat.eq_zero_or_pos nt with h0 | h0
  · subst h0
    have HC2 : Hid (cl = if 0 < g.wr ∨ 0 < t.wr then 1 else 0) := Lib.hid (by rw [HC.out, if_neg (fun h => h.1 (HTe.out.2 rfl))])
    clear HStand
    rcases (show 0 < g.wr ∨ ((¬ 0 < g.wr ∧ 0 < t.wr) ∨ (¬ 0 < g.wr ∧ ¬ 0 < t.wr)) by omega) with h | ⟨h, h2⟩ | ⟨h, h2⟩
    · have HR : Hid (cl = 1) := Lib.hid (by rw [HC2.out, if_pos (Or.inl h)])
      have e1 : (g.wr : Int) > 0 := by omega
      go_enter Tryz.func66, Tryz.ntmps66
      go_wp2
      go_ret
      exact ⟨by rw [HR.out]; rfl, HB0.out⟩
    · have HR : Hid (cl = 1) := Lib.hid (by rw [HC2.out, if_pos (Or.inr h2)])
      have e1 : ¬ ((g.wr : Int) > 0) := by omega
      have e2 : (t.wr : Int) > 0 := by omega
      go_enter Tryz.func66, Tryz.ntmps66
      go_wp2
      go_ret
      exact ⟨by rw [HR.out]; rfl, HB0.out⟩
    · have HR : Hid (cl = 0) := Lib.hid (by rw [HC2.out, if_neg (by omega)])
      have e1 : ¬ ((g.wr : Int) > 0) := by omega
      have e2 : ¬ ((t.wr : Int) > 0) := by omega
      go_enter Tryz.func66, Tryz.ntmps66
      go_wp2
      go_ret
      exact ⟨by rw [HR.out]; rfl, HB0.out⟩
  · have e0 : (nt : Int) > 0 := by omega
    have HNe : Hid (t.rs ≠ []) := Lib.hid (fun h => by have := HTe.out.1 h; omega)
    cases hb
    · have HR : Hid (cl = 2) := Lib.hid (by rw [HC.out, if_pos ⟨HNe.out, rfl⟩])
      clear q18 q4
      go_enter Tryz.func66, Tryz.ntmps66
      go_wp2_with fail
      refine HStand.out.mono ?_
      rintro e W2 ⟨rfl, hB⟩
      have HB2 := Lib.hid (HB0.out.trans ((hBal.out.trans (hB.mono (by simp))).mono (by omega)))
      clear hB q17
      go_wp2
      go_ret
      exact ⟨by rw [HR.out]; rfl, HB2.out⟩
    · have HC2 : Hid (cl = if 0 < g.wr ∨ 0 < t.wr then 1 else 0) := Lib.hid (by rw [HC.out, if_neg (fun h => absurd h.2 (by decide))])
      clear q18 q4
      rcases (show 0 < g.wr ∨ ((¬ 0 < g.wr ∧ 0 < t.wr) ∨ (¬ 0 < g.wr ∧ ¬ 0 < t.wr)) by omega) with h | ⟨h, h2⟩ | ⟨h, h2⟩
      · have HR : Hid (cl = 1) := Lib.hid (by rw [HC2.out, if_pos (Or.inl h)])
        have e1 : (g.wr : Int) > 0 := by omega
        go_enter Tryz.func66, Tryz.ntmps66
        go_wp2_with fail
        refine HStand.out.mono ?_
        rintro e W2 ⟨rfl, hB⟩
        have HB2 := Lib.hid (HB0.out.trans ((hBal.out.trans (hB.mono (by simp))).mono (by omega)))
        have hs2 : w.heap.size + 2 ≤ ((w.alloc (.cells sg.toArray 108)).alloc (.cells st.toArray 108)).heap.size := by simp
        have hB2 := hBal.out.trans (hB.mono (by simp))
        have H42 := Lib.hid (H4.out.below hB2 (by omega))
        have H52 := Lib.hid (H5.out.below hB2 (by omega))
        have d4 := C4W.out _ H42.out
        have d5 := C5W.out _ H52.out
        clear hB hB2 q17 hs2
        go_wp2
        go_ret
        exact ⟨by rw [HR.out]; rfl, HB2.out⟩
      · have HR : Hid (cl = 1) := Lib.hid (by rw [HC2.out, if_pos (Or.inr h2)])
        have e1 : ¬ ((g.wr : Int) > 0) := by omega
        have e2 : (t.wr : Int) > 0 := by omega
        go_enter Tryz.func66, Tryz.ntmps66
        go_wp2_with fail
        refine HStand.out.mono ?_
        rintro e W2 ⟨rfl, hB⟩
        have HB2 := Lib.hid (HB0.out.trans ((hBal.out.trans (hB.mono (by simp))).mono (by omega)))
        have hs2 : w.heap.size + 2 ≤ ((w.alloc (.cells sg.toArray 108)).alloc (.cells st.toArray 108)).heap.size := by simp
        have hB2 := hBal.out.trans (hB.mono (by simp))
        have H42 := Lib.hid (H4.out.below hB2 (by omega))
        have H52 := Lib.hid (H5.out.below hB2 (by omega))
        have d4 := C4W.out _ H42.out
        have d5 := C5W.out _ H52.out
        clear hB hB2 q17 hs2
        go_wp2
        go_ret
        exact ⟨by rw [HR.out]; rfl, HB2.out⟩
      · have HR : Hid (cl = 0) := Lib.hid (by rw [HC2.out, if_neg (by omega)])
        have e1 : ¬ ((g.wr : Int) > 0) := by omega
        have e2 : ¬ ((t.wr : Int) > 0) := by omega
        go_enter Tryz.func66, Tryz.ntmps66
        go_wp2_with fail
        refine HStand.out.mono ?_
        rintro e W2 ⟨rfl, hB⟩
        have HB2 := Lib.hid (HB0.out.trans ((hBal.out.trans (hB.mono (by simp))).mono (by omega)))
        have hs2 : w.heap.size + 2 ≤ ((w.alloc (.cells sg.toArray 108)).alloc (.cells st.toArray 108)).heap.size := by simp
        have hB2 := hBal.out.trans (hB.mono (by simp))
        have H42 := Lib.hid (H4.out.below hB2 (by omega))
        have H52 := Lib.hid (H5.out.below hB2 (by omega))
        have d4 := C4W.out _ H42.out
        have d5 := C5W.out _ H52.out
        clear hB hB2 q17 hs2
        go_wp2
        go_ret
        exact ⟨by rw [HR.out]; rfl, HB2.out⟩
end Go.Proofs.YtdgoeibfggjbmaaGreatDoor
