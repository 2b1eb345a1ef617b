/-
  The document's answer, layer 3: look.
-/
import Derived.Test.YtoiigalaijnoeaaFrP
namespace Go.Proofs.Ytoiigalaijnoeaa
open Go.RowKit
set_option linter.unusedSimpArgs false
set_option linter.unusedVariables false

/-- What the document's look tells: the fault in new memory, or the length. -/
def RLk (w : World) (o : Option Flt) (L : Int) (e : Ending) (w' : World) : Prop :=
  ∃ v, e = .returned (.tuple #[v, .int .i64 (if o.isSome then 0 else L), .bool o.isSome]) ∧ FltV w.heap.size w' (o.getD ⟨0, 0, []⟩) v ∧ Below w.heap.size w w'
/-- The fault of a length, in a variable of its own. -/
def LongAt (w1 : World) (x y : Int) (s : Value) (wx : World) : Prop :=
  ∃ g4 g3, s = .pointer (some ⟨g4, 0, none⟩) ∧ w1.heap.size ≤ g4 ∧ w1.heap.size ≤ g3 ∧ Blk wx g4 43 #[.int .i64 1, .int .i64 2, .slice (some ⟨g3, 0, none⟩) 2 2] ∧ Byt wx g3 5 [x, y] ∧ Below w1.heap.size w1 wx
theorem long_a (w1 : World) (x y : Int) : LongAt w1 x y (.pointer (some ⟨w1.heap.size + 1, 0, none⟩)) (((w1.alloc (.cells #[.int .u8 x, .int .u8 y] 5)).alloc (.cells #[.int .i64 1, .int .i64 2, .slice (some ⟨w1.heap.size, 0, none⟩) 2 2] 43)).drew) := by
  refine ⟨w1.heap.size + 1, w1.heap.size, rfl, by omega, by omega, ?_, (byt_new w1 5 [x, y] _ rfl).alloc _, below_drewN (((Below.refl _ _).alloc (Nat.le_refl _) _).alloc (by simp) _) 1⟩
  have e := Blk.new (w1.alloc (.cells #[.int .u8 x, .int .u8 y] 5)) 43 #[.int .i64 1, .int .i64 2, .slice (some ⟨w1.heap.size, 0, none⟩) 2 2]
  simp only [World.size_alloc] at e
  exact e
theorem long_b (w1 : World) (x y : Int) : LongAt w1 x y (.pointer (some ⟨w1.heap.size, 0, none⟩)) (((w1.alloc (.cells #[.int .i64 1, .int .i64 2, .slice (some ⟨w1.heap.size + 1, 0, none⟩) 2 2] 43)).alloc (.cells #[.int .u8 x, .int .u8 y] 5)).drew) := by
  refine ⟨w1.heap.size, w1.heap.size + 1, rfl, by omega, by omega, (Blk.new w1 _ _).alloc _, ?_, below_drewN (((Below.refl _ _).alloc (Nat.le_refl _) _).alloc (by simp) _) 1⟩
  have e := byt_new (w1.alloc (.cells #[.int .i64 1, .int .i64 2, .slice (some ⟨w1.heap.size + 1, 0, none⟩) 2 2] 43)) 5 [x, y] #[.int .u8 x, .int .u8 y] rfl
  simp only [World.size_alloc] at e
  exact e

set_option maxHeartbeats 4000000 in
set_option maxRecDepth 100000 in
theorem rlook_is (w : World) (A : Option Addr) (n c : Nat) (l : List Int) (h : Rd w w.heap.size A n l) (hn : 19 ≤ n) (hm : n ≤ 140737488355328) :
    Calls Try.prog 35 #[.slice A n c] w (RLk w (hdr l) (lenI l)) := by
  have H := Lib.hid h
  have hlen := Lib.hid h.len
  have hk : 0 ≤ kindI l ∧ kindI l < 256 := h.oct.getD 18
  have hL := lenI_bd h.oct
  have h16 := h.oct.getD 16
  have h17 := h.oct.getD 17
  obtain ⟨b, off, rfl, hb, hc⟩ := h.at_ (by omega)
  have HC := Lib.hid hc
  clear h hc
  have HL0 : Hid (Below w.heap.size w (w.alloc (.cells flt0 43))) := Lib.hid ((Below.refl _ _).alloc (Nat.le_refl _) _)
  have HB0 : Hid (Blk (w.alloc (.cells flt0 43)) w.heap.size 43 flt0) := Lib.hid (Blk.new w _ _)
  have hsz : w.heap.size < (w.alloc (.cells flt0 43)).heap.size := by simp
  have HCw : Hid (∀ i, i < n → (w.alloc (.cells flt0 43)).cell? ⟨b, off + i, none⟩ = some (.int .u8 (l.getD i 0))) := Lib.hid fun i hi => (World.cell?_alloc_lt _ _ _ hb).trans (HC.out i hi)
  go_enter Try.func35, Try.ntmps35
  go_wp2
  generalize w.alloc (.cells flt0 43) = w1 at *
  go_loop [5] (fun i => ∃ k : Nat, k ≤ 16 ∧ i = .int .i64 k ∧ (l.take k).all (fun x => x == 255) = true) (fun i => 16 - (intOf i).toNat)
  case atStart => exact ⟨0, by omega, rfl, by simp⟩
  case round =>
    obtain ⟨k, hk16, rfl, hall⟩ := hrel
    have HA := Lib.hid hall
    clear hall
    by_cases hlt : k < 16
    · have hkl : k < l.length := by have := hlen.out; omega
      have hcell := HCw.out k (by omega)
      rw [show l.getD k 0 = l[k] from by simp [List.getD, List.getElem?_eq_getElem hkl]] at hcell
      have hkn : (k : Int) < (n : Int) := by omega
      cases he : (l[k] == 255)
      · have HM := Lib.hid (hdr_1 (mk16_no l k hkl hlt he))
        have hne : (l[k] != 255) = true := by simp [bne, he]
        have r0 : w1.cell? ⟨w.heap.size, 0, none⟩ = some (.int .i64 0) := HB0.out.cell 0
        have r1 : w1.cell? ⟨w.heap.size, 1, none⟩ = some (.int .i64 0) := HB0.out.cell 1
        have r2 : w1.cell? ⟨w.heap.size, 2, none⟩ = some (.slice none 0 0) := HB0.out.cell 2
        have s0 : w1.frozen? ⟨w.heap.size, 0, none⟩ = false := HB0.out.frozen 0
        have s1 : w1.frozen? ⟨w.heap.size, 1, none⟩ = false := HB0.out.frozen 1
        have s2 : w1.frozen? ⟨w.heap.size, 2, none⟩ = false := HB0.out.frozen 2
        clear he
        generalize l[k] = x at *
        go_wp2
        refine bodyPost_ret (v := .tuple #[.agg #[.int .i64 1, .int .i64 1, .slice none 0 0], .int .i64 0, .bool true]) (by simp [results, Try.results35, go_sem, r0, r1, r2]) rfl ?_
        rw [HM.out]
        exact ⟨_, rfl, ⟨_, _, rfl, Fresh.none_⟩, ((HL0.out.setCell (p := ⟨w.heap.size, 0, none⟩) (Nat.le_refl _) _).setCell (p := ⟨w.heap.size, 1, none⟩) (Nat.le_refl _) _).setCell (p := ⟨w.heap.size, 2, none⟩) (Nat.le_refl _) _⟩
      · have hall' : Hid ((l.take (k + 1)).all (fun x => x == 255) = true) := Lib.hid (by rw [mk16_snoc l k hkl, HA.out, he]; rfl)
        have hne : (l[k] != 255) = false := by simp [bne, he]
        clear he
        generalize l[k] = x at *
        go_wp2
        exact ⟨⟨k + 1, by omega, by go_num, hall'.out⟩, by simp [intOf]; omega⟩
    · obtain rfl : k = 16 := by omega
      have HM : Hid (mk16 l = true) := Lib.hid HA.out
      have c16 := HCw.out 16 (by omega)
      have c17 := HCw.out 17 (by omega)
      have c18 : w1.cell? ⟨b, off + 18, none⟩ = some (.int .u8 (kindI l)) := HCw.out 18 (by omega)
      have HLE : Hid (lenI l = 256 * l.getD 16 0 + l.getD 17 0) := Lib.hid rfl
      have HFE : Hid (lenFlt l = ⟨1, 2, [l.getD 16 0, l.getD 17 0]⟩) := Lib.hid rfl
      generalize l.getD 16 0 = x at *
      generalize l.getD 17 0 = y at *
      have w16 : IntKind.i64.wrap x = x := IntWalk.i64_in _ (by omega)
      have w17 : IntKind.i64.wrap y = y := IntWalk.i64_in _ (by omega)
      have w18 : IntKind.i64.wrap (kindI l) = kindI l := IntWalk.i64_in _ (by omega)
      have wm : IntKind.i64.wrap (256 * x) = 256 * x := IntWalk.i64_in _ (by omega)
      have wa : IntKind.i64.wrap (256 * x + y) = lenI l := by rw [HLE.out]; exact IntWalk.i64_in _ (by omega)
      go_wp2
      go_quiet (fail)
      go_upto_region 7 with fail
      clear w16 w17 w18 wm wa
      generalize hwd : w1.drewN nq = w2 at *
      have d16 : w2.cell? ⟨b, off + 16, none⟩ = some (.int .u8 x) := by rw [← hwd]; exact c16
      have d17 : w2.cell? ⟨b, off + 17, none⟩ = some (.int .u8 y) := by rw [← hwd]; exact c17
      have HW2 : Hid (Below w.heap.size w w2) := Lib.hid (by rw [← hwd]; exact below_drewN HL0.out nq)
      have HB2 : Hid (Blk w2 w.heap.size 43 flt0) := Lib.hid (by rw [← hwd]; exact HB0.out)
      have hsz2 : w.heap.size < w2.heap.size := by rw [← hwd]; exact hsz
      have d18 : w2.cell? ⟨b, off + 18, none⟩ = some (.int .u8 (kindI l)) := by rw [← hwd]; exact c18
      clear c16 c17 c18 hwd HCw
      have hb2 : b < w2.heap.size := by omega
      have hn16 : (16 : Int) < (n : Int) := by omega
      have hn17 : (17 : Int) < (n : Int) := by omega
      go_cut [8] (fun s8 wx => LongAt w2 x y s8 wx)
      case first =>
        go_region
        all_goals (go_wp2_with fail; go_meet)
        all_goals first
          | exact long_a w2 x y
          | exact long_b w2 x y
      case rest =>
        obtain ⟨g4, g3, rfl, hg4, hg3, hB4, hY3, hBl⟩ := hcut
        have hr0 := HB2.out.below hBl hsz2
        have r0 : wc.cell? ⟨w.heap.size, 0, none⟩ = some (.int .i64 0) := hr0.cell 0
        have r1 : wc.cell? ⟨w.heap.size, 1, none⟩ = some (.int .i64 0) := hr0.cell 1
        have r2 : wc.cell? ⟨w.heap.size, 2, none⟩ = some (.slice none 0 0) := hr0.cell 2
        have s0 : wc.frozen? ⟨w.heap.size, 0, none⟩ = false := hr0.frozen 0
        have s1 : wc.frozen? ⟨w.heap.size, 1, none⟩ = false := hr0.frozen 1
        have s2 : wc.frozen? ⟨w.heap.size, 2, none⟩ = false := hr0.frozen 2
        have e0 : wc.cell? ⟨g4, 0, none⟩ = some (.int .i64 1) := hB4.cell 0
        have e1 : wc.cell? ⟨g4, 1, none⟩ = some (.int .i64 2) := hB4.cell 1
        have e2 : wc.cell? ⟨g4, 2, none⟩ = some (.slice (some ⟨g3, 0, none⟩) 2 2) := hB4.cell 2
        have HY3 := Lib.hid hY3
        have HWc : Hid (Below w.heap.size w wc) := Lib.hid (HW2.out.trans (hBl.mono (by omega)))
        have f18 : wc.cell? ⟨b, off + 18, none⟩ = some (.int .u8 (kindI l)) := (hBl.cell (p := ⟨b, off + 18, none⟩) (by show b < _; omega)).trans d18
        have hnI : (18 : Int) < (n : Int) := by omega
        have hwc : w.heap.size < wc.heap.size := by have := hBl.size; omega
        clear hr0 hB4 hY3 hBl d16 d17 d18
        cases hlb : isLenB (lenI l)
        · have HH := Lib.hid (hdr_2 HM.out hlb)
          have hor : lenI l < 19 ∨ (¬ lenI l < 19 ∧ lenI l > 4096) := by
            unfold isLenB at hlb
            simp at hlb
            omega
          clear hlb
          generalize lenI l = L at *
          rcases hor with h1 | ⟨h1, h2⟩
          · go_wp2
            refine bodyPost_ret (v := .tuple #[.agg #[.int .i64 1, .int .i64 2, .slice (some ⟨g3, 0, none⟩) 2 2], .int .i64 0, .bool true]) (by simp [results, Try.results35, go_sem, r0, r1, r2]) rfl ?_
            rw [HH.out, HFE.out]
            refine ⟨_, rfl, ⟨_, _, rfl, oct2 h16 h17, rfl, .inr ⟨g3, rfl, by omega, ?_⟩⟩, ?_⟩
            · exact ((HY3.out.far (p := ⟨w.heap.size, 0, none⟩) (by show g3 ≠ w.heap.size; omega) _).far (p := ⟨w.heap.size, 1, none⟩) (by show g3 ≠ w.heap.size; omega) _).far (p := ⟨w.heap.size, 2, none⟩) (by show g3 ≠ w.heap.size; omega) _
            · exact ((HWc.out.setCell (p := ⟨w.heap.size, 0, none⟩) (Nat.le_refl _) _).setCell (p := ⟨w.heap.size, 1, none⟩) (Nat.le_refl _) _).setCell (p := ⟨w.heap.size, 2, none⟩) (Nat.le_refl _) _
          · go_wp2
            refine bodyPost_ret (v := .tuple #[.agg #[.int .i64 1, .int .i64 2, .slice (some ⟨g3, 0, none⟩) 2 2], .int .i64 0, .bool true]) (by simp [results, Try.results35, go_sem, r0, r1, r2]) rfl ?_
            rw [HH.out, HFE.out]
            refine ⟨_, rfl, ⟨_, _, rfl, oct2 h16 h17, rfl, .inr ⟨g3, rfl, by omega, ?_⟩⟩, ?_⟩
            · exact ((HY3.out.far (p := ⟨w.heap.size, 0, none⟩) (by show g3 ≠ w.heap.size; omega) _).far (p := ⟨w.heap.size, 1, none⟩) (by show g3 ≠ w.heap.size; omega) _).far (p := ⟨w.heap.size, 2, none⟩) (by show g3 ≠ w.heap.size; omega) _
            · exact ((HWc.out.setCell (p := ⟨w.heap.size, 0, none⟩) (Nat.le_refl _) _).setCell (p := ⟨w.heap.size, 1, none⟩) (Nat.le_refl _) _).setCell (p := ⟨w.heap.size, 2, none⟩) (Nat.le_refl _) _
        have hl19 : ¬ lenI l < 19 ∧ ¬ lenI l > 4096 := by
          unfold isLenB at hlb
          simp at hlb
          omega
        obtain ⟨hl1, hl2⟩ := hl19
        have dl2 : decide (lenI l > 4096) = false := by simpa using hl2
        cases hkb : isKindB (kindI l)
        · have HH := Lib.hid (hdr_3 HM.out hlb hkb)
          have HKB := Lib.hid hkb
          clear hlb hkb
          generalize lenI l = L at *
          go_wp2_with fail
          refine (known_is _ (kindI l) false HKB.out).mono ?_
          rintro e w' ⟨rfl, rfl⟩
          go_wp2
          refine bodyPost_ret (v := .tuple #[.agg #[.int .i64 1, .int .i64 3, .slice (some ⟨wc.heap.size, 0, none⟩) 1 1], .int .i64 0, .bool true]) (by simp [results, Try.results35, go_sem, r0, r1, r2, hwc]) rfl ?_
          rw [HH.out]
          refine ⟨_, rfl, ⟨_, _, rfl, oct1 hk, rfl, .inr ⟨_, rfl, by omega, byt_new' (by simp [World.setCell]) rfl⟩⟩, ?_⟩
          exact (((HWc.out.setCell (p := ⟨w.heap.size, 0, none⟩) (Nat.le_refl _) _).setCell (p := ⟨w.heap.size, 1, none⟩) (Nat.le_refl _) _).setCell (p := ⟨w.heap.size, 2, none⟩) (Nat.le_refl _) _).alloc (by simp [World.setCell]; omega) _
        cases hbb : isBodyB (lenI l - 19) (kindI l)
        · have HH := Lib.hid (hdr_4 HM.out hlb hkb hbb)
          have HKB := Lib.hid hkb
          have hor : lenI l < 19 + leastI (kindI l) ∨ (¬ lenI l < 19 + leastI (kindI l) ∧ lenI l > 19 + mostI (kindI l)) := by
            unfold isBodyB at hbb
            rw [Bool.and_eq_false_iff, decide_eq_false_iff_not, decide_eq_false_iff_not] at hbb
            omega
          have HLe := Lib.hid (fun w => rleast_is w (kindI l))
          have bl := leastI_bd (kindI l)
          have bm := mostI_bd (kindI l)
          clear hlb hkb hbb
          generalize lenI l = L at *
          generalize leastI (kindI l) = la at *
          generalize mostI (kindI l) = mo at *
          rcases hor with h1 | ⟨h1, h2⟩
          · have dd1 : decide (L < 19 + la) = true := by simpa using h1
            go_wp2_with fail
            refine (known_is _ (kindI l) true HKB.out).mono ?_
            rintro e w' ⟨rfl, rfl⟩
            go_wp2_with fail
            refine (HLe.out _).mono ?_
            rintro e w' ⟨rfl, rfl⟩
            go_wp2
            refine bodyPost_ret (v := .tuple #[.agg #[.int .i64 1, .int .i64 2, .slice (some ⟨g3, 0, none⟩) 2 2], .int .i64 0, .bool true]) (by simp [results, Try.results35, go_sem, r0, r1, r2]) rfl ?_
            rw [HH.out, HFE.out]
            refine ⟨_, rfl, ⟨_, _, rfl, oct2 h16 h17, rfl, .inr ⟨g3, rfl, by omega, ?_⟩⟩, ?_⟩
            · exact ((HY3.out.far (p := ⟨w.heap.size, 0, none⟩) (by show g3 ≠ w.heap.size; omega) _).far (p := ⟨w.heap.size, 1, none⟩) (by show g3 ≠ w.heap.size; omega) _).far (p := ⟨w.heap.size, 2, none⟩) (by show g3 ≠ w.heap.size; omega) _
            · exact ((HWc.out.setCell (p := ⟨w.heap.size, 0, none⟩) (Nat.le_refl _) _).setCell (p := ⟨w.heap.size, 1, none⟩) (Nat.le_refl _) _).setCell (p := ⟨w.heap.size, 2, none⟩) (Nat.le_refl _) _
          · have dd1 : decide (L < 19 + la) = false := by simpa using h1
            have dd2 : decide (L > 19 + mo) = true := by simpa using h2
            go_wp2_with fail
            refine (known_is _ (kindI l) true HKB.out).mono ?_
            rintro e w' ⟨rfl, rfl⟩
            go_wp2_with fail
            refine (HLe.out _).mono ?_
            rintro e w' ⟨rfl, rfl⟩
            go_wp2
            refine bodyPost_ret (v := .tuple #[.agg #[.int .i64 1, .int .i64 2, .slice (some ⟨g3, 0, none⟩) 2 2], .int .i64 0, .bool true]) (by simp [results, Try.results35, go_sem, r0, r1, r2]) rfl ?_
            rw [HH.out, HFE.out]
            refine ⟨_, rfl, ⟨_, _, rfl, oct2 h16 h17, rfl, .inr ⟨g3, rfl, by omega, ?_⟩⟩, ?_⟩
            · exact ((HY3.out.far (p := ⟨w.heap.size, 0, none⟩) (by show g3 ≠ w.heap.size; omega) _).far (p := ⟨w.heap.size, 1, none⟩) (by show g3 ≠ w.heap.size; omega) _).far (p := ⟨w.heap.size, 2, none⟩) (by show g3 ≠ w.heap.size; omega) _
            · exact ((HWc.out.setCell (p := ⟨w.heap.size, 0, none⟩) (Nat.le_refl _) _).setCell (p := ⟨w.heap.size, 1, none⟩) (Nat.le_refl _) _).setCell (p := ⟨w.heap.size, 2, none⟩) (Nat.le_refl _) _
        · have HH := Lib.hid (hdr_5 HM.out hlb hkb hbb)
          have HKB := Lib.hid hkb
          have hor : ¬ lenI l < 19 + leastI (kindI l) ∧ ¬ lenI l > 19 + mostI (kindI l) := by
            unfold isBodyB at hbb
            rw [Bool.and_eq_true, decide_eq_true_iff, decide_eq_true_iff] at hbb
            omega
          have HLe := Lib.hid (fun w => rleast_is w (kindI l))
          have bl := leastI_bd (kindI l)
          have bm := mostI_bd (kindI l)
          clear hlb hkb hbb
          generalize lenI l = L at *
          generalize leastI (kindI l) = la at *
          generalize mostI (kindI l) = mo at *
          obtain ⟨h1, h2⟩ := hor
          have dd1 : decide (L < 19 + la) = false := by simpa using h1
          have dd2 : decide (L > 19 + mo) = false := by simpa using h2
          go_wp2_with fail
          refine (known_is _ (kindI l) true HKB.out).mono ?_
          rintro e w' ⟨rfl, rfl⟩
          go_wp2_with fail
          refine (HLe.out _).mono ?_
          rintro e w' ⟨rfl, rfl⟩
          go_wp2
          refine bodyPost_ret (v := .tuple #[.agg #[.int .i64 0, .int .i64 0, .slice none 0 0], .int .i64 L, .bool false]) (by simp [results, Try.results35, go_sem, r0, r1, r2]) rfl ?_
          rw [HH.out]
          exact ⟨_, rfl, ⟨_, _, rfl, Fresh.none_⟩, ((HWc.out.setCell (p := ⟨w.heap.size, 0, none⟩) (Nat.le_refl _) _).setCell (p := ⟨w.heap.size, 1, none⟩) (Nat.le_refl _) _).setCell (p := ⟨w.heap.size, 2, none⟩) (Nat.le_refl _) _⟩
end Go.Proofs.Ytoiigalaijnoeaa
