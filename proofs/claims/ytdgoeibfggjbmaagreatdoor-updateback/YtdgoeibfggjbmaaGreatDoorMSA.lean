/-
  Put together: UsA UsB UsC.
-/
import Derived.Test.YtdgoeibfggjbmaaGreatDoorMRG
import Derived.Test.YtdgoeibfggjbmaaGreatDoorMNR
namespace Go.Proofs.YtdgoeibfggjbmaaGreatDoor
open Go.RowKit
set_option maxRecDepth 100000
set_option linter.unusedSimpArgs false
set_option linter.unusedVariables false

set_option maxHeartbeats 400000 in
set_option maxRecDepth 100000 in
theorem flood7_gen {F1 F2 F3 : Rt} (h1 : RtOk F1) (h2 : RtOk F2) (h3 : RtOk F3) (hb1 : Tryz.prog.built 53 [(0, .int .i64 3), (1, .agg (u8s [0, 1, 10, 0, 0, 1, 0, 100]).toArray)] = some (rtc F1).toArray) (hp1 : F1.pn = 0)
    (he : (rtc F1).toArray.setIfInBounds 43 (.int .i64 32) = (rtc F2).toArray) (hc : ((rtc F2).take 27 ++ u8s [10, 0, 0, 1] ++ (rtc F2).drop (27 + (u8s [10, 0, 0, 1]).length)) = rtc F3) (w : World) :
    Calls Tryz.prog 46 #[] w fun e w' => e = .returned (.agg (rtc F3).toArray) ∧ Below w.heap.size w w' := by
  have HB3 : Hid (∀ Z Z', Blk ((w.alloc (.cells Z 53)).alloc (.cells Z' 53)) (w.heap.size + 1) 53 Z') := Lib.hid (fun Z Z' => by
    have := Blk.new (w.alloc (.cells Z 53)) 53 Z'
    simpa using this)
  have HI : Hid (∀ Z Z', Z.size = 63 → FlW w (((w.alloc (.cells Z 53)).alloc (.cells Z' 53)).setRow (w.heap.size + 1) (rtc F1).toArray) F1) := Lib.hid (fun Z Z' hs => by
    refine ⟨⟨Z, (setRow_other _ _ _ _ (by omega)).trans ((Blk.new w 53 Z).alloc _), hs⟩, (HB3.out Z Z').setRow _, ?_⟩
    exact (((Below.refl w.heap.size w).alloc (Nat.le_refl _) _).alloc (by simp) _).trans (below_setRow _ _ _ (by omega)))
  have hs16 : ∀ W, (Instr.sliceAt 25 (.pointer (some ⟨w.heap.size + 1, 27, none⟩)) none none none).run Tryz.prog W = .ok (.slice (some ⟨w.heap.size + 1, 27, none⟩) 16 16) W := fun W => by go_simp
  have HF1 := Lib.hid h1
  have HF3 := Lib.hid h3
  have HBu := Lib.hid hb1
  have HE1 := Lib.hid he
  have HE2 := Lib.hid hc
  have HCell : Hid ((rtc F1)[43]? = some (.int .i64 0)) := Lib.hid (by rw [rtc_at (rtc_pn F1) (prePn_len h1), hp1])
  have HLen : Hid (27 + (u8s [10, 0, 0, 1]).length ≤ (rtc F2).length) := Lib.hid (by rw [rtc_len h2]; decide)
  clear h1 h2 h3 hb1 he hc hp1
  go_enter Tryz.func46, Tryz.ntmps46
  go_wp2_with (first
    | (refine rt_build rfl _ rfl [(0, .int .i64 3), (1, .agg (u8s [0, 1, 10, 0, 0, 1, 0, 100]).toArray)] (by simp only [List.map_toArray, List.map_cons, List.map_nil]; rfl) F1 HBu.out ?_)
    | (refine rt_store_to rfl _ _ rfl (w.heap.size + 1) F1 HF1.out rfl rfl 53 _ (HB3.out _ _) rfl (fun W => FlW w W F1) (HI.out _ _ rfl) ?_; intro W hW; have hcell := flCell hW.rt HCell.out; have hfr : W.frozen? ⟨w.heap.size + 1, 43, none⟩ = false := hW.rt.frozen 43; have HW := Lib.hid hW; clear hW)
    | (with_reducible refine stop_here (o := ⟨some 11, _, _, _, _, _⟩) (by rfl) ?_)
    | fail)
  unfold StopAt
  have HC := flC HE1.out HW.out.rt
  have HS := flS W (w.heap.size + 1)
  have HZ := HW.out.res
  have HL := HW.out.low
  refine wpList_copy (o := ⟨some 11, .call { callee := .builtin .copy, args := _, argTypes := _ }, _, _, _, _⟩) rfl _ _ 38 38 5 rfl Tryz.underlying38 size_byte (some ⟨w.heap.size + 1, 27, none⟩) (some ⟨W.heap.size, 0, none⟩) 16 16 4 4 rfl rfl (w.heap.size + 1) 27 (rtc F2) 53 HC.out (u8s [10, 0, 0, 1]) rfl HS.out HLen.out (one_u8s _) ?_
  intro W3 hg3 hB3
  rw [HE2.out] at hg3
  have HE := flE HF3.out HZ HL hg3 hB3
  clear hg3 hB3
  clear HC HS HZ HL HW hcell hfr
  obtain ⟨hE1, ⟨Z, hZ, hZs⟩, hE3⟩ := HE.out
  have HE1' := Lib.hid hE1
  have HE3 := Lib.hid hE3
  have HZ := Lib.hid hZ
  have HZs := Lib.hid hZs
  clear hE1 hE3 hZ hZs HE
  go_wp2_with (first
    | (refine rt_fetch rfl _ rfl (w.heap.size + 1) F3 HF3.out rfl HE1'.out ?_)
    | (refine rt_store_to rfl _ _ rfl w.heap.size F3 HF3.out rfl rfl 53 Z HZ.out HZs.out (fun W => EndW w W F3) HE3.out ?_; intro W9 hW9; have HW9 := Lib.hid hW9; clear hW9)
    | fail)
  refine bodyPost_ret (v := .agg (rtc F3).toArray) ?_ rfl ⟨rfl, HW9.out.low⟩
  exact results_cell_row rfl _ _ w.heap.size 53 _ (0, 0) _ rfl HW9.out.res Tryz.underlying53 rfl (by rw [rt_size]; simp [rtc_len HF3.out])
theorem flood7_is (w : World) : Calls Tryz.prog 46 #[] w fun e w' => e = .returned (.agg (rtc floodR).toArray) ∧ Below w.heap.size w w' := flood7_gen flood1_ok flood2_ok floodR_ok (built_rt 3 _ rfl) rfl flood_set flood_copy w
end Go.Proofs.YtdgoeibfggjbmaaGreatDoor
namespace Go.Proofs.YtdgoeibfggjbmaaGreatDoor
open Go.RowKit
set_option maxRecDepth 100000
set_option linter.unusedSimpArgs false
set_option linter.unusedVariables false

def upF : Up := ⟨Att.zero, false, z16, [], [floodR]⟩
theorem up0_e : upE up0 = 0 ∧ bodyU up0 = [0, 0, 0, 0] := by decide +kernel
theorem up4_rd : upRd [0, 0, 0, 0] = (up0, 0, 0, 0, []) := by kernel_rfl
theorem up3_rd : upRd [0, 0, 0] = (up0, 3, 3, 1, []) := by kernel_rfl
theorem upF_e : upE upF = 0 := by decide +kernel
theorem upF_n : (bodyU upF).length ≤ 100 := by decide +kernel
theorem upF_rd : upRd (bodyU upF) = (upF, 0, 0, 0, []) := by kernel_rfl
theorem built_up0 : Tryz.prog.built 34 [] = some (upc zat false z16 (.slice none 0 0) (.slice none 0 0)).toArray := by kernel_rfl
theorem no_parts (a : Act) : ((#[] : Array (Nat × Operand)).map fun (i, x) => (i, a.eval x)).toList = [] := by simp
theorem up0_build {ops : Array Oper} {rest : List Oper} {o : Oper} {a : Act} {w : World} {Q : Exit → Act → World → Prop} (hg : o.guard = none) (ho : o.op = .build 34 #[])
    (h : wpList Tryz.prog ops Q rest (a.put o.dst (.agg (upc zat false z16 (.slice none 0 0) (.slice none 0 0)).toArray)) w) : wpList Tryz.prog ops Q (o :: rest) a w := by
  refine wpList_build hg 34 _ ho (by rw [no_parts, built_up0]; rfl) ?_
  rw [no_parts, built_up0]
  exact h
def rtZero : Value := .agg (rtc (rtZ 0 (List.replicate 8 0))).toArray
theorem info_rt : (Tryz.prog.info? 53).map (fun i => (i.zero, i.size, i.bytes)) = some (some rtZero, 63, 104) := by kernel_rfl
def FillRt (r : Rt) : Prop := Instr.fill (fun i => some (i * 63, 63)) ((Array.range (1 * 63)).map (rtZero.cells[· % rtZero.cells.size]!)) [(0, .agg (rtc r).toArray)] = some (rtc r).toArray
theorem flood_fill : FillRt floodR := by unfold FillRt; kernel_rfl
theorem one_rt_wp {ops : Array Oper} {rest : List Oper} {o : Oper} {a : Act} {w : World} {Q : Exit → Act → World → Prop} (hg : o.guard = none) (x : Operand) (ho : o.op = .buildSlice 32 1 #[(0, x)]) (r : Rt) (hr : FillRt r) (hx : a.eval x = .agg (rtc r).toArray)
    (h : wpList Tryz.prog ops Q rest (a.put o.dst (.slice (some ⟨w.heap.size, 0, none⟩) 1 1)) (w.alloc (.cells (rtc r).toArray 53))) : wpList Tryz.prog ops Q (o :: rest) a w := by
  refine wpList_plain hg fun _ hK => ?_
  obtain ⟨i, hi, hz0, hz1, hz2⟩ := info_parts info_rt
  refine wp_buildSlice 32 53 1 _ ho _ i _ Tryz.underlying32 hi hz0 (by rw [hz1]; decide) (by rw [hz1]; decide) ?_ (hK _ _ h)
  have he : (#[(0, x)].map fun (i, x) => (i, a.eval x)).toList = [(0, .agg (rtc r).toArray)] := by simp [hx]
  rw [he, hz1]
  exact hr
theorem one_rt_rd (w : World) (r : Rt) (hr : RtOk r) : RdRt (w.alloc (.cells (rtc r).toArray 53)) (w.alloc (.cells (rtc r).toArray 53)).heap.size (some ⟨w.heap.size, 0, none⟩) 1 [r] := by
  refine ⟨rfl, fun x hx => by rw [List.mem_singleton.1 hx]; exact hr, fun _ => ⟨_, _, rfl, by simp, fun i hi => ?_⟩⟩
  have : i = 0 := by simpa using hi
  subst this
  simpa using (Blk.new w 53 (rtc r).toArray).range
end Go.Proofs.YtdgoeibfggjbmaaGreatDoor
namespace Go.Proofs.YtdgoeibfggjbmaaGreatDoor
open Go.RowKit
set_option maxRecDepth 100000
set_option linter.unusedSimpArgs false
set_option linter.unusedVariables false

theorem put_lit (w : World) (E : EnvK w) (u : Up) (hu : UpOk u) (cs : List Value) (hcs : RdAt w w.heap.size cs u.at_) (A1 : Option Addr) (n1 c1 : Nat) (A2 : Option Addr) (n2 c2 : Nat) (hr : UpRd w u A1 n1 A2 n2) (h1 : n1 ≤ 900000) (h2 : n2 ≤ 900000) (m : Nat) (he : upE u = 0) (l : List Int) (hl : bodyU u = l) (hm : l.length = m) :
    Calls Tryz.prog 18 #[.agg (upc cs u.nv u.nl (.slice A1 n1 c1) (.slice A2 n2 c2)).toArray] w fun e w' => ∃ A c, e = .returned (.tuple #[.slice A m c, .int .i64 0]) ∧ m ≤ c ∧ Rd w' w'.heap.size A m l ∧ Below w.heap.size w w' := by
  refine (put7_is w E u hu cs hcs A1 n1 c1 A2 n2 c2 hr h1 h2).mono ?_
  rintro e w' ⟨v, rfl, hO, hB⟩
  rw [hl] at hO
  obtain ⟨A, c, rfl, hc, hR, _⟩ := hO.at_
  subst hm
  exact ⟨A, c, by rw [he], hc, hR, hB⟩
theorem read_lit (w : World) (E : EnvK w) (A : Option Addr) (n c : Nat) (l : List Int) (hr : Rd w w.heap.size A n l) (hm : n ≤ 1048576) (U : Up) (cl cd sb : Int) (data : List Int) (h : upRd l = (U, cl, cd, sb, data)) :
    Calls Tryz.prog 25 #[.slice A n c] w fun e w' => ∃ cs A n c, e = .returned (.tuple #[.agg cs.toArray, .int .i64 cl, .agg #[.int .i64 cd, .int .i64 sb, .slice A n c]]) ∧ IsUp w.heap.size w' cs U ∧ OwnB w.heap.size w' (.slice A n c) data ∧ Below w.heap.size w w' := by
  have := Read7_is w E A n c l hr hm
  unfold UpRdP at this
  rw [h] at this
  exact this
def LaidP (w : World) (cs : List Value) (cd sb : Int) (A : Option Addr) (n c : Nat) (W : World) : Prop := Below w.heap.size w W ∧ Blk W w.heap.size 34 cs.toArray ∧ Blk W (w.heap.size + 1) 56 #[.int .i64 cd, .int .i64 sb, .slice A n c]
theorem laid_1 (w : World) : Hid (Blk ((w.alloc (.cells #[.int .i64 0, .slice none 0 0, .bool false, .int .u32 0, .int .u32 0, .int .u32 0, .slice none 0 0, .slice none 0 0, .int .i64 0, .int .u32 0, .bool false, .int .u8 0, .int .u8 0, .int .u8 0, .int .u8 0, .int .u8 0, .int .u8 0, .int .u8 0, .int .u8 0, .int .u8 0, .int .u8 0, .int .u8 0, .int .u8 0, .int .u8 0, .int .u8 0, .int .u8 0, .int .u8 0, .bool false, .int .u8 0, .int .u8 0, .int .u8 0, .int .u8 0, .int .u8 0, .int .u8 0, .int .u8 0, .int .u8 0, .int .u8 0, .int .u8 0, .int .u8 0, .int .u8 0, .int .u8 0, .int .u8 0, .int .u8 0, .int .u8 0, .slice none 0 0, .slice none 0 0] 34)).alloc (.cells #[.int .i64 0, .int .i64 0, .slice none 0 0] 56)) w.heap.size 34 #[.int .i64 0, .slice none 0 0, .bool false, .int .u32 0, .int .u32 0, .int .u32 0, .slice none 0 0, .slice none 0 0, .int .i64 0, .int .u32 0, .bool false, .int .u8 0, .int .u8 0, .int .u8 0, .int .u8 0, .int .u8 0, .int .u8 0, .int .u8 0, .int .u8 0, .int .u8 0, .int .u8 0, .int .u8 0, .int .u8 0, .int .u8 0, .int .u8 0, .int .u8 0, .int .u8 0, .bool false, .int .u8 0, .int .u8 0, .int .u8 0, .int .u8 0, .int .u8 0, .int .u8 0, .int .u8 0, .int .u8 0, .int .u8 0, .int .u8 0, .int .u8 0, .int .u8 0, .int .u8 0, .int .u8 0, .int .u8 0, .int .u8 0, .slice none 0 0, .slice none 0 0]) := Lib.hid ((Blk.new w 34 _).alloc _)
theorem laid_2 (w : World) (cs : List Value) : Hid (Blk (((w.alloc (.cells #[.int .i64 0, .slice none 0 0, .bool false, .int .u32 0, .int .u32 0, .int .u32 0, .slice none 0 0, .slice none 0 0, .int .i64 0, .int .u32 0, .bool false, .int .u8 0, .int .u8 0, .int .u8 0, .int .u8 0, .int .u8 0, .int .u8 0, .int .u8 0, .int .u8 0, .int .u8 0, .int .u8 0, .int .u8 0, .int .u8 0, .int .u8 0, .int .u8 0, .int .u8 0, .int .u8 0, .bool false, .int .u8 0, .int .u8 0, .int .u8 0, .int .u8 0, .int .u8 0, .int .u8 0, .int .u8 0, .int .u8 0, .int .u8 0, .int .u8 0, .int .u8 0, .int .u8 0, .int .u8 0, .int .u8 0, .int .u8 0, .int .u8 0, .slice none 0 0, .slice none 0 0] 34)).alloc (.cells #[.int .i64 0, .int .i64 0, .slice none 0 0] 56)).setRow w.heap.size cs.toArray) (w.heap.size + 1) 56 #[.int .i64 0, .int .i64 0, .slice none 0 0]) := Lib.hid (by
  have b2 : Blk ((w.alloc (.cells #[.int .i64 0, .slice none 0 0, .bool false, .int .u32 0, .int .u32 0, .int .u32 0, .slice none 0 0, .slice none 0 0, .int .i64 0, .int .u32 0, .bool false, .int .u8 0, .int .u8 0, .int .u8 0, .int .u8 0, .int .u8 0, .int .u8 0, .int .u8 0, .int .u8 0, .int .u8 0, .int .u8 0, .int .u8 0, .int .u8 0, .int .u8 0, .int .u8 0, .int .u8 0, .int .u8 0, .bool false, .int .u8 0, .int .u8 0, .int .u8 0, .int .u8 0, .int .u8 0, .int .u8 0, .int .u8 0, .int .u8 0, .int .u8 0, .int .u8 0, .int .u8 0, .int .u8 0, .int .u8 0, .int .u8 0, .int .u8 0, .int .u8 0, .slice none 0 0, .slice none 0 0] 34)).alloc (.cells #[.int .i64 0, .int .i64 0, .slice none 0 0] 56)) (w.heap.size + 1) 56 #[.int .i64 0, .int .i64 0, .slice none 0 0] := by simpa using Blk.new (w.alloc (.cells #[.int .i64 0, .slice none 0 0, .bool false, .int .u32 0, .int .u32 0, .int .u32 0, .slice none 0 0, .slice none 0 0, .int .i64 0, .int .u32 0, .bool false, .int .u8 0, .int .u8 0, .int .u8 0, .int .u8 0, .int .u8 0, .int .u8 0, .int .u8 0, .int .u8 0, .int .u8 0, .int .u8 0, .int .u8 0, .int .u8 0, .int .u8 0, .int .u8 0, .int .u8 0, .int .u8 0, .bool false, .int .u8 0, .int .u8 0, .int .u8 0, .int .u8 0, .int .u8 0, .int .u8 0, .int .u8 0, .int .u8 0, .int .u8 0, .int .u8 0, .int .u8 0, .int .u8 0, .int .u8 0, .int .u8 0, .int .u8 0, .int .u8 0, .slice none 0 0, .slice none 0 0] 34)) 56 #[.int .i64 0, .int .i64 0, .slice none 0 0]
  exact b2.setRow_otherN (by omega) _)
theorem laid_3 (w : World) (cs : List Value) (cd sb : Int) (A : Option Addr) (n c : Nat) : LaidP w cs cd sb A n c ((((w.alloc (.cells #[.int .i64 0, .slice none 0 0, .bool false, .int .u32 0, .int .u32 0, .int .u32 0, .slice none 0 0, .slice none 0 0, .int .i64 0, .int .u32 0, .bool false, .int .u8 0, .int .u8 0, .int .u8 0, .int .u8 0, .int .u8 0, .int .u8 0, .int .u8 0, .int .u8 0, .int .u8 0, .int .u8 0, .int .u8 0, .int .u8 0, .int .u8 0, .int .u8 0, .int .u8 0, .int .u8 0, .bool false, .int .u8 0, .int .u8 0, .int .u8 0, .int .u8 0, .int .u8 0, .int .u8 0, .int .u8 0, .int .u8 0, .int .u8 0, .int .u8 0, .int .u8 0, .int .u8 0, .int .u8 0, .int .u8 0, .int .u8 0, .int .u8 0, .slice none 0 0, .slice none 0 0] 34)).alloc (.cells #[.int .i64 0, .int .i64 0, .slice none 0 0] 56)).setRow w.heap.size cs.toArray).setRow (w.heap.size + 1) #[.int .i64 cd, .int .i64 sb, .slice A n c]) := two_rows w _ _ _ _ _ _
structure AlS (W9 : World) (b8 b11 b3 o3 c3 : Nat) (A1 : Option Addr) (F : Rt) (W : World) : Prop where
  c0 : W.cell? ⟨b8, 0, none⟩ = some (.int .i64 3)
  c1 : W.cell? ⟨b8, 1, none⟩ = some (.int .i64 1)
  cu : W.cell? ⟨b11, 45, none⟩ = some (.slice (some ⟨b3, o3, none⟩) 1 c3)
  rt : W.rangeAt b3 o3 (rtc F)
  rd : Rd W W.heap.size A1 4 [0, 0, 0, 0]
  lt : b8 < W.heap.size ∧ b11 < W.heap.size ∧ b3 < W.heap.size
  md : W9.heap.size < W.heap.size → Rd W W.heap.size (some ⟨W9.heap.size, 0, none⟩) 4 [0, 0, 0, 0]
theorem AlS.step {W9 W W' : World} {b8 b11 b3 o3 c3 : Nat} {A1 : Option Addr} {F : Rt} (h : AlS W9 b8 b11 b3 o3 c3 A1 F W) (hB : Below W.heap.size W W') (hg : W9.heap.size < W.heap.size) : AlS W9 b8 b11 b3 o3 c3 A1 F W' :=
  ⟨(hB.cell (p := ⟨b8, 0, none⟩) h.lt.1).trans h.c0, (hB.cell (p := ⟨b8, 1, none⟩) h.lt.1).trans h.c1, (hB.cell (p := ⟨b11, 45, none⟩) h.lt.2.1).trans h.cu, range_below h.rt hB h.lt.2.2, (h.rd.below hB).more hB.size, ⟨Nat.lt_of_lt_of_le h.lt.1 hB.size, Nat.lt_of_lt_of_le h.lt.2.1 hB.size, Nat.lt_of_lt_of_le h.lt.2.2 hB.size⟩, fun _ => ((h.md hg).below hB).more hB.size⟩
theorem AlS.make {W9 : World} {b8 b11 b3 o3 c3 : Nat} {A1 : Option Addr} {F : Rt} (h : AlS W9 b8 b11 b3 o3 c3 A1 F W9) : AlS W9 b8 b11 b3 o3 c3 A1 F (W9.alloc (.cells #[.int .u8 0, .int .u8 0, .int .u8 0, .int .u8 0] 5)) := by
  have hB := bl_one W9 (.cells #[.int .u8 0, .int .u8 0, .int .u8 0, .int .u8 0] 5)
  refine ⟨(hB.cell (p := ⟨b8, 0, none⟩) h.lt.1).trans h.c0, (hB.cell (p := ⟨b8, 1, none⟩) h.lt.1).trans h.c1, (hB.cell (p := ⟨b11, 45, none⟩) h.lt.2.1).trans h.cu, range_below h.rt hB h.lt.2.2, (h.rd.below hB).more hB.size, ⟨Nat.lt_of_lt_of_le h.lt.1 hB.size, Nat.lt_of_lt_of_le h.lt.2.1 hB.size, Nat.lt_of_lt_of_le h.lt.2.2 hB.size⟩, fun _ => ?_⟩
  exact (rd_made W9 [0, 0, 0, 0] (by unfold Oct; decide)).more (by simp)
theorem att0_fits : AtFits Att.zero := ⟨fun n h => (by cases h), fun n h => (by cases h), fun n h => (by cases h), by decide, by decide, by decide, by decide, rfl, oct_zeros 16⟩
theorem eql_self7 {F : Rt} (h : RtOk F) (w : World) : (binOp .eql 53 (.agg (rtc F).toArray) (.agg (rtc F).toArray)).run Tryz.prog w = .ok (.bool true) w := rt_eql F F h h true (by simp) w
theorem up0_ok : UpOk up0 := ⟨att0_fits, rfl, oct_zeros 16, AllRt.nil_, AllRt.nil_⟩
theorem upRd_0 (w : World) : UpRd w up0 none 0 none 0 := ⟨⟨rfl, AllRt.nil_, fun h => by omega⟩, ⟨rfl, AllRt.nil_, fun h => by omega⟩⟩

set_option maxHeartbeats 2000000 in
set_option maxRecDepth 100000 in
theorem alive7_gen {F : Rt} (hF : RtOk F) (hfl : ∀ w, Calls Tryz.prog 46 #[] w fun e w' => e = .returned (.agg (rtc F).toArray) ∧ Below w.heap.size w w') (hfill : FillRt F) (BF : List Int) (m : Nat) (he : upE ⟨Att.zero, false, z16, [], [F]⟩ = 0) (hBF : bodyU ⟨Att.zero, false, z16, [], [F]⟩ = BF) (hm : BF.length = m) (hmb : m ≤ 100) (hrd : upRd BF = (⟨Att.zero, false, z16, [], [F]⟩, 0, 0, 0, [])) (w : World) (E : EnvK w) :
    Calls Tryz.prog 16 #[] w fun e w' => e = .returned (.bool true) ∧ Below w.heap.size w w' := by
  have HFo := Lib.hid hF
  have HFl := Lib.hid hfl
  have HFi := Lib.hid hfill
  have HQ := Lib.hid (eql_self7 hF)
  have HE := Lib.hid (fun W (hB : Below w.heap.size w W) => E.below hB)
  have HP0 := Lib.hid (put_lit w E up0 up0_ok zat (isAt_zero 0 w).rdAt none 0 0 none 0 0 (upRd_0 w) (by omega) (by omega) 4 up0_e.1 _ up0_e.2 rfl)
  have hok : UpOk ⟨Att.zero, false, z16, [], [F]⟩ := ⟨att0_fits, rfl, oct_zeros 16, AllRt.nil_, fun x hx => by rw [List.mem_singleton.1 hx]; exact hF⟩
  have HPF : Hid (∀ W, EnvK W → ∀ A, RdRt W W.heap.size A 1 [F] → Calls Tryz.prog 18 #[.agg (upc zat false z16 (.slice none 0 0) (.slice A 1 1)).toArray] W fun e w' => ∃ A c, e = .returned (.tuple #[.slice A m c, .int .i64 0]) ∧ m ≤ c ∧ Rd w' w'.heap.size A m BF ∧ Below W.heap.size W w') := Lib.hid (fun W E A hA => put_lit W E ⟨Att.zero, false, z16, [], [F]⟩ hok zat (isAt_zero 0 W).rdAt none 0 0 A 1 1 ⟨⟨rfl, AllRt.nil_, fun h => by omega⟩, hA⟩ (by omega) (by omega) m he BF hBF hm)
  have HRF := Lib.hid (fun W (E : EnvK W) A c (hA : Rd W W.heap.size A m BF) => read_lit W E A m c BF hA (by omega) _ _ _ _ _ hrd)
  have HSm := Lib.hid (fun W A2 (h : Rd W W.heap.size A2 4 [0, 0, 0, 0]) A1 c1 (h1 : Rd W W.heap.size A1 4 [0, 0, 0, 0]) => same_is W _ A1 A2 4 4 c1 4 _ _ h1 h true (by decide))
  clear hF hfl hfill he hBF hm hmb hrd E hok
  go_enter Tryz.func16, Tryz.ntmps16
  go_wp2_with (first | (refine up0_build rfl rfl ?_) | fail)
  refine HP0.out.mono ?_
  rintro e w1 ⟨A1, c1, rfl, hc1, hR1, hB1⟩
  have HR1 := Lib.hid hR1
  have HB1 := Lib.hid hB1
  have hb := bl_one w1 (.cells #[.int .u8 0, .int .u8 0, .int .u8 0, .int .u8 0] 5)
  have HRd := Lib.hid (read_lit (w1.alloc (.cells #[.int .u8 0, .int .u8 0, .int .u8 0, .int .u8 0] 5)) (HE.out _ (hB1.trans (hb.mono hB1.size))) (some ⟨w1.heap.size, 0, none⟩) 4 4 [0, 0, 0, 0] ((rd_made w1 [0, 0, 0, 0] (by unfold Oct; decide)).more (by simp)) (by omega) _ _ _ _ _ up4_rd)
  have Hb := Lib.hid hb
  clear hc1 hR1 hB1 hb HP0
  go_wp2_with fail
  refine HRd.out.mono ?_
  rintro e w2 ⟨cs, A, n, c, rfl, hu, _, hB⟩
  have HL := Lib.hid hu.len
  have HO := Lib.hid hu.one
  have hB2 := Hb.out.trans (hB.mono (by simp))
  have HR2 := Lib.hid ((HR1.out.below hB2).more hB2.size)
  have HB2 := Lib.hid (HB1.out.trans (hB2.mono HB1.out.size))
  have H1 := laid_1 w2
  have H2 := laid_2 w2 cs
  have H3 := Lib.hid (laid_3 w2 cs 0 0 A n c)
  clear hu hB hB2 HR1 HB1 Hb HRd
  go_wp2_with (first
    | (refine up_store rfl _ _ rfl w2.heap.size cs HL.out HO.out rfl rfl 34 _ H1.out rfl ?_)
    | (refine fault_store_to rfl _ _ rfl (w2.heap.size + 1) 0 0 A n c rfl rfl 56 _ H2.out rfl (LaidP w2 cs 0 0 A n c) H3.out ?_; intro w3 hW3; have HW3 := Lib.hid hW3; clear hW3)
    | fail)
  have hB3 := HW3.out.1
  have hR3 := (HR2.out.below hB3).more hB3.size
  have hB3 := HB2.out.trans (hB3.mono HB2.out.size)
  have HR3 := Lib.hid hR3
  have HB3 := Lib.hid hB3
  have hb := bl_one w3 (.cells #[.int .u8 0, .int .u8 0, .int .u8 0] 5)
  have HRd := Lib.hid (read_lit (w3.alloc (.cells #[.int .u8 0, .int .u8 0, .int .u8 0] 5)) (HE.out _ (hB3.trans (hb.mono hB3.size))) (some ⟨w3.heap.size, 0, none⟩) 3 3 [0, 0, 0] ((rd_made w3 [0, 0, 0] (by unfold Oct; decide)).more (by simp)) (by omega) _ _ _ _ _ up3_rd)
  have Hb := Lib.hid hb
  clear hR3 hB3 hb HR2 HB2 H1 H2 H3 HL HO HW3
  go_wp2_with fail
  refine HRd.out.mono ?_
  rintro e w4 ⟨cs4, A4, n4, c4, rfl, hu, _, hB⟩
  have HL := Lib.hid hu.len
  have HO := Lib.hid hu.one
  have hB4 := Hb.out.trans (hB.mono (by simp))
  have HR4 := Lib.hid ((HR3.out.below hB4).more hB4.size)
  have HB4 := Lib.hid (HB3.out.trans (hB4.mono HB3.out.size))
  have H1 := laid_1 w4
  have H2 := laid_2 w4 cs4
  have H3 := Lib.hid (laid_3 w4 cs4 3 1 A4 n4 c4)
  clear hu hB hB4 HR3 HB3 Hb HRd
  go_wp2_with (first
    | (refine up_store rfl _ _ rfl w4.heap.size cs4 HL.out HO.out rfl rfl 34 _ H1.out rfl ?_)
    | (refine fault_store_to rfl _ _ rfl (w4.heap.size + 1) 3 1 A4 n4 c4 rfl rfl 56 _ H2.out rfl (LaidP w4 cs4 3 1 A4 n4 c4) H3.out ?_; intro w5 hW5; have HW5 := Lib.hid hW5; clear hW5)
    | fail)
  have hB5 := HW5.out.1
  have HR5 := Lib.hid ((HR4.out.below hB5).more hB5.size)
  have HB5 := Lib.hid (HB4.out.trans (hB5.mono HB4.out.size))
  have H85 := Lib.hid HW5.out.2.2
  have hb85 : w4.heap.size + 1 < w5.heap.size := H85.out.lt
  generalize w4.heap.size + 1 = b8 at *
  clear hB5 HR4 HB4 H1 H2 H3 HL HO HW5
  refine (HFl.out _).mono ?_
  rintro e w6 ⟨rfl, hB⟩
  have HR6 := Lib.hid ((HR5.out.below hB).more hB.size)
  have HB6 := Lib.hid (HB5.out.trans (hB.mono HB5.out.size))
  have H86 := Lib.hid (H85.out.below hB hb85)
  have hb := bl_one w6 (.cells (rtc F).toArray 53)
  have hE6 := HE.out _ (HB6.out.trans (hb.mono HB6.out.size))
  have HPx := Lib.hid (HPF.out _ hE6 _ (one_rt_rd w6 F HFo.out))
  have Hb := Lib.hid hb
  clear hB HR5 HB5 H85 hb85 hb hE6 HPF
  go_wp2_with (first
    | (refine one_rt_wp rfl _ rfl F HFi.out rfl ?_)
    | (refine up_build rfl _ rfl (some ⟨w6.heap.size, 0, none⟩) 1 1 rfl ?_)
    | fail)
  refine HPx.out.mono ?_
  rintro e w7 ⟨A7, c7, rfl, _, hR7, hB⟩
  have hB7 := Hb.out.trans (hB.mono (by simp))
  have HR7 := Lib.hid ((HR6.out.below hB7).more hB7.size)
  have HB7 := Lib.hid (HB6.out.trans (hB7.mono HB6.out.size))
  have H87 := Lib.hid (H86.out.below hB7 H86.out.lt)
  have HRx := Lib.hid (HRF.out w7 (HE.out _ HB7.out) A7 c7 hR7)
  clear hB hB7 hR7 HR6 HB6 H86 HPx Hb HRF
  go_wp2_with fail
  refine HRx.out.mono ?_
  rintro e w8 ⟨cs8, A8, n8, c8, rfl, hu, _, hB⟩
  have HL := Lib.hid hu.len
  have HO := Lib.hid hu.one
  have HR8 := Lib.hid ((HR7.out.below hB).more hB.size)
  have HB8 := Lib.hid (HB7.out.trans (hB.mono HB7.out.size))
  have H88 := Lib.hid (H87.out.below hB H87.out.lt)
  have HU := Lib.hid hu
  have H1 := laid_1 w8
  have H2 := laid_2 w8 cs8
  have H3 := Lib.hid (laid_3 w8 cs8 0 0 A8 n8 c8)
  clear hu hB HR7 HB7 H87 HRx
  go_wp2_with (first
    | (refine up_store rfl _ _ rfl w8.heap.size cs8 HL.out HO.out rfl rfl 34 _ H1.out rfl ?_)
    | (refine fault_store_to rfl _ _ rfl (w8.heap.size + 1) 0 0 A8 n8 c8 rfl rfl 56 _ H2.out rfl (LaidP w8 cs8 0 0 A8 n8 c8) H3.out ?_; intro w9 hW9; have HW9 := Lib.hid hW9; clear hW9)
    | fail)
  have hB9 := HW9.out.1
  have hR9 := (HR8.out.below hB9).more hB9.size
  have HB9 := Lib.hid (HB8.out.trans (hB9.mono HB8.out.size))
  have h89 := H88.out.below hB9 H88.out.lt
  have hU9 := HU.out.below hB9
  have hb9 := HW9.out.2.1
  obtain ⟨xs, vr, vu, rfl, ha, _, hun⟩ := hU9.ex
  obtain ⟨A3, c3, rfl, hrt⟩ := hun.rd
  obtain ⟨b3, o3, rfl, hb3, hg3⟩ := hrt.at_ (by simp)
  have hg0 := hg3 0 (by simp)
  simp only [Nat.zero_mul, Nat.add_zero, List.getElem_cons_zero] at hg0
  have hx := UpBox.cu ⟨hb9.range, ha.len, rfl, hb9.lt⟩
  have HX : Hid (AlS w9.drew (b8) w8.heap.size b3 o3 c3 A1 F w9.drew) := Lib.hid ⟨h89.cell 0, h89.cell 1, hx, hg0, hR9.below (below_drewN (Below.refl _ _) 1), ⟨h89.lt, hb9.lt, hb3⟩, fun h => absurd h (Nat.lt_irrefl _)⟩
  have HB9 := Lib.hid (below_drewN HB9.out 1)
  change Hid (Below w.heap.size w w9.drew) at HB9
  have hq0 := HQ.out
  clear hB9 hR9 h89 hU9 hb9 ha hun hrt hg3 hg0 hx HR8 HB8 H88 HU H1 H2 H3 HL HO HW9
  refine wp_region_held_drew (S := fun W => AlS w9.drew b8 w8.heap.size b3 o3 c3 A1 F W ∧ Below w9.drew.heap.size w9.drew W) (by kernel_rfl) (⟨HX.out, Below.refl _ _⟩) (fun hS => ?_)
  generalize w8.heap.size = b11 at *
  generalize w9.drew = w10 at *
  refine wpAnyH_take (i := 0) (oi := ⟨some 44, _, _, _, _, _⟩) (v := ?_) rfl (by kernel_rfl) (by kernel_rfl) (by kernel_rfl) (fun _ _ _ h => h) (Or.inl ⟨by rfl, ?_⟩) hS ?_
  rotate_left
  · intro wq hq
    first | (go_simp; done) | (go_simp; rfl)
  try simp only [Act.put, zP, zQ, zR]
  refine wpAnyH_take (i := 1) (oi := ⟨some 45, _, _, _, _, _⟩) (v := ?_) rfl (by kernel_rfl) (by kernel_rfl) (by kernel_rfl) (fun _ _ _ h => h) (Or.inl ⟨by rfl, ?_⟩) hS ?_
  rotate_left
  · intro wq hq
    first | (go_simp; done) | (go_simp; rfl)
  try simp only [Act.put, zP, zQ, zR]
  refine wpAnyH_take (i := 2) (oi := ⟨some 46, _, _, _, _, _⟩) (v := ?_) rfl (by kernel_rfl) (by kernel_rfl) (by kernel_rfl) (fun _ _ _ h => h) (Or.inl ⟨by rfl, ?_⟩) hS ?_
  rotate_left
  · intro wq hq
    first | (go_simp; done) | (go_simp; rfl)
  try simp only [Act.put, zP, zQ, zR]
  refine wpAnyH_take (i := 3) (oi := ⟨some 47, _, _, _, _, _⟩) (v := ?_) rfl (by kernel_rfl) (by kernel_rfl) (by kernel_rfl) (fun _ _ _ h => h) (Or.inl ⟨by rfl, ?_⟩) hS ?_
  rotate_left
  · intro wq hq
    first | (go_simp; done) | (go_simp; rfl)
  try simp only [Act.put, zP, zQ, zR]
  refine wpAnyH_ready (rs := [4]) (by kernel_rfl) (by simp) ?_
  refine AllReadyH.cons (o := ⟨some 48, _, _, _, _, _⟩) rfl (fun K hK => ?_) AllReadyH.nil
  rw [if_pos (by rfl)]
  go_wp2_with fail
  have hS1 := And.intro hS.1.make (bl_one w10 (.cells #[.int .u8 0, .int .u8 0, .int .u8 0, .int .u8 0] 5))
  have hgt : w10.heap.size < (w10.alloc (.cells #[.int .u8 0, .int .u8 0, .int .u8 0, .int .u8 0] 5)).heap.size := by simp
  clear hS
  refine hK.out _ _ hS1 (fun hS => ?_)
  clear hK K hS1
  try simp only [Act.put, zP, zQ, zR]
  refine wpAnyH_ready (rs := [5]) (by kernel_rfl) (by simp) ?_
  refine AllReadyH.cons (o := ⟨some 49, _, _, _, _, _⟩) rfl (fun K hK => ?_) AllReadyH.nil
  rw [if_pos (by rfl)]
  go_wp2_with fail
  refine (HSm.out _ _ (hS.1.md hgt) _ _ hS.1.rd).mono ?_
  rintro e wx ⟨rfl, rfl⟩
  have hS1 := hS
  refine hK.out _ _ (hS1) (fun hS => ?_)
  clear hK K
  try simp only [Act.put, zP, zQ, zR]
  clear hS1
  refine wpAnyH_take (i := 6) (oi := ⟨some 50, _, _, _, _, _⟩) (v := ?_) rfl (by kernel_rfl) (by kernel_rfl) (by kernel_rfl) (fun _ _ _ h => h) (Or.inl ⟨by rfl, ?_⟩) hS ?_
  rotate_left
  · intro wq hq
    first | (go_simp; done) | (go_simp; rfl)
  try simp only [Act.put, zP, zQ, zR]
  refine wpAnyH_take (i := 7) (oi := ⟨some 51, _, _, _, _, _⟩) (v := ?_) rfl (by kernel_rfl) (by kernel_rfl) (by kernel_rfl) (fun _ _ _ h => h) (Or.inl ⟨by rfl, ?_⟩) hS ?_
  rotate_left
  · intro wq hq
    first | (go_simp; done) | (go_simp; rfl)
  try simp only [Act.put, zP, zQ, zR]
  refine wpAnyH_take (i := 8) (oi := ⟨some 52, _, _, _, _, _⟩) (v := ?_) rfl (by kernel_rfl) (by kernel_rfl) (by kernel_rfl) (fun _ _ _ h => h) (Or.inl ⟨by rfl, ?_⟩) hS ?_
  rotate_left
  · intro wq hq
    first | (go_simp; done) | (go_simp; rfl)
  try simp only [Act.put, zP, zQ, zR]
  refine wpAnyH_take (i := 9) (oi := ⟨some 53, _, _, _, _, _⟩) (v := ?_) rfl (by kernel_rfl) (by kernel_rfl) (by kernel_rfl) (fun _ _ _ h => h) (Or.inl ⟨by rfl, ?_⟩) hS ?_
  rotate_left
  · intro wq hq
    first | (go_simp; done) | (go_simp; rfl)
  try simp only [Act.put, zP, zQ, zR]
  refine wpAnyH_take (i := 10) (oi := ⟨some 54, _, _, _, _, _⟩) (v := ?_) rfl (by kernel_rfl) (by kernel_rfl) (by kernel_rfl) (fun _ _ _ h => h) (Or.inl ⟨by rfl, ?_⟩) hS ?_
  rotate_left
  · intro wq hq
    first | (go_simp; done) | (go_simp; rfl)
  try simp only [Act.put, zP, zQ, zR]
  refine wpAnyH_take (i := 11) (oi := ⟨some 55, _, _, _, _, _⟩) (v := ?_) rfl (by kernel_rfl) (by kernel_rfl) (by kernel_rfl) (fun _ _ _ h => h) (Or.inl ⟨by rfl, ?_⟩) hS ?_
  rotate_left
  · intro wq hq
    first | (go_simp; done) | (go_simp; rfl)
  try simp only [Act.put, zP, zQ, zR]
  refine wpAnyH_take (i := 12) (oi := ⟨some 56, _, _, _, _, _⟩) (v := ?_) rfl (by kernel_rfl) (by kernel_rfl) (by kernel_rfl) (fun _ _ _ h => h) (Or.inl ⟨by rfl, ?_⟩) hS ?_
  rotate_left
  · intro wq hq
    first | (go_simp; done) | (go_simp; rfl)
  try simp only [Act.put, zP, zQ, zR]
  refine wpAnyH_take (i := 13) (oi := ⟨some 57, _, _, _, _, _⟩) (v := ?_) rfl (by kernel_rfl) (by kernel_rfl) (by kernel_rfl) (fun _ _ _ h => h) (Or.inl ⟨by rfl, ?_⟩) hS ?_
  rotate_left
  · intro wq hq
    first | (go_simp; done) | (go_simp; rfl)
  try simp only [Act.put, zP, zQ, zR]
  refine wpAnyH_take (i := 14) (oi := ⟨some 58, _, _, _, _, _⟩) (v := ?_) rfl (by kernel_rfl) (by kernel_rfl) (by kernel_rfl) (fun _ _ _ h => h) (Or.inl ⟨by rfl, ?_⟩) hS ?_
  rotate_left
  · intro wq hq
    first | (go_simp; done) | (go_simp; rfl)
  try simp only [Act.put, zP, zQ, zR]
  refine wpAnyH_take (i := 15) (oi := ⟨some 59, _, _, _, _, _⟩) (v := ?_) rfl (by kernel_rfl) (by kernel_rfl) (by kernel_rfl) (fun _ _ _ h => h) (Or.inl ⟨by rfl, ?_⟩) hS ?_
  rotate_left
  · intro wq hq
    first | (go_simp; done) | (go_simp; rfl)
  try simp only [Act.put, zP, zQ, zR]
  refine wpAnyH_take (i := 16) (oi := ⟨some 60, _, _, _, _, _⟩) (v := ?_) rfl (by kernel_rfl) (by kernel_rfl) (by kernel_rfl) (fun _ _ _ h => h) (Or.inl ⟨by rfl, ?_⟩) hS ?_
  rotate_left
  · intro wq hq
    first | (go_simp; done) | (go_simp; rfl)
  try simp only [Act.put, zP, zQ, zR]
  refine wpAnyH_take (i := 17) (oi := ⟨some 61, _, _, _, _, _⟩) (v := ?_) rfl (by kernel_rfl) (by kernel_rfl) (by kernel_rfl) (fun _ _ _ h => h) (Or.inl ⟨by rfl, ?_⟩) hS ?_
  rotate_left
  · intro wq hq
    have c := hq.1.c0
    first | (go_simp; done) | (go_simp; rfl)
  try simp only [Act.put, zP, zQ, zR]
  refine wpAnyH_take (i := 18) (oi := ⟨some 62, _, _, _, _, _⟩) (v := ?_) rfl (by kernel_rfl) (by kernel_rfl) (by kernel_rfl) (fun _ _ _ h => h) (Or.inl ⟨by rfl, ?_⟩) hS ?_
  rotate_left
  · intro wq hq
    first | (go_simp; done) | (go_simp; rfl)
  try simp only [Act.put, zP, zQ, zR]
  refine wpAnyH_take (i := 19) (oi := ⟨some 63, _, _, _, _, _⟩) (v := ?_) rfl (by kernel_rfl) (by kernel_rfl) (by kernel_rfl) (fun _ _ _ h => h) (Or.inl ⟨by rfl, ?_⟩) hS ?_
  rotate_left
  · intro wq hq
    first | (go_simp; done) | (go_simp; rfl)
  try simp only [Act.put, zP, zQ, zR]
  refine wpAnyH_take (i := 20) (oi := ⟨some 64, _, _, _, _, _⟩) (v := ?_) rfl (by kernel_rfl) (by kernel_rfl) (by kernel_rfl) (fun _ _ _ h => h) (Or.inl ⟨by rfl, ?_⟩) hS ?_
  rotate_left
  · intro wq hq
    first | (go_simp; done) | (go_simp; rfl)
  try simp only [Act.put, zP, zQ, zR]
  refine wpAnyH_take (i := 21) (oi := ⟨some 65, _, _, _, _, _⟩) (v := ?_) rfl (by kernel_rfl) (by kernel_rfl) (by kernel_rfl) (fun _ _ _ h => h) (Or.inl ⟨by rfl, ?_⟩) hS ?_
  rotate_left
  · intro wq hq
    first | (go_simp; done) | (go_simp; rfl)
  try simp only [Act.put, zP, zQ, zR]
  refine wpAnyH_take (i := 22) (oi := ⟨some 66, _, _, _, _, _⟩) (v := ?_) rfl (by kernel_rfl) (by kernel_rfl) (by kernel_rfl) (fun _ _ _ h => h) (Or.inl ⟨by rfl, ?_⟩) hS ?_
  rotate_left
  · intro wq hq
    have c := hq.1.c1
    first | (go_simp; done) | (go_simp; rfl)
  try simp only [Act.put, zP, zQ, zR]
  refine wpAnyH_take (i := 23) (oi := ⟨some 67, _, _, _, _, _⟩) (v := ?_) rfl (by kernel_rfl) (by kernel_rfl) (by kernel_rfl) (fun _ _ _ h => h) (Or.inl ⟨by rfl, ?_⟩) hS ?_
  rotate_left
  · intro wq hq
    first | (go_simp; done) | (go_simp; rfl)
  try simp only [Act.put, zP, zQ, zR]
  refine wpAnyH_take (i := 24) (oi := ⟨some 68, _, _, _, _, _⟩) (v := ?_) rfl (by kernel_rfl) (by kernel_rfl) (by kernel_rfl) (fun _ _ _ h => h) (Or.inl ⟨by rfl, ?_⟩) hS ?_
  rotate_left
  · intro wq hq
    first | (go_simp; done) | (go_simp; rfl)
  try simp only [Act.put, zP, zQ, zR]
  refine wpAnyH_take (i := 25) (oi := ⟨some 69, _, _, _, _, _⟩) (v := ?_) rfl (by kernel_rfl) (by kernel_rfl) (by kernel_rfl) (fun _ _ _ h => h) (Or.inl ⟨by rfl, ?_⟩) hS ?_
  rotate_left
  · intro wq hq
    first | (go_simp; done) | (go_simp; rfl)
  try simp only [Act.put, zP, zQ, zR]
  refine wpAnyH_take (i := 26) (oi := ⟨some 70, _, _, _, _, _⟩) (v := ?_) rfl (by kernel_rfl) (by kernel_rfl) (by kernel_rfl) (fun _ _ _ h => h) (Or.inl ⟨by rfl, ?_⟩) hS ?_
  rotate_left
  · intro wq hq
    first | (go_simp; done) | (go_simp; rfl)
  try simp only [Act.put, zP, zQ, zR]
  refine wpAnyH_take (i := 27) (oi := ⟨some 71, _, _, _, _, _⟩) (v := ?_) rfl (by kernel_rfl) (by kernel_rfl) (by kernel_rfl) (fun _ _ _ h => h) (Or.inl ⟨by rfl, ?_⟩) hS ?_
  rotate_left
  · intro wq hq
    first | (go_simp; done) | (go_simp; rfl)
  try simp only [Act.put, zP, zQ, zR]
  refine wpAnyH_take (i := 28) (oi := ⟨some 72, _, _, _, _, _⟩) (v := ?_) rfl (by kernel_rfl) (by kernel_rfl) (by kernel_rfl) (fun _ _ _ h => h) (Or.inl ⟨by rfl, ?_⟩) hS ?_
  rotate_left
  · intro wq hq
    first | (go_simp; done) | (go_simp; rfl)
  try simp only [Act.put, zP, zQ, zR]
  refine wpAnyH_take (i := 29) (oi := ⟨some 73, _, _, _, _, _⟩) (v := ?_) rfl (by kernel_rfl) (by kernel_rfl) (by kernel_rfl) (fun _ _ _ h => h) (Or.inl ⟨by rfl, ?_⟩) hS ?_
  rotate_left
  · intro wq hq
    first | (go_simp; done) | (go_simp; rfl)
  try simp only [Act.put, zP, zQ, zR]
  refine wpAnyH_take (i := 30) (oi := ⟨some 74, _, _, _, _, _⟩) (v := ?_) rfl (by kernel_rfl) (by kernel_rfl) (by kernel_rfl) (fun _ _ _ h => h) (Or.inl ⟨by rfl, ?_⟩) hS ?_
  rotate_left
  · intro wq hq
    first | (go_simp; done) | (go_simp; rfl)
  try simp only [Act.put, zP, zQ, zR]
  refine wpAnyH_take (i := 31) (oi := ⟨some 75, _, _, _, _, _⟩) (v := ?_) rfl (by kernel_rfl) (by kernel_rfl) (by kernel_rfl) (fun _ _ _ h => h) (Or.inl ⟨by rfl, ?_⟩) hS ?_
  rotate_left
  · intro wq hq
    first | (go_simp; done) | (go_simp; rfl)
  try simp only [Act.put, zP, zQ, zR]
  refine wpAnyH_take (i := 32) (oi := ⟨some 76, _, _, _, _, _⟩) (v := ?_) rfl (by kernel_rfl) (by kernel_rfl) (by kernel_rfl) (fun _ _ _ h => h) (Or.inl ⟨by rfl, ?_⟩) hS ?_
  rotate_left
  · intro wq hq
    first | (go_simp; done) | (go_simp; rfl)
  try simp only [Act.put, zP, zQ, zR]
  refine wpAnyH_take (i := 33) (oi := ⟨some 77, _, _, _, _, _⟩) (v := ?_) rfl (by kernel_rfl) (by kernel_rfl) (by kernel_rfl) (fun _ _ _ h => h) (Or.inl ⟨by rfl, ?_⟩) hS ?_
  rotate_left
  · intro wq hq
    first | (go_simp; done) | (go_simp; rfl)
  try simp only [Act.put, zP, zQ, zR]
  refine wpAnyH_take (i := 34) (oi := ⟨some 78, _, _, _, _, _⟩) (v := ?_) rfl (by kernel_rfl) (by kernel_rfl) (by kernel_rfl) (fun _ _ _ h => h) (Or.inl ⟨by rfl, ?_⟩) hS ?_
  rotate_left
  · intro wq hq
    first | (go_simp; done) | (go_simp; rfl)
  try simp only [Act.put, zP, zQ, zR]
  refine wpAnyH_take (i := 35) (oi := ⟨some 79, _, _, _, _, _⟩) (v := ?_) rfl (by kernel_rfl) (by kernel_rfl) (by kernel_rfl) (fun _ _ _ h => h) (Or.inl ⟨by rfl, ?_⟩) hS ?_
  rotate_left
  · intro wq hq
    have c := hq.1.cu
    first | (go_simp; done) | (go_simp; rfl)
  try simp only [Act.put, zP, zQ, zR]
  refine wpAnyH_take (i := 36) (oi := ⟨some 80, _, _, _, _, _⟩) (v := ?_) rfl (by kernel_rfl) (by kernel_rfl) (by kernel_rfl) (fun _ _ _ h => h) (Or.inl ⟨by rfl, ?_⟩) hS ?_
  rotate_left
  · intro wq hq
    first | (go_simp; done) | (go_simp; rfl)
  try simp only [Act.put, zP, zQ, zR]
  refine wpAnyH_take (i := 37) (oi := ⟨some 81, _, _, _, _, _⟩) (v := ?_) rfl (by kernel_rfl) (by kernel_rfl) (by kernel_rfl) (fun _ _ _ h => h) (Or.inl ⟨by rfl, ?_⟩) hS ?_
  rotate_left
  · intro wq hq
    first | (go_simp; done) | (go_simp; rfl)
  try simp only [Act.put, zP, zQ, zR]
  refine wpAnyH_take (i := 38) (oi := ⟨some 82, _, _, _, _, _⟩) (v := ?_) rfl (by kernel_rfl) (by kernel_rfl) (by kernel_rfl) (fun _ _ _ h => h) (Or.inl ⟨by rfl, ?_⟩) hS ?_
  rotate_left
  · intro wq hq
    first | (go_simp; done) | (go_simp; rfl)
  try simp only [Act.put, zP, zQ, zR]
  refine wpAnyH_take (i := 39) (oi := ⟨some 83, _, _, _, _, _⟩) (v := ?_) rfl (by kernel_rfl) (by kernel_rfl) (by kernel_rfl) (fun _ _ _ h => h) (Or.inl ⟨by rfl, ?_⟩) hS ?_
  rotate_left
  · intro wq hq
    first | (go_simp; done) | (go_simp; rfl)
  try simp only [Act.put, zP, zQ, zR]
  refine wpAnyH_take (i := 40) (oi := ⟨some 84, _, _, _, _, _⟩) (v := ?_) rfl (by kernel_rfl) (by kernel_rfl) (by kernel_rfl) (fun _ _ _ h => h) (Or.inl ⟨by rfl, ?_⟩) hS ?_
  rotate_left
  · intro wq hq
    first | (go_simp; done) | (go_simp; rfl)
  try simp only [Act.put, zP, zQ, zR]
  refine wpAnyH_take (i := 41) (oi := ⟨some 85, _, _, _, _, _⟩) (v := ?_) rfl (by kernel_rfl) (by kernel_rfl) (by kernel_rfl) (fun _ _ _ h => h) (Or.inl ⟨by rfl, ?_⟩) hS ?_
  rotate_left
  · intro wq hq
    have c := hq.1.cu
    first | (go_simp; done) | (go_simp; rfl)
  try simp only [Act.put, zP, zQ, zR]
  refine wpAnyH_take (i := 42) (oi := ⟨some 86, _, _, _, _, _⟩) (v := ?_) rfl (by kernel_rfl) (by kernel_rfl) (by kernel_rfl) (fun _ _ _ h => h) (Or.inl ⟨by rfl, ?_⟩) hS ?_
  rotate_left
  · intro wq hq
    first | (go_simp; done) | (go_simp; rfl)
  try simp only [Act.put, zP, zQ, zR]
  refine wpAnyH_take (i := 43) (oi := ⟨some 87, _, _, _, _, _⟩) rfl (by kernel_rfl) (by kernel_rfl) (by kernel_rfl) (fun _ _ _ h => h) (yieldsIf_load_mid (by rfl) 53 _ rfl _ _ rfl (rtc F) _ (fun wq hq => hq.1.rt) Tryz.underlying53 rfl (by rw [rt_size, rtc_len HFo.out])) hS ?_
  try simp only [Act.put, zP, zQ, zR]
  refine wpAnyH_ready (rs := [44]) (by kernel_rfl) (by simp) ?_
  refine AllReadyH.cons (o := ⟨some 88, _, _, _, _, _⟩) rfl (fun K hK => ?_) AllReadyH.nil
  rw [if_pos (by rfl)]
  go_wp2_with fail
  refine (HFl.out _).mono ?_
  rintro e wx ⟨rfl, hB⟩
  have hS1 := And.intro (hS.1.step hB hgt) (hS.2.trans (hB.mono hS.2.size))
  clear hB hS hgt
  refine hK.out _ _ (hS1) (fun hS => ?_)
  clear hK K
  try simp only [Act.put, zP, zQ, zR]
  clear hS1
  refine wpAnyH_take (i := 45) (oi := ⟨some 89, _, _, _, _, _⟩) (v := ?_) rfl (by kernel_rfl) (by kernel_rfl) (by kernel_rfl) (fun _ _ _ h => h) (Or.inl ⟨by rfl, ?_⟩) hS ?_
  rotate_left
  · intro wq hq
    first | (go_simp; done) | (go_simp; rfl)
  try simp only [Act.put, zP, zQ, zR]
  refine wpAnyH_take (i := 46) (oi := ⟨some 90, _, _, _, _, _⟩) (v := ?_) rfl (by kernel_rfl) (by kernel_rfl) (by kernel_rfl) (fun _ _ _ h => h) (Or.inl ⟨by rfl, ?_⟩) hS ?_
  rotate_left
  · intro wq hq
    first | (go_simp; done) | (go_simp; rfl)
  try simp only [Act.put, zP, zQ, zR]
  refine wpAnyH_take (i := 47) (oi := ⟨some 0, _, _, _, _, _⟩) (v := ?_) rfl (by kernel_rfl) (by kernel_rfl) (by kernel_rfl) (fun _ _ _ h => h) (Or.inl ⟨by rfl, ?_⟩) hS ?_
  rotate_left
  · intro wq hq
    first | (go_simp; done) | (go_simp; rfl)
  try simp only [Act.put, zP, zQ, zR]
  refine wpAnyH_done (by kernel_rfl) ?_ _
  have HB := Lib.hid (HB9.out.trans (hS.2.mono HB9.out.size))
  clear hS
  go_wp2
  go_ret
  exact ⟨rfl, HB.out⟩
theorem alive7_is (w : World) (E : EnvK w) : Calls Tryz.prog 16 #[] w fun e w' => e = .returned (.bool true) ∧ Below w.heap.size w w' := alive7_gen floodR_ok flood7_is flood_fill _ _ upF_e rfl rfl upF_n upF_rd w E
end Go.Proofs.YtdgoeibfggjbmaaGreatDoor
