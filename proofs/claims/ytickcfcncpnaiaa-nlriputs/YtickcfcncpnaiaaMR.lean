/-
  Put together: NlR NlS.
-/
import Derived.Test.YtickcfcncpnaiaaMM
import Derived.Test.YtickcfcncpnaiaaMP
namespace Go.Proofs.Ytickcfcncpnaiaa
open Go.RowKit
set_option maxRecDepth 100000
set_option linter.unusedSimpArgs false
set_option linter.unusedVariables false

theorem wpList_copy {P : Program} {ops : Array Oper} {rest : List Oper} {o : Oper} {a : Act} {w : World} {Q : Exit → Act → World → Prop} (hgd : o.guard = none) (s x : Operand) (dT sT elem : TypeId)
    (ho : o.op = .call { callee := .builtin .copy, args := #[s, x], argTypes := #[dT, sT] }) (hu : P.underlying dT = some (.slice elem)) (hsz : (P.info? elem).map (·.size) = some 1) (dp sp : Option Addr) (dLen dCap sLen sCap : Nat)
    (hs : a.eval s = .slice dp dLen dCap) (hx : a.eval x = .slice sp sLen sCap)
    (g off : Nat) (cur : List Value) (t : TypeId) (hg : w.heap[g]? = some (.cells cur.toArray t (0, 0))) (cs : List Value) (hn : cs.length = Nat.min sLen dLen)
    (hpos : 0 < cs.length → dp = some ⟨g, off, none⟩ ∧ ∃ ad, sp = some ad ∧ ∀ j v, cs[j]? = some v → w.cell? (ad.add j) = some v)
    (hfit : off + cs.length ≤ cur.length) (h1 : ∀ v ∈ cs, v.oneCell' = true)
    (h : ∀ w', w'.heap[g]? = some (.cells (cur.take off ++ cs ++ cur.drop (off + cs.length)).toArray t (0, 0)) → Below g w w' → wpList P ops Q rest (a.put o.dst (.int .i64 cs.length)) w') : wpList P ops Q (o :: rest) a w := by
  obtain ⟨w', hrun, hg', hB, _⟩ := copy_row (P := P) w dT sT o.type elem hu hsz dp sp dLen dCap sLen sCap g off cur t hg cs hn hpos hfit h1
  refine wpList_plain hgd fun _ hK => ?_
  unfold Oper.wp execOp
  simp only [ho, resolve, invoke, builtin, Sem.run_bind, Sem.run_pure, Result.andThen_ok, List.map_toArray, List.map_cons, List.map_nil, hs, hx, hrun]
  exact hK _ _ (h w' hg' hB)

/-- The example's route. -/
def floodR : Rt := { rtZ 3 [0, 1, 10, 0, 0, 1, 0, 100] with pl := [10, 0, 0, 1, 0, 0, 0, 0, 0, 0, 0, 0, 0, 0, 0, 0], pn := 32 }
def flood1 : Rt := rtZ 3 [0, 1, 10, 0, 0, 1, 0, 100]
theorem floodR_ok : RtOk floodR := by
  refine ⟨⟨by decide, by decide⟩, rfl, ?_, rfl, ?_, ⟨by decide, by decide⟩, rfl, ?_, rfl, ?_, ⟨by decide, by decide⟩, rfl, ?_, ⟨by decide, by decide⟩, ⟨by decide, by decide⟩⟩
  all_goals (unfold Oct; decide)
theorem flood1_ok : RtOk flood1 := by
  refine ⟨⟨by decide, by decide⟩, rfl, ?_, rfl, ?_, ⟨by decide, by decide⟩, rfl, ?_, rfl, ?_, ⟨by decide, by decide⟩, rfl, ?_, ⟨by decide, by decide⟩, ⟨by decide, by decide⟩⟩
  all_goals (unfold Oct; decide)
theorem flood_set : ((rtc flood1).toArray.setIfInBounds 43 (.int .i64 32)) = (rtc { flood1 with pn := 32 }).toArray := by kernel_rfl
theorem flood_copy : ((rtc { flood1 with pn := 32 }).take 27 ++ u8s [10, 0, 0, 1] ++ (rtc { flood1 with pn := 32 }).drop (27 + (u8s [10, 0, 0, 1]).length)) = rtc floodR := by kernel_rfl
structure FlW (w W : World) (r : Rt) : Prop where
  res : ∃ Z, Blk W w.heap.size 36 Z ∧ Z.size = 63
  rt : Blk W (w.heap.size + 1) 36 (rtc r).toArray
  low : Below w.heap.size w W
def StopAt (p : Prop) : Prop := p
theorem stop_here {P : Program} {ops : Array Oper} {rest : List Oper} {o : Oper} {a : Act} {w : World} {Q : Exit → Act → World → Prop} {n : Nat} (ho : o.dst = some n) (h : StopAt (wpList P ops Q (o :: rest) a w)) : wpList P ops Q (o :: rest) a w := h
section
variable {F1 F2 F3 : Rt}
theorem flCell {W : World} {g : Nat} (h : Blk W g 36 (rtc F1).toArray) (hc : (rtc F1)[43]? = some (.int .i64 0)) : W.cell? ⟨g, 43, none⟩ = some (.int .i64 0) := (h.cell 43).trans (by rw [List.getElem?_toArray]; exact hc)
theorem flC (he : (rtc F1).toArray.setIfInBounds 43 (.int .i64 32) = (rtc F2).toArray) {W : World} {g : Nat} (h : Blk W g 36 (rtc F1).toArray) : Hid (Blk ((W.setCell ⟨g, 43, none⟩ (.int .i64 32)).alloc (.cells #[.int .u8 10, .int .u8 0, .int .u8 0, .int .u8 1] 5)) g 36 (rtc F2).toArray) := Lib.hid (by
  have := h.set_ 43 (.int .i64 32)
  rw [he] at this
  exact this.alloc _)
theorem flS (W : World) (g : Nat) : Hid (0 < (u8s [10, 0, 0, 1]).length → (some ⟨g, 27, none⟩ : Option Addr) = some ⟨g, 27, none⟩ ∧ ∃ ad, (some ⟨W.heap.size, 0, none⟩ : Option Addr) = some ad ∧ ∀ j v, (u8s [10, 0, 0, 1])[j]? = some v → ((W.setCell ⟨g, 43, none⟩ (.int .i64 32)).alloc (.cells #[.int .u8 10, .int .u8 0, .int .u8 0, .int .u8 1] 5)).cell? (ad.add j) = some v) := Lib.hid (fun _ => ⟨rfl, _, rfl, fun j v hv => by
  have hs : (W.setCell ⟨g, 43, none⟩ (.int .i64 32)).heap.size = W.heap.size := by simp [World.setCell]
  have hb := Blk.new (W.setCell ⟨g, 43, none⟩ (.int .i64 32)) 5 #[.int .u8 10, .int .u8 0, .int .u8 0, .int .u8 1]
  rw [hs] at hb
  rw [show ((⟨W.heap.size, 0, none⟩ : Addr).add j) = ⟨W.heap.size, j, none⟩ from by unfold Addr.add; split <;> simp_all, hb.cell]
  rw [← hv, ← List.getElem?_toArray]
  rfl⟩)
theorem flE (h3 : RtOk F3) {w W W3 : World} (hZ : ∃ Z, Blk W w.heap.size 36 Z ∧ Z.size = 63) (hL : Below w.heap.size w W) (hg : W3.heap[w.heap.size + 1]? = some (.cells (rtc F3).toArray 36 (0, 0)))
    (hB : Below (w.heap.size + 1) ((W.setCell ⟨w.heap.size + 1, 43, none⟩ (.int .i64 32)).alloc (.cells #[.int .u8 10, .int .u8 0, .int .u8 0, .int .u8 1] 5)) W3) :
    Hid (RtAt W3 (w.heap.size + 1) F3 ∧ (∃ Z, Blk W3 w.heap.size 36 Z ∧ Z.size = 63) ∧ EndW w (W3.setRow w.heap.size (rtc F3).toArray) F3) := Lib.hid (by
  obtain ⟨Z, hZ, hs⟩ := hZ
  have hb : Blk W3 (w.heap.size + 1) 36 (rtc F3).toArray := hg
  have h1 : Below (w.heap.size + 1) W ((W.setCell ⟨w.heap.size + 1, 43, none⟩ (.int .i64 32)).alloc (.cells #[.int .u8 10, .int .u8 0, .int .u8 0, .int .u8 1] 5)) := ((Below.refl _ _).setCell (p := ⟨w.heap.size + 1, 43, none⟩) (Nat.le_refl _) _).alloc (by have := hZ.lt; simp [World.setCell]; omega) _
  have h2 := hZ.below (h1.trans hB) (by omega)
  exact ⟨⟨blk_range hb, blk_there hb 0 63 (by rw [rtc_len h3]; omega)⟩, ⟨Z, h2, hs⟩, ⟨h2.setRow _, (hL.trans ((h1.trans hB).mono (by omega))).trans (below_setRow _ _ _ (Nat.le_refl _))⟩⟩)
set_option maxHeartbeats 400000 in
set_option maxRecDepth 100000 in
theorem flood_gen (h1 : RtOk F1) (h2 : RtOk F2) (h3 : RtOk F3) (hb1 : Try.prog.built 36 [(0, .int .i64 3), (1, .agg (u8s [0, 1, 10, 0, 0, 1, 0, 100]).toArray)] = some (rtc F1).toArray) (hp1 : F1.pn = 0)
    (he : (rtc F1).toArray.setIfInBounds 43 (.int .i64 32) = (rtc F2).toArray) (hc : ((rtc F2).take 27 ++ u8s [10, 0, 0, 1] ++ (rtc F2).drop (27 + (u8s [10, 0, 0, 1]).length)) = rtc F3) (w : World) :
    Calls Try.prog 34 #[] w fun e w' => e = .returned (.agg (rtc F3).toArray) ∧ Below w.heap.size w w' := by
  have HB3 : Hid (∀ Z Z', Blk ((w.alloc (.cells Z 36)).alloc (.cells Z' 36)) (w.heap.size + 1) 36 Z') := Lib.hid (fun Z Z' => by
    have := Blk.new (w.alloc (.cells Z 36)) 36 Z'
    simpa using this)
  have HI : Hid (∀ Z Z', Z.size = 63 → FlW w (((w.alloc (.cells Z 36)).alloc (.cells Z' 36)).setRow (w.heap.size + 1) (rtc F1).toArray) F1) := Lib.hid (fun Z Z' hs => by
    refine ⟨⟨Z, (setRow_other _ _ _ _ (by omega)).trans ((Blk.new w 36 Z).alloc _), hs⟩, (HB3.out Z Z').setRow _, ?_⟩
    exact (((Below.refl w.heap.size w).alloc (Nat.le_refl _) _).alloc (by simp) _).trans (below_setRow _ _ _ (by omega)))
  have hs16 : ∀ W, (Instr.sliceAt 30 (.pointer (some ⟨w.heap.size + 1, 27, none⟩)) none none none).run Try.prog W = .ok (.slice (some ⟨w.heap.size + 1, 27, none⟩) 16 16) W := fun W => by go_simp
  have HF1 := Lib.hid h1
  have HF3 := Lib.hid h3
  have HBu := Lib.hid hb1
  have HE1 := Lib.hid he
  have HE2 := Lib.hid hc
  have HCell : Hid ((rtc F1)[43]? = some (.int .i64 0)) := Lib.hid (by rw [rtc_at (rtc_pn F1) (prePn_len h1), hp1])
  have HLen : Hid (27 + (u8s [10, 0, 0, 1]).length ≤ (rtc F2).length) := Lib.hid (by rw [rtc_len h2]; decide)
  clear h1 h2 h3 hb1 he hc hp1
  go_enter Try.func34, Try.ntmps34
  go_wp2_with (first
    | (refine rt_build rfl _ rfl [(0, .int .i64 3), (1, .agg (u8s [0, 1, 10, 0, 0, 1, 0, 100]).toArray)] (by simp only [List.map_toArray, List.map_cons, List.map_nil]; rfl) F1 HBu.out ?_)
    | (refine rt_store_to rfl _ _ rfl (w.heap.size + 1) F1 HF1.out rfl rfl 36 _ (HB3.out _ _) rfl (fun W => FlW w W F1) (HI.out _ _ rfl) ?_; intro W hW; have hcell := flCell hW.rt HCell.out; have hfr : W.frozen? ⟨w.heap.size + 1, 43, none⟩ = false := hW.rt.frozen 43; have HW := Lib.hid hW; clear hW)
    | (with_reducible refine stop_here (o := ⟨some 11, _, _, _, _, _⟩) (by rfl) ?_)
    | fail)
  unfold StopAt
  have HC := flC HE1.out HW.out.rt
  have HS := flS W (w.heap.size + 1)
  have HZ := HW.out.res
  have HL := HW.out.low
  refine wpList_copy (o := ⟨some 11, .call { callee := .builtin .copy, args := _, argTypes := _ }, _, _, _, _⟩) rfl _ _ 22 22 5 rfl Try.underlying22 size_byte (some ⟨w.heap.size + 1, 27, none⟩) (some ⟨W.heap.size, 0, none⟩) 16 16 4 4 rfl rfl (w.heap.size + 1) 27 (rtc F2) 36 HC.out (u8s [10, 0, 0, 1]) rfl HS.out HLen.out (one_u8s _) ?_
  intro W3 hg3 hB3
  rw [HE2.out] at hg3
  have HE := flE HF3.out HZ HL hg3 hB3
  clear hg3 hB3
  clear HC HS HZ HL HW hcell hfr
  obtain ⟨hE1, ⟨Z, hZ, hZs⟩, hE3⟩ := HE.out
  have HE1' := Lib.hid hE1
  have HE3 := Lib.hid hE3
  have HZ := Lib.hid hZ
  have HZs := Lib.hid hZs
  clear hE1 hE3 hZ hZs HE
  go_wp2_with (first
    | (refine rt_fetch rfl _ rfl (w.heap.size + 1) F3 HF3.out rfl HE1'.out ?_)
    | (refine rt_store_to rfl _ _ rfl w.heap.size F3 HF3.out rfl rfl 36 Z HZ.out HZs.out (fun W => EndW w W F3) HE3.out ?_; intro W9 hW9; have HW9 := Lib.hid hW9; clear hW9)
    | fail)
  refine bodyPost_ret (v := .agg (rtc F3).toArray) ?_ rfl ⟨rfl, HW9.out.low⟩
  exact results_cell_row rfl _ _ w.heap.size 36 _ (0, 0) _ rfl HW9.out.res Try.underlying36 rfl (by rw [rt_size]; simp [rtc_len HF3.out])
end
theorem flood2_ok : RtOk { flood1 with pn := 32 } := { flood1_ok with pn := ⟨by decide, by decide⟩ }
theorem flood_is (w : World) : Calls Try.prog 34 #[] w fun e w' => e = .returned (.agg (rtc floodR).toArray) ∧ Below w.heap.size w w' := flood_gen flood1_ok flood2_ok floodR_ok (built_rt 3 _ rfl) rfl flood_set flood_copy w
end Go.Proofs.Ytickcfcncpnaiaa
namespace Go.Proofs.Ytickcfcncpnaiaa
open Go.RowKit
set_option maxRecDepth 100000
set_option linter.unusedSimpArgs false
set_option linter.unusedVariables false

def B19 : List Int := [3, 17, 0, 1, 10, 0, 0, 1, 0, 100, 0, 0, 0, 0, 32, 10, 0, 0, 1]
theorem flood_right : rightR floodR = true := by decide +kernel
theorem flood_put : putR floodR = B19 := by decide +kernel
theorem B19_rs : readRs B19 = [floodR] ∧ readM B19 = 0 ∧ readE B19 = 0 := ⟨by kernel_rfl, by kernel_rfl, by kernel_rfl⟩
theorem B6_rs : readM [3, 1, 7, 9, 1, 7] = 1 ∧ readE [3, 1, 7, 9, 1, 7] = 0 := by decide +kernel
theorem B3_rs : readE [3, 2, 7] = 3 := by decide +kernel
theorem B6_oct : Oct [3, 1, 7, 9, 1, 7] := by unfold Oct; decide
theorem B3_oct : Oct [3, 2, 7] := by unfold Oct; decide
theorem rd_made (w : World) (l : List Int) (ho : Oct l) : Rd (w.alloc (.cells (l.map (Value.int .u8)).toArray 5)) (w.alloc (.cells (l.map (Value.int .u8)).toArray 5)).heap.size (some ⟨w.heap.size, 0, none⟩) l.length l := by
  have hb : Byt (w.alloc (.cells (l.map (Value.int .u8)).toArray 5)) w.heap.size 5 l := Blk.new w 5 _
  exact hb.rd_all ho (by simp)
theorem eql_self {F : Rt} (h : RtOk F) (w : World) : (binOp .eql 36 (.agg (rtc F).toArray) (.agg (rtc F).toArray)).run Try.prog w = .ok (.bool true) w := rt_eql F F h h true (by simp) w

set_option maxHeartbeats 1000000 in
set_option maxRecDepth 100000 in
theorem alive_gen {F : Rt} (hF : RtOk F) (hfl : ∀ w, Calls Try.prog 34 #[] w fun e w' => e = .returned (.agg (rtc F).toArray) ∧ Below w.heap.size w w') (hr : rightR F = true) (hp : putR F = B19) (hrs : readRs B19 = [F]) (w : World) :
    Calls Try.prog 14 #[] w fun e w' => e = .returned (.bool true) ∧ Below w.heap.size w w' := by
  have HFo := Lib.hid hF
  have HFl := Lib.hid hfl
  have HPut : Hid (∀ w, Calls Try.prog 7 #[.slice none 0 0, .agg (rtc F).toArray] w fun e w' => ∃ b1 o1 c1, e = .returned (.tuple #[.slice (some ⟨b1, o1, none⟩) 19 c1, .int .i64 0]) ∧ Rd w' w'.heap.size (some ⟨b1, o1, none⟩) 19 B19 ∧ Below w.heap.size w w') := Lib.hid (fun w => (putNl_is w none 0 0 [] F hF (Rd.nil_ _) (by omega)).mono (by
    rintro e w' ⟨v, rfl, hO, hB⟩
    rw [hr, if_pos rfl, List.nil_append, hp] at hO
    obtain ⟨A, c, rfl, _, hR, hA⟩ := hO.at_
    obtain ⟨g, rfl, _⟩ := hA (by decide)
    exact ⟨g, 0, c, by unfold errR; rw [hr]; rfl, hR, hB⟩))
  have HRead : Hid (∀ w A c, Rd w w.heap.size A 19 B19 → Calls Try.prog 15 #[.slice A 19 c] w fun e w' => ∃ b3 o3 c3, e = .returned (.tuple #[.slice (some ⟨b3, o3, none⟩) 1 c3, .int .i64 0, .int .i64 0]) ∧ b3 < w'.heap.size ∧ w'.rangeAt b3 o3 (rtc F) ∧ Below w.heap.size w w') := Lib.hid (fun w A c hR => (read_is w A 19 c B19 hR (by omega)).mono (by
    rintro e w' ⟨v, rfl, hO, hB⟩
    rw [hrs] at hO
    obtain ⟨A3, c3, rfl, hRd⟩ := hO.rd
    obtain ⟨b, o, rfl, hlt, hc⟩ := hRd.at_ (by simp)
    have h0 := hc 0 (by simp)
    simp only [Nat.zero_mul, Nat.add_zero, List.getElem_cons_zero] at h0
    exact ⟨b, o, c3, by rw [B19_rs.2.1, B19_rs.2.2]; rfl, hlt, h0, hB⟩))
  have HQ := Lib.hid (eql_self hF)
  clear hF hfl hr hp hrs
  go_enter Try.func14, Try.ntmps14
  go_wp2_with fail
  refine (HFl.out _).mono ?_
  rintro e w1 ⟨rfl, hB1⟩
  have HB1 := Lib.hid hB1
  clear hB1
  go_wp2_with fail
  refine (HPut.out _).mono ?_
  rintro e w2 ⟨b1, o1, c1, rfl, hR2, hB2⟩
  have HR2 := Lib.hid hR2
  have HB2 := Lib.hid (HB1.out.trans (hB2.mono HB1.out.size))
  clear hR2 hB2 HB1 HPut
  go_wp2_with fail
  refine (HRead.out _ _ c1 HR2.out).mono ?_
  rintro e w3 ⟨b3, o3, c3, rfl, hb3, hg3, hB3⟩
  have HR3 := Lib.hid ((HR2.out.below hB3).more hB3.size)
  have HG3 := Lib.hid hg3
  have HB3 := Lib.hid (HB2.out.trans (hB3.mono HB2.out.size))
  clear hg3 hB3 HB2 HRead HR2
  have h6 := read_is (w3.alloc (.cells #[.int .u8 3, .int .u8 1, .int .u8 7, .int .u8 9, .int .u8 1, .int .u8 7] 5)) (some ⟨w3.heap.size, 0, none⟩) 6 6 [3, 1, 7, 9, 1, 7] (rd_made w3 [3, 1, 7, 9, 1, 7] B6_oct) (by omega)
  have H6 := Lib.hid h6
  clear h6
  go_wp2_with fail
  refine H6.out.mono ?_
  rintro e w4 ⟨v4, rfl, _, hB4⟩
  have hb4 := (bl_one w3 (.cells #[.int .u8 3, .int .u8 1, .int .u8 7, .int .u8 9, .int .u8 1, .int .u8 7] 5)).trans (hB4.mono (by simp))
  rw [B6_rs.1, B6_rs.2]
  have HR4 := Lib.hid ((HR3.out.below hb4).more hb4.size)
  have HG4 := Lib.hid (range_below HG3.out hb4 hb3)
  have HB4 := Lib.hid (HB3.out.trans (hb4.mono HB3.out.size))
  have hb3' : b3 < w4.heap.size := Nat.lt_of_lt_of_le hb3 hb4.size
  clear hB4 hb4 HR3 HG3 HB3 H6 hb3
  have h3 := read_is (w4.alloc (.cells #[.int .u8 3, .int .u8 2, .int .u8 7] 5)) (some ⟨w4.heap.size, 0, none⟩) 3 3 [3, 2, 7] (rd_made w4 [3, 2, 7] B3_oct) (by omega)
  have H3 := Lib.hid h3
  clear h3
  go_wp2_with fail
  refine H3.out.mono ?_
  rintro e w5 ⟨v5, rfl, _, hB5⟩
  have hb5 := (bl_one w4 (.cells #[.int .u8 3, .int .u8 2, .int .u8 7] 5)).trans (hB5.mono (by simp))
  rw [B3_rs]
  have hR5 := (HR4.out.below hb5).more hb5.size
  have HG5 := Lib.hid (range_below HG4.out hb5 hb3')
  have HB5 := Lib.hid (HB4.out.trans (hb5.mono HB4.out.size))
  have hb3 : b3 < w5.drew.heap.size := Nat.lt_of_lt_of_le hb3' hb5.size
  obtain ⟨b, o, e1, hb1, hc⟩ := hR5.at_ (by omega)
  injection e1 with e1
  injection e1 with e1 e2 _
  subst e1 e2
  have hb1 : b1 < w5.drew.heap.size := hb1
  have x0 := hc 0 (by omega)
  have x1 := hc 1 (by omega)
  have x2 := hc 14 (by omega)
  have HX : Hid (w5.drew.cell? ⟨b1, o1, none⟩ = some (.int .u8 3) ∧ w5.drew.cell? ⟨b1, o1 + 1, none⟩ = some (.int .u8 17) ∧ w5.drew.cell? ⟨b1, o1 + 14, none⟩ = some (.int .u8 32) ∧ w5.drew.rangeAt b3 o3 (rtc F)) := Lib.hid ⟨x0, x1, x2, HG5.out⟩
  have HB5 := Lib.hid (below_drewN HB5.out 1)
  change Hid (Below w.heap.size w w5.drew) at HB5
  have hq0 := HQ.out
  clear hB5 hb5 HR4 HG4 HB4 H3 hb3' hR5 hc x0 x1 x2 HG5
  go_wp2_with fail
  refine wp_region_held_drew (S := fun W => W.cell? ⟨b1, o1, none⟩ = some (.int .u8 3) ∧ W.cell? ⟨b1, o1 + 1, none⟩ = some (.int .u8 17) ∧ W.cell? ⟨b1, o1 + 14, none⟩ = some (.int .u8 32) ∧ W.rangeAt b3 o3 (rtc F)) (by kernel_rfl) (HX.out) (fun hS => ?_)
  generalize w5.drew = w6 at *
  refine wpAnyH_take (i := 0) (oi := ⟨some 35, _, _, _, _, _⟩) (v := ?_) rfl (by kernel_rfl) (by kernel_rfl) (by kernel_rfl) (fun _ _ _ h => h) (Or.inl ⟨by rfl, ?_⟩) hS ?_
  rotate_left
  · intro wq hq
    first | (go_simp; done) | (go_simp; rfl)
  try simp only [Act.put, List.setIfInBounds_toArray, List.set_cons_zero, List.set_cons_succ]
  refine wpAnyH_take (i := 1) (oi := ⟨some 36, _, _, _, _, _⟩) (v := ?_) rfl (by kernel_rfl) (by kernel_rfl) (by kernel_rfl) (fun _ _ _ h => h) (Or.inl ⟨by rfl, ?_⟩) hS ?_
  rotate_left
  · intro wq hq
    first | (go_simp; done) | (go_simp; rfl)
  try simp only [Act.put, List.setIfInBounds_toArray, List.set_cons_zero, List.set_cons_succ]
  refine wpAnyH_take (i := 2) (oi := ⟨some 37, _, _, _, _, _⟩) (v := ?_) rfl (by kernel_rfl) (by kernel_rfl) (by kernel_rfl) (fun _ _ _ h => h) (Or.inl ⟨by rfl, ?_⟩) hS ?_
  rotate_left
  · intro wq hq
    first | (go_simp; done) | (go_simp; rfl)
  try simp only [Act.put, List.setIfInBounds_toArray, List.set_cons_zero, List.set_cons_succ]
  refine wpAnyH_take (i := 3) (oi := ⟨some 38, _, _, _, _, _⟩) (v := ?_) rfl (by kernel_rfl) (by kernel_rfl) (by kernel_rfl) (fun _ _ _ h => h) (Or.inl ⟨by rfl, ?_⟩) hS ?_
  rotate_left
  · intro wq hq
    first | (go_simp; done) | (go_simp; rfl)
  try simp only [Act.put, List.setIfInBounds_toArray, List.set_cons_zero, List.set_cons_succ]
  refine wpAnyH_take (i := 4) (oi := ⟨some 39, _, _, _, _, _⟩) (v := ?_) rfl (by kernel_rfl) (by kernel_rfl) (by kernel_rfl) (fun _ _ _ h => h) (Or.inl ⟨by rfl, ?_⟩) hS ?_
  rotate_left
  · intro wq hq
    first | (go_simp; done) | (go_simp; rfl)
  try simp only [Act.put, List.setIfInBounds_toArray, List.set_cons_zero, List.set_cons_succ]
  refine wpAnyH_take (i := 5) (oi := ⟨some 40, _, _, _, _, _⟩) (v := ?_) rfl (by kernel_rfl) (by kernel_rfl) (by kernel_rfl) (fun _ _ _ h => h) (Or.inl ⟨by rfl, ?_⟩) hS ?_
  rotate_left
  · intro wq hq
    first | (go_simp; done) | (go_simp; rfl)
  try simp only [Act.put, List.setIfInBounds_toArray, List.set_cons_zero, List.set_cons_succ]
  refine wpAnyH_take (i := 6) (oi := ⟨some 41, _, _, _, _, _⟩) (v := ?_) rfl (by kernel_rfl) (by kernel_rfl) (by kernel_rfl) (fun _ _ _ h => h) (Or.inl ⟨by rfl, ?_⟩) hS ?_
  rotate_left
  · intro wq hq
    first | (go_simp; done) | (go_simp; rfl)
  try simp only [Act.put, List.setIfInBounds_toArray, List.set_cons_zero, List.set_cons_succ]
  refine wpAnyH_take (i := 7) (oi := ⟨some 42, _, _, _, _, _⟩) (v := ?_) rfl (by kernel_rfl) (by kernel_rfl) (by kernel_rfl) (fun _ _ _ h => h) (Or.inl ⟨by rfl, ?_⟩) hS ?_
  rotate_left
  · intro wq hq
    first | (go_simp; done) | (go_simp; rfl)
  try simp only [Act.put, List.setIfInBounds_toArray, List.set_cons_zero, List.set_cons_succ]
  refine wpAnyH_take (i := 8) (oi := ⟨some 43, _, _, _, _, _⟩) (v := ?_) rfl (by kernel_rfl) (by kernel_rfl) (by kernel_rfl) (fun _ _ _ h => h) (Or.inl ⟨by rfl, ?_⟩) hS ?_
  rotate_left
  · intro wq hq
    first | (go_simp; done) | (go_simp; rfl)
  try simp only [Act.put, List.setIfInBounds_toArray, List.set_cons_zero, List.set_cons_succ]
  refine wpAnyH_take (i := 9) (oi := ⟨some 44, _, _, _, _, _⟩) (v := ?_) rfl (by kernel_rfl) (by kernel_rfl) (by kernel_rfl) (fun _ _ _ h => h) (Or.inl ⟨by rfl, ?_⟩) hS ?_
  rotate_left
  · intro wq hq
    first | (go_simp; done) | (go_simp; rfl)
  try simp only [Act.put, List.setIfInBounds_toArray, List.set_cons_zero, List.set_cons_succ]
  refine wpAnyH_take (i := 10) (oi := ⟨some 45, _, _, _, _, _⟩) (v := ?_) rfl (by kernel_rfl) (by kernel_rfl) (by kernel_rfl) (fun _ _ _ h => h) (Or.inl ⟨by rfl, ?_⟩) hS ?_
  rotate_left
  · intro wq hq
    have c := hq.1
    first | (go_simp; done) | (go_simp; rfl)
  try simp only [Act.put, List.setIfInBounds_toArray, List.set_cons_zero, List.set_cons_succ]
  refine wpAnyH_take (i := 11) (oi := ⟨some 46, _, _, _, _, _⟩) (v := ?_) rfl (by kernel_rfl) (by kernel_rfl) (by kernel_rfl) (fun _ _ _ h => h) (Or.inl ⟨by rfl, ?_⟩) hS ?_
  rotate_left
  · intro wq hq
    first | (go_simp; done) | (go_simp; rfl)
  try simp only [Act.put, List.setIfInBounds_toArray, List.set_cons_zero, List.set_cons_succ]
  refine wpAnyH_take (i := 12) (oi := ⟨some 47, _, _, _, _, _⟩) (v := ?_) rfl (by kernel_rfl) (by kernel_rfl) (by kernel_rfl) (fun _ _ _ h => h) (Or.inl ⟨by rfl, ?_⟩) hS ?_
  rotate_left
  · intro wq hq
    first | (go_simp; done) | (go_simp; rfl)
  try simp only [Act.put, List.setIfInBounds_toArray, List.set_cons_zero, List.set_cons_succ]
  refine wpAnyH_take (i := 13) (oi := ⟨some 48, _, _, _, _, _⟩) (v := ?_) rfl (by kernel_rfl) (by kernel_rfl) (by kernel_rfl) (fun _ _ _ h => h) (Or.inl ⟨by rfl, ?_⟩) hS ?_
  rotate_left
  · intro wq hq
    first | (go_simp; done) | (go_simp; rfl)
  try simp only [Act.put, List.setIfInBounds_toArray, List.set_cons_zero, List.set_cons_succ]
  refine wpAnyH_take (i := 14) (oi := ⟨some 49, _, _, _, _, _⟩) (v := ?_) rfl (by kernel_rfl) (by kernel_rfl) (by kernel_rfl) (fun _ _ _ h => h) (Or.inl ⟨by rfl, ?_⟩) hS ?_
  rotate_left
  · intro wq hq
    first | (go_simp; done) | (go_simp; rfl)
  try simp only [Act.put, List.setIfInBounds_toArray, List.set_cons_zero, List.set_cons_succ]
  refine wpAnyH_take (i := 15) (oi := ⟨some 50, _, _, _, _, _⟩) (v := ?_) rfl (by kernel_rfl) (by kernel_rfl) (by kernel_rfl) (fun _ _ _ h => h) (Or.inl ⟨by rfl, ?_⟩) hS ?_
  rotate_left
  · intro wq hq
    first | (go_simp; done) | (go_simp; rfl)
  try simp only [Act.put, List.setIfInBounds_toArray, List.set_cons_zero, List.set_cons_succ]
  refine wpAnyH_take (i := 16) (oi := ⟨some 51, _, _, _, _, _⟩) (v := ?_) rfl (by kernel_rfl) (by kernel_rfl) (by kernel_rfl) (fun _ _ _ h => h) (Or.inl ⟨by rfl, ?_⟩) hS ?_
  rotate_left
  · intro wq hq
    have c := hq.2.1
    first | (go_simp; done) | (go_simp; rfl)
  try simp only [Act.put, List.setIfInBounds_toArray, List.set_cons_zero, List.set_cons_succ]
  refine wpAnyH_take (i := 17) (oi := ⟨some 52, _, _, _, _, _⟩) (v := ?_) rfl (by kernel_rfl) (by kernel_rfl) (by kernel_rfl) (fun _ _ _ h => h) (Or.inl ⟨by rfl, ?_⟩) hS ?_
  rotate_left
  · intro wq hq
    first | (go_simp; done) | (go_simp; rfl)
  try simp only [Act.put, List.setIfInBounds_toArray, List.set_cons_zero, List.set_cons_succ]
  refine wpAnyH_take (i := 18) (oi := ⟨some 53, _, _, _, _, _⟩) (v := ?_) rfl (by kernel_rfl) (by kernel_rfl) (by kernel_rfl) (fun _ _ _ h => h) (Or.inl ⟨by rfl, ?_⟩) hS ?_
  rotate_left
  · intro wq hq
    first | (go_simp; done) | (go_simp; rfl)
  try simp only [Act.put, List.setIfInBounds_toArray, List.set_cons_zero, List.set_cons_succ]
  refine wpAnyH_take (i := 19) (oi := ⟨some 54, _, _, _, _, _⟩) (v := ?_) rfl (by kernel_rfl) (by kernel_rfl) (by kernel_rfl) (fun _ _ _ h => h) (Or.inl ⟨by rfl, ?_⟩) hS ?_
  rotate_left
  · intro wq hq
    first | (go_simp; done) | (go_simp; rfl)
  try simp only [Act.put, List.setIfInBounds_toArray, List.set_cons_zero, List.set_cons_succ]
  refine wpAnyH_take (i := 20) (oi := ⟨some 55, _, _, _, _, _⟩) (v := ?_) rfl (by kernel_rfl) (by kernel_rfl) (by kernel_rfl) (fun _ _ _ h => h) (Or.inl ⟨by rfl, ?_⟩) hS ?_
  rotate_left
  · intro wq hq
    first | (go_simp; done) | (go_simp; rfl)
  try simp only [Act.put, List.setIfInBounds_toArray, List.set_cons_zero, List.set_cons_succ]
  refine wpAnyH_take (i := 21) (oi := ⟨some 56, _, _, _, _, _⟩) (v := ?_) rfl (by kernel_rfl) (by kernel_rfl) (by kernel_rfl) (fun _ _ _ h => h) (Or.inl ⟨by rfl, ?_⟩) hS ?_
  rotate_left
  · intro wq hq
    first | (go_simp; done) | (go_simp; rfl)
  try simp only [Act.put, List.setIfInBounds_toArray, List.set_cons_zero, List.set_cons_succ]
  refine wpAnyH_take (i := 22) (oi := ⟨some 57, _, _, _, _, _⟩) (v := ?_) rfl (by kernel_rfl) (by kernel_rfl) (by kernel_rfl) (fun _ _ _ h => h) (Or.inl ⟨by rfl, ?_⟩) hS ?_
  rotate_left
  · intro wq hq
    have c := hq.2.2.1
    first | (go_simp; done) | (go_simp; rfl)
  try simp only [Act.put, List.setIfInBounds_toArray, List.set_cons_zero, List.set_cons_succ]
  refine wpAnyH_take (i := 23) (oi := ⟨some 58, _, _, _, _, _⟩) (v := ?_) rfl (by kernel_rfl) (by kernel_rfl) (by kernel_rfl) (fun _ _ _ h => h) (Or.inl ⟨by rfl, ?_⟩) hS ?_
  rotate_left
  · intro wq hq
    first | (go_simp; done) | (go_simp; rfl)
  try simp only [Act.put, List.setIfInBounds_toArray, List.set_cons_zero, List.set_cons_succ]
  refine wpAnyH_take (i := 24) (oi := ⟨some 59, _, _, _, _, _⟩) (v := ?_) rfl (by kernel_rfl) (by kernel_rfl) (by kernel_rfl) (fun _ _ _ h => h) (Or.inl ⟨by rfl, ?_⟩) hS ?_
  rotate_left
  · intro wq hq
    first | (go_simp; done) | (go_simp; rfl)
  try simp only [Act.put, List.setIfInBounds_toArray, List.set_cons_zero, List.set_cons_succ]
  refine wpAnyH_take (i := 25) (oi := ⟨some 60, _, _, _, _, _⟩) (v := ?_) rfl (by kernel_rfl) (by kernel_rfl) (by kernel_rfl) (fun _ _ _ h => h) (Or.inl ⟨by rfl, ?_⟩) hS ?_
  rotate_left
  · intro wq hq
    first | (go_simp; done) | (go_simp; rfl)
  try simp only [Act.put, List.setIfInBounds_toArray, List.set_cons_zero, List.set_cons_succ]
  refine wpAnyH_take (i := 26) (oi := ⟨some 61, _, _, _, _, _⟩) (v := ?_) rfl (by kernel_rfl) (by kernel_rfl) (by kernel_rfl) (fun _ _ _ h => h) (Or.inl ⟨by rfl, ?_⟩) hS ?_
  rotate_left
  · intro wq hq
    first | (go_simp; done) | (go_simp; rfl)
  try simp only [Act.put, List.setIfInBounds_toArray, List.set_cons_zero, List.set_cons_succ]
  refine wpAnyH_take (i := 27) (oi := ⟨some 62, _, _, _, _, _⟩) (v := ?_) rfl (by kernel_rfl) (by kernel_rfl) (by kernel_rfl) (fun _ _ _ h => h) (Or.inl ⟨by rfl, ?_⟩) hS ?_
  rotate_left
  · intro wq hq
    first | (go_simp; done) | (go_simp; rfl)
  try simp only [Act.put, List.setIfInBounds_toArray, List.set_cons_zero, List.set_cons_succ]
  refine wpAnyH_take (i := 28) (oi := ⟨some 63, _, _, _, _, _⟩) (v := ?_) rfl (by kernel_rfl) (by kernel_rfl) (by kernel_rfl) (fun _ _ _ h => h) (Or.inl ⟨by rfl, ?_⟩) hS ?_
  rotate_left
  · intro wq hq
    first | (go_simp; done) | (go_simp; rfl)
  try simp only [Act.put, List.setIfInBounds_toArray, List.set_cons_zero, List.set_cons_succ]
  refine wpAnyH_take (i := 29) (oi := ⟨some 64, _, _, _, _, _⟩) (v := ?_) rfl (by kernel_rfl) (by kernel_rfl) (by kernel_rfl) (fun _ _ _ h => h) (Or.inl ⟨by rfl, ?_⟩) hS ?_
  rotate_left
  · intro wq hq
    first | (go_simp; done) | (go_simp; rfl)
  try simp only [Act.put, List.setIfInBounds_toArray, List.set_cons_zero, List.set_cons_succ]
  refine wpAnyH_take (i := 30) (oi := ⟨some 65, _, _, _, _, _⟩) (v := ?_) rfl (by kernel_rfl) (by kernel_rfl) (by kernel_rfl) (fun _ _ _ h => h) (Or.inl ⟨by rfl, ?_⟩) hS ?_
  rotate_left
  · intro wq hq
    first | (go_simp; done) | (go_simp; rfl)
  try simp only [Act.put, List.setIfInBounds_toArray, List.set_cons_zero, List.set_cons_succ]
  refine wpAnyH_take (i := 31) (oi := ⟨some 66, _, _, _, _, _⟩) (v := ?_) rfl (by kernel_rfl) (by kernel_rfl) (by kernel_rfl) (fun _ _ _ h => h) (Or.inl ⟨by rfl, ?_⟩) hS ?_
  rotate_left
  · intro wq hq
    first | (go_simp; done) | (go_simp; rfl)
  try simp only [Act.put, List.setIfInBounds_toArray, List.set_cons_zero, List.set_cons_succ]
  refine wpAnyH_take (i := 32) (oi := ⟨some 67, _, _, _, _, _⟩) (v := ?_) rfl (by kernel_rfl) (by kernel_rfl) (by kernel_rfl) (fun _ _ _ h => h) (Or.inl ⟨by rfl, ?_⟩) hS ?_
  rotate_left
  · intro wq hq
    first | (go_simp; done) | (go_simp; rfl)
  try simp only [Act.put, List.setIfInBounds_toArray, List.set_cons_zero, List.set_cons_succ]
  refine wpAnyH_take (i := 33) (oi := ⟨some 68, _, _, _, _, _⟩) (v := ?_) rfl (by kernel_rfl) (by kernel_rfl) (by kernel_rfl) (fun _ _ _ h => h) (Or.inl ⟨by rfl, ?_⟩) hS ?_
  rotate_left
  · intro wq hq
    first | (go_simp; done) | (go_simp; rfl)
  try simp only [Act.put, List.setIfInBounds_toArray, List.set_cons_zero, List.set_cons_succ]
  refine wpAnyH_take (i := 34) (oi := ⟨some 69, _, _, _, _, _⟩) (v := ?_) rfl (by kernel_rfl) (by kernel_rfl) (by kernel_rfl) (fun _ _ _ h => h) (Or.inl ⟨by rfl, ?_⟩) hS ?_
  rotate_left
  · intro wq hq
    first | (go_simp; done) | (go_simp; rfl)
  try simp only [Act.put, List.setIfInBounds_toArray, List.set_cons_zero, List.set_cons_succ]
  refine wpAnyH_take (i := 35) (oi := ⟨some 70, _, _, _, _, _⟩) (v := ?_) rfl (by kernel_rfl) (by kernel_rfl) (by kernel_rfl) (fun _ _ _ h => h) (Or.inl ⟨by rfl, ?_⟩) hS ?_
  rotate_left
  · intro wq hq
    first | (go_simp; done) | (go_simp; rfl)
  try simp only [Act.put, List.setIfInBounds_toArray, List.set_cons_zero, List.set_cons_succ]
  refine wpAnyH_take (i := 36) (oi := ⟨some 71, _, _, _, _, _⟩) (v := ?_) rfl (by kernel_rfl) (by kernel_rfl) (by kernel_rfl) (fun _ _ _ h => h) (Or.inl ⟨by rfl, ?_⟩) hS ?_
  rotate_left
  · intro wq hq
    first | (go_simp; done) | (go_simp; rfl)
  try simp only [Act.put, List.setIfInBounds_toArray, List.set_cons_zero, List.set_cons_succ]
  refine wpAnyH_take (i := 37) (oi := ⟨some 72, _, _, _, _, _⟩) (v := ?_) rfl (by kernel_rfl) (by kernel_rfl) (by kernel_rfl) (fun _ _ _ h => h) (Or.inl ⟨by rfl, ?_⟩) hS ?_
  rotate_left
  · intro wq hq
    first | (go_simp; done) | (go_simp; rfl)
  try simp only [Act.put, List.setIfInBounds_toArray, List.set_cons_zero, List.set_cons_succ]
  refine wpAnyH_take (i := 38) (oi := ⟨some 73, _, _, _, _, _⟩) (v := ?_) rfl (by kernel_rfl) (by kernel_rfl) (by kernel_rfl) (fun _ _ _ h => h) (Or.inl ⟨by rfl, ?_⟩) hS ?_
  rotate_left
  · intro wq hq
    first | (go_simp; done) | (go_simp; rfl)
  try simp only [Act.put, List.setIfInBounds_toArray, List.set_cons_zero, List.set_cons_succ]
  refine wpAnyH_take (i := 39) (oi := ⟨some 74, _, _, _, _, _⟩) (v := ?_) rfl (by kernel_rfl) (by kernel_rfl) (by kernel_rfl) (fun _ _ _ h => h) (Or.inl ⟨by rfl, ?_⟩) hS ?_
  rotate_left
  · intro wq hq
    first | (go_simp; done) | (go_simp; rfl)
  try simp only [Act.put, List.setIfInBounds_toArray, List.set_cons_zero, List.set_cons_succ]
  refine wpAnyH_take (i := 40) (oi := ⟨some 75, _, _, _, _, _⟩) (v := ?_) rfl (by kernel_rfl) (by kernel_rfl) (by kernel_rfl) (fun _ _ _ h => h) (Or.inl ⟨by rfl, ?_⟩) hS ?_
  rotate_left
  · intro wq hq
    first | (go_simp; done) | (go_simp; rfl)
  try simp only [Act.put, List.setIfInBounds_toArray, List.set_cons_zero, List.set_cons_succ]
  refine wpAnyH_take (i := 41) (oi := ⟨some 76, _, _, _, _, _⟩) rfl (by kernel_rfl) (by kernel_rfl) (by kernel_rfl) (fun _ _ _ h => h) (yieldsIf_load_mid (by rfl) 36 _ rfl _ _ rfl (rtc F) _ (fun wq hq => hq.2.2.2) Try.underlying36 rfl (by rw [rt_size, rtc_len HFo.out])) hS ?_
  try simp only [Act.put, List.setIfInBounds_toArray, List.set_cons_zero, List.set_cons_succ]
  refine wpAnyH_ready (rs := [42]) (by kernel_rfl) (by simp) ?_
  refine AllReadyH.cons (o := ⟨some 77, _, _, _, _, _⟩) rfl (fun K hK => ?_) AllReadyH.nil
  rw [if_pos (by rfl)]
  go_wp2_with fail
  refine (HFl.out _).mono ?_
  rintro e w9 ⟨rfl, hB9⟩
  have HB9 := Lib.hid (HB5.out.trans (hB9.mono HB5.out.size))
  have hS9 : w9.cell? ⟨b1, o1, none⟩ = some (.int .u8 3) ∧ w9.cell? ⟨b1, o1 + 1, none⟩ = some (.int .u8 17) ∧ w9.cell? ⟨b1, o1 + 14, none⟩ = some (.int .u8 32) ∧ w9.rangeAt b3 o3 (rtc F) := ⟨(hB9.cell (p := ⟨b1, o1, none⟩) hb1).trans hS.1, (hB9.cell (p := ⟨b1, o1 + 1, none⟩) hb1).trans hS.2.1, (hB9.cell (p := ⟨b1, o1 + 14, none⟩) hb1).trans hS.2.2.1, range_below hS.2.2.2 hB9 hb3⟩
  refine hK.out _ _ (hS9) (fun hS => ?_)
  clear hK K
  try simp only [Act.put, List.setIfInBounds_toArray, List.set_cons_zero, List.set_cons_succ]
  refine wpAnyH_take (i := 43) (oi := ⟨some 78, _, _, _, _, _⟩) (v := ?_) rfl (by kernel_rfl) (by kernel_rfl) (by kernel_rfl) (fun _ _ _ h => h) (Or.inl ⟨by rfl, ?_⟩) hS ?_
  rotate_left
  · intro wq hq
    first | (go_simp; done) | (go_simp; rfl)
  try simp only [Act.put, List.setIfInBounds_toArray, List.set_cons_zero, List.set_cons_succ]
  refine wpAnyH_take (i := 44) (oi := ⟨some 79, _, _, _, _, _⟩) (v := ?_) rfl (by kernel_rfl) (by kernel_rfl) (by kernel_rfl) (fun _ _ _ h => h) (Or.inl ⟨by rfl, ?_⟩) hS ?_
  rotate_left
  · intro wq hq
    first | (go_simp; done) | (go_simp; rfl)
  try simp only [Act.put, List.setIfInBounds_toArray, List.set_cons_zero, List.set_cons_succ]
  refine wpAnyH_take (i := 45) (oi := ⟨some 80, _, _, _, _, _⟩) (v := ?_) rfl (by kernel_rfl) (by kernel_rfl) (by kernel_rfl) (fun _ _ _ h => h) (Or.inl ⟨by rfl, ?_⟩) hS ?_
  rotate_left
  · intro wq hq
    first | (go_simp; done) | (go_simp; rfl)
  try simp only [Act.put, List.setIfInBounds_toArray, List.set_cons_zero, List.set_cons_succ]
  refine wpAnyH_take (i := 46) (oi := ⟨some 81, _, _, _, _, _⟩) (v := ?_) rfl (by kernel_rfl) (by kernel_rfl) (by kernel_rfl) (fun _ _ _ h => h) (Or.inl ⟨by rfl, ?_⟩) hS ?_
  rotate_left
  · intro wq hq
    first | (go_simp; done) | (go_simp; rfl)
  try simp only [Act.put, List.setIfInBounds_toArray, List.set_cons_zero, List.set_cons_succ]
  refine wpAnyH_take (i := 47) (oi := ⟨some 82, _, _, _, _, _⟩) (v := ?_) rfl (by kernel_rfl) (by kernel_rfl) (by kernel_rfl) (fun _ _ _ h => h) (Or.inl ⟨by rfl, ?_⟩) hS ?_
  rotate_left
  · intro wq hq
    first | (go_simp; done) | (go_simp; rfl)
  try simp only [Act.put, List.setIfInBounds_toArray, List.set_cons_zero, List.set_cons_succ]
  refine wpAnyH_take (i := 48) (oi := ⟨some 83, _, _, _, _, _⟩) (v := ?_) rfl (by kernel_rfl) (by kernel_rfl) (by kernel_rfl) (fun _ _ _ h => h) (Or.inl ⟨by rfl, ?_⟩) hS ?_
  rotate_left
  · intro wq hq
    first | (go_simp; done) | (go_simp; rfl)
  try simp only [Act.put, List.setIfInBounds_toArray, List.set_cons_zero, List.set_cons_succ]
  refine wpAnyH_take (i := 49) (oi := ⟨some 84, _, _, _, _, _⟩) (v := ?_) rfl (by kernel_rfl) (by kernel_rfl) (by kernel_rfl) (fun _ _ _ h => h) (Or.inl ⟨by rfl, ?_⟩) hS ?_
  rotate_left
  · intro wq hq
    first | (go_simp; done) | (go_simp; rfl)
  try simp only [Act.put, List.setIfInBounds_toArray, List.set_cons_zero, List.set_cons_succ]
  refine wpAnyH_take (i := 50) (oi := ⟨some 85, _, _, _, _, _⟩) (v := ?_) rfl (by kernel_rfl) (by kernel_rfl) (by kernel_rfl) (fun _ _ _ h => h) (Or.inl ⟨by rfl, ?_⟩) hS ?_
  rotate_left
  · intro wq hq
    first | (go_simp; done) | (go_simp; rfl)
  try simp only [Act.put, List.setIfInBounds_toArray, List.set_cons_zero, List.set_cons_succ]
  refine wpAnyH_take (i := 51) (oi := ⟨some 86, _, _, _, _, _⟩) (v := ?_) rfl (by kernel_rfl) (by kernel_rfl) (by kernel_rfl) (fun _ _ _ h => h) (Or.inl ⟨by rfl, ?_⟩) hS ?_
  rotate_left
  · intro wq hq
    first | (go_simp; done) | (go_simp; rfl)
  try simp only [Act.put, List.setIfInBounds_toArray, List.set_cons_zero, List.set_cons_succ]
  refine wpAnyH_take (i := 52) (oi := ⟨some 87, _, _, _, _, _⟩) (v := ?_) rfl (by kernel_rfl) (by kernel_rfl) (by kernel_rfl) (fun _ _ _ h => h) (Or.inl ⟨by rfl, ?_⟩) hS ?_
  rotate_left
  · intro wq hq
    first | (go_simp; done) | (go_simp; rfl)
  try simp only [Act.put, List.setIfInBounds_toArray, List.set_cons_zero, List.set_cons_succ]
  refine wpAnyH_take (i := 53) (oi := ⟨some 88, _, _, _, _, _⟩) (v := ?_) rfl (by kernel_rfl) (by kernel_rfl) (by kernel_rfl) (fun _ _ _ h => h) (Or.inl ⟨by rfl, ?_⟩) hS ?_
  rotate_left
  · intro wq hq
    first | (go_simp; done) | (go_simp; rfl)
  try simp only [Act.put, List.setIfInBounds_toArray, List.set_cons_zero, List.set_cons_succ]
  refine wpAnyH_take (i := 54) (oi := ⟨some 89, _, _, _, _, _⟩) (v := ?_) rfl (by kernel_rfl) (by kernel_rfl) (by kernel_rfl) (fun _ _ _ h => h) (Or.inl ⟨by rfl, ?_⟩) hS ?_
  rotate_left
  · intro wq hq
    first | (go_simp; done) | (go_simp; rfl)
  try simp only [Act.put, List.setIfInBounds_toArray, List.set_cons_zero, List.set_cons_succ]
  refine wpAnyH_take (i := 55) (oi := ⟨some 90, _, _, _, _, _⟩) (v := ?_) rfl (by kernel_rfl) (by kernel_rfl) (by kernel_rfl) (fun _ _ _ h => h) (Or.inl ⟨by rfl, ?_⟩) hS ?_
  rotate_left
  · intro wq hq
    first | (go_simp; done) | (go_simp; rfl)
  try simp only [Act.put, List.setIfInBounds_toArray, List.set_cons_zero, List.set_cons_succ]
  refine wpAnyH_take (i := 56) (oi := ⟨some 91, _, _, _, _, _⟩) (v := ?_) rfl (by kernel_rfl) (by kernel_rfl) (by kernel_rfl) (fun _ _ _ h => h) (Or.inl ⟨by rfl, ?_⟩) hS ?_
  rotate_left
  · intro wq hq
    first | (go_simp; done) | (go_simp; rfl)
  try simp only [Act.put, List.setIfInBounds_toArray, List.set_cons_zero, List.set_cons_succ]
  refine wpAnyH_take (i := 57) (oi := ⟨some 0, _, _, _, _, _⟩) (v := ?_) rfl (by kernel_rfl) (by kernel_rfl) (by kernel_rfl) (fun _ _ _ h => h) (Or.inl ⟨by rfl, ?_⟩) hS ?_
  rotate_left
  · intro wq hq
    first | (go_simp; done) | (go_simp; rfl)
  try simp only [Act.put, List.setIfInBounds_toArray, List.set_cons_zero, List.set_cons_succ]
  refine wpAnyH_done (by kernel_rfl) ?_ _
  clear hS
  go_wp2
  go_ret
  exact ⟨rfl, HB9.out⟩
theorem aliveN_is (w : World) : Calls Try.prog 14 #[] w fun e w' => e = .returned (.bool true) ∧ Below w.heap.size w w' := alive_gen floodR_ok flood_is flood_right flood_put B19_rs.1 w
end Go.Proofs.Ytickcfcncpnaiaa
