/-
  Put together: ComL ComM.
-/
import Derived.Test.YtkaimdcepnhkdaaDoorMI
import Derived.Test.YtkaimdcepnhkdaaDoorMH
import Derived.Test.YtkaimdcepnhkdaaDoorMD
import Derived.Test.YtkaimdcepnhkdaaDoorME
namespace Go.Proofs.YtkaimdcepnhkdaaDoor
open Go.RowKit
set_option linter.unusedSimpArgs false
set_option linter.unusedVariables false

set_option maxHeartbeats 2000000 in
set_option maxRecDepth 100000 in
theorem ccmp_is (w : World) (la lb : List Int) (ha : la.length = 8) (hb : lb.length = 8) (oa : Oct la) (ob : Oct lb) :
    Calls Tryd.prog 54 #[.agg (u8s la).toArray, .agg (u8s lb).toArray] w fun e w' => e = .returned (.int .i64 (cmpI la lb)) ∧ Below w.heap.size w w' := by
  have hA := (Blk.new w 52 (u8s la).toArray).alloc (.cells (u8s lb).toArray 52)
  have hB := Blk.new (w.alloc (.cells (u8s la).toArray 52)) 52 (u8s lb).toArray
  rw [size_a1] at hB
  have HA := Lib.hid hA
  have HB := Lib.hid hB
  clear hA hB
  go_enter Tryd.func54, Tryd.ntmps54
  go_wp2
  refine wp_region_held_drew (S := fun w' => Blk w' w.heap.size 52 (u8s la).toArray ∧ Blk w' (w.heap.size + 1) 52 (u8s lb).toArray ∧ Below w.heap.size w w') (by kernel_rfl) (⟨HA.out, HB.out, below_drewN (((Below.refl w.heap.size w).alloc (Nat.le_refl _) _).alloc (by simp) _) 1⟩) (fun hS => ?_)
  refine wpAnyH_take (i := 0) (oi := ⟨some 5, _, _, _, _, _⟩) (v := ?_) rfl (by kernel_rfl) (by kernel_rfl) (by kernel_rfl) (fun _ _ _ h => h) (Or.inl ⟨by rfl, ?_⟩) hS ?_
  rotate_left
  · intro wq hq
    first | (go_simp; done) | (go_simp; rfl)
  try simp only [Act.put, List.setIfInBounds_toArray, List.set_cons_zero, List.set_cons_succ]
  refine wpAnyH_take (i := 1) (oi := ⟨some 6, _, _, _, _, _⟩) (v := ?_) rfl (by kernel_rfl) (by kernel_rfl) (by kernel_rfl) (fun _ _ _ h => h) (Or.inl ⟨by rfl, ?_⟩) hS ?_
  rotate_left
  · intro wq hq
    first | (go_simp; done) | (go_simp; rfl)
  try simp only [Act.put, List.setIfInBounds_toArray, List.set_cons_zero, List.set_cons_succ]
  refine wpAnyH_ready (rs := [2]) (by kernel_rfl) (by simp) ?_
  refine AllReadyH.cons (o := ⟨some 7, _, _, _, _, _⟩) rfl (fun K hK => ?_) AllReadyH.nil
  rw [if_pos (by rfl)]
  go_wp2_with fail
  refine (bc_is _ w.heap.size 0 8 (w.heap.size + 1) 0 8 8 la lb ha hb oa ob (fun i hi => by rw [Nat.zero_add]; exact com_cell hS.1 ha i hi) (fun i hi => by rw [Nat.zero_add]; exact com_cell hS.2.1 hb i hi)).mono ?_
  rintro e w1 ⟨rfl, rfl⟩
  have hS1 := hS
  refine hK.out _ _ (hS1) (fun hS => ?_)
  clear hK K
  try simp only [Act.put, List.setIfInBounds_toArray, List.set_cons_zero, List.set_cons_succ]
  refine wpAnyH_take (i := 3) (oi := ⟨some 4, _, _, _, _, _⟩) (v := ?_) rfl (by kernel_rfl) (by kernel_rfl) (by kernel_rfl) (fun _ _ _ h => h) (Or.inl ⟨by rfl, ?_⟩) hS ?_
  rotate_left
  · intro wq hq
    first | (go_simp; done) | (go_simp; rfl)
  try simp only [Act.put, List.setIfInBounds_toArray, List.set_cons_zero, List.set_cons_succ]
  refine wpAnyH_done (by kernel_rfl) ?_ _
  go_wp2
  go_ret
  exact ⟨rfl, hS.2.2⟩
theorem cmpI_drop (la lb : List Int) (k : Nat) (ha : k < la.length) (hb : k < lb.length) : cmpI (la.drop k) (lb.drop k) = if la.getD k 0 < lb.getD k 0 then -1 else if lb.getD k 0 < la.getD k 0 then 1 else cmpI (la.drop (k + 1)) (lb.drop (k + 1)) := by
  rw [List.drop_eq_getElem_cons ha, List.drop_eq_getElem_cons hb]
  simp only [cmpI, List.getD_eq_getElem?_getD, List.getElem?_eq_getElem ha, List.getElem?_eq_getElem hb, Option.getD_some]
set_option maxHeartbeats 2000000 in
set_option maxRecDepth 100000 in
theorem rccmp_is (w : World) (la lb : List Int) (ha : la.length = 8) (hb : lb.length = 8) (oa : Oct la) (ob : Oct lb) :
    Calls Tryd.prog 55 #[.agg (u8s la).toArray, .agg (u8s lb).toArray] w fun e w' => e = .returned (.int .i64 (cmpI la lb)) ∧ Below w.heap.size w w' := by
  have hA := (Blk.new w 52 (u8s la).toArray).alloc (.cells (u8s lb).toArray 52)
  have hB := Blk.new (w.alloc (.cells (u8s la).toArray 52)) 52 (u8s lb).toArray
  rw [size_a1] at hB
  have HL : Hid (Below w.heap.size w ((w.alloc (.cells (u8s la).toArray 52)).alloc (.cells (u8s lb).toArray 52))) := Lib.hid (((Below.refl w.heap.size w).alloc (Nat.le_refl _) _).alloc (by simp) _)
  have HA := Lib.hid hA
  have HB := Lib.hid hB
  clear hA hB
  go_enter Tryd.func55, Tryd.ntmps55
  go_wp2
  generalize (w.alloc (.cells (u8s la).toArray 52)).alloc (.cells (u8s lb).toArray 52) = w0 at *
  go_loopw [5, 6] (fun _ i wr => ∃ k : Nat, k ≤ 8 ∧ i = .int .i64 k ∧ cmpI (la.drop k) (lb.drop k) = cmpI la lb ∧ Blk wr w.heap.size 52 (u8s la).toArray ∧ Blk wr (w.heap.size + 1) 52 (u8s lb).toArray ∧ Below w.heap.size w wr) (fun _ i _ => 8 - (intOf i).toNat)
  case atStart => exact ⟨0, by omega, rfl, rfl, HA.out, HB.out, HL.out⟩
  case round =>
    obtain ⟨k, hk, rfl, hc, hA, hB, hl⟩ := hrel
    clear HA HB HL
    by_cases hlt : k < 8
    · have ca := com_cell hA ha k hlt
      have cb := com_cell hB hb k hlt
      have HA := Lib.hid hA
      have HB := Lib.hid hB
      have HL := Lib.hid hl
      rw [cmpI_drop la lb k (by omega) (by omega)] at hc
      have HC := Lib.hid hc
      clear hc hA hB hl
      generalize la.getD k 0 = x at *
      generalize lb.getD k 0 = y at *
      by_cases h1 : x < y
      · have HR : Hid (-1 = cmpI la lb) := Lib.hid (by have := HC.out; rwa [if_pos h1] at this)
        go_wp2
        go_region
        go_wp2
        go_ret
        exact ⟨by rw [← HR.out]; rfl, below_drewN HL.out 1⟩
      · by_cases h2 : y < x
        · have HR : Hid (1 = cmpI la lb) := Lib.hid (by have := HC.out; rwa [if_neg h1, if_pos h2] at this)
          have h2' : x > y := h2
          go_wp2
          go_region
          go_wp2
          go_region
          go_wp2
          go_ret
          exact ⟨by rw [← HR.out]; rfl, below_drewN (below_drewN HL.out 1) 1⟩
        · have HR : Hid (cmpI (la.drop (k + 1)) (lb.drop (k + 1)) = cmpI la lb) := Lib.hid (by have := HC.out; rwa [if_neg h1, if_neg h2] at this)
          have h2' : ¬ x > y := h2
          go_wp2
          go_region
          go_wp2
          go_region
          go_wp2
          exact ⟨⟨k + 1, by omega, by go_num, HR.out, HA.out, HB.out, below_drewN (below_drewN HL.out 1) 1⟩, by simp [intOf]; omega⟩
    · obtain rfl : k = 8 := by omega
      rw [List.drop_of_length_le (by omega), List.drop_of_length_le (by omega)] at hc
      have HC := Lib.hid hc
      have HL := Lib.hid hl
      clear hc hA hB hl
      go_wp2
      go_ret
      exact ⟨by rw [← HC.out]; rfl, HL.out⟩
set_option maxHeartbeats 1000000 in
theorem said_is (w : World) (b : Bool) (s : ByteArray) (hs : s.size ≤ 100) : Calls Tryd.prog 103 #[.bool b, .string s] w fun e w' => e = .returned (.string (fgS b s)) ∧ w = w' := by
  have hz : ¬ 9223372036854775807 < 1 + s.size := by omega
  cases b
  all_goals
    go_enter Tryd.func103, Tryd.ntmps103
    go_wp2
    go_ret
    exact ⟨rfl, rfl⟩
set_option maxHeartbeats 2000000 in
set_option maxRecDepth 100000 in
theorem rip4_is (w : World) (l : List Int) (hl : l.length = 16) (ho : Oct l) (hr : rightB false l = true) :
    Calls Tryd.prog 12 #[.agg (ipc false l).toArray] w fun e w' => e = .returned (.tuple #[.string (fourS (l.take 4)), .int .i64 0]) ∧ Below w.heap.size w w' := by
  have HA := Lib.hid (Blk.new w 24 (ipc false l).toArray)
  have HL := Lib.hid ((Below.refl w.heap.size w).alloc (Nat.le_refl _) (.cells (ipc false l).toArray 24))
  have HRt := Lib.hid hr
  clear hr
  go_enter Tryd.func12, Tryd.ntmps12
  go_wp2_with (refine ip_fetch rfl _ rfl w.heap.size 0 false l hl rfl HA.out.range ?_)
  refine (rri_is _ false l hl ho).mono ?_
  rintro e w1 ⟨rfl, hB⟩
  rw [HRt.out]
  have hA := HA.out.below hB HA.out.lt
  have hc0 : w1.cell? ⟨w.heap.size, 0, none⟩ = some (.bool false) := hA.cell 0
  have hrd := rd_range (pre := [.bool false]) (post := []) (l := l) (B := w1.heap.size) (by simpa using hA.range) ho 0 4 (by omega) hA.lt
  have HR4 := Lib.hid hrd
  have HL1 := Lib.hid (HL.out.trans (hB.mono (by simp)))
  clear hA hrd hB HA HL HRt
  go_wp2_with fail
  refine (rfourt_is _ w1.heap.size _ 16 (l.take 4) (by simpa using HR4.out) (Nat.le_refl _)).mono ?_
  rintro e w2 ⟨rfl, hB⟩
  have HL2 := Lib.hid (HL1.out.trans (hB.mono HL1.out.size))
  clear hB HR4 HL1 hc0
  go_wp2
  go_ret2
  exact ⟨rfl, HL2.out⟩
set_option maxHeartbeats 2000000 in
set_option maxRecDepth 100000 in
theorem fl2_is (w : World) (f : Fd) (hf : f.mac.length = 6) :
    Calls Tryd.prog 49 #[.agg (fdA f)] w fun e w' => e = .returned (.agg (fdA f)) ∧ Below w.heap.size w w' := by
  have hV := (Blk.new w 63 (fdA f)).alloc (.cells zfd 61)
  have hR := Blk.new (w.alloc (.cells (fdA f) 63)) 61 zfd
  rw [size_a1] at hR
  obtain ⟨c0, c1, c2, c3, c4⟩ := FdCell hV
  have HM := Lib.hid (FdMac hV)
  have HR := Lib.hid hR
  have HL : Hid (Below w.heap.size w ((w.alloc (.cells (fdA f) 63)).alloc (.cells zfd 61))) := Lib.hid (((Below.refl w.heap.size w).alloc (Nat.le_refl _) _).alloc (by simp) _)
  clear hV hR
  obtain ⟨k, fm, a, n, fg, m⟩ := f
  obtain ⟨m0, m1, m2, m3, m4, m5, rfl⟩ : ∃ a b c d e f, m = [a, b, c, d, e, f] := by
    match m, hf with
    | [a, b, c, d, e, f], _ => exact ⟨a, b, c, d, e, f, rfl⟩
  go_enter Tryd.func49, Tryd.ntmps49
  go_wp2_with (first
    | (refine mac6_fetch rfl _ rfl w.heap.size 5 [m0, m1, m2, m3, m4, m5] rfl rfl HM.out ?_)
    | (refine rfd_store rfl _ _ rfl (w.heap.size + 1) ⟨k, fm, a, n, fg, [m0, m1, m2, m3, m4, m5]⟩ rfl rfl rfl 61 zfd HR.out rfl ?_))
  exact bodyPost_ret (rfd_res rfl _ _ (w.heap.size + 1) 61 ⟨k, fm, a, n, fg, [m0, m1, m2, m3, m4, m5]⟩ rfl rfl (Blk.setRow HR.out _)) rfl ⟨rfl, HL.out.trans (below_setRow _ _ _ (by omega))⟩
theorem lit_int (d : Nat) (n : Int) (h : (Lit.int .i64 n).wf = true) : Tryd.prog.keyLits (d + 1) 3 [Value.int .i64 n] = some [Lit.int .i64 n] := by
  unfold Program.keyLits
  rw [Tryd.underlying3]
  simp [h]
theorem lit_u32 (d : Nat) (n : Int) (h : (Lit.int .u32 n).wf = true) : Tryd.prog.keyLits (d + 1) 25 [Value.int .u32 n] = some [Lit.int .u32 n] := by
  unfold Program.keyLits
  rw [Tryd.underlying25]
  simp [h]
theorem lit_bool (d : Nat) (b : Bool) : Tryd.prog.keyLits (d + 1) 4 [Value.bool b] = some [Lit.bool b] := by
  unfold Program.keyLits
  rw [Tryd.underlying4]
theorem wf_u32' {n : Int} (h0 : 0 ≤ n) (h1 : n < 4294967296) : (Lit.int .u32 n).wf = true := by
  simp [Lit.wf, IntKind.min, IntKind.max, IntKind.signed, IntKind.bits]; omega
theorem wf_i64' {n : Int} (h0 : 0 ≤ n) (h1 : n ≤ 6) : (Lit.int .i64 n).wf = true := by
  simp [Lit.wf, IntKind.min, IntKind.max, IntKind.signed, IntKind.bits]; omega
theorem fd_lits (f : Fd) (ok : FdOk f) (hk : 0 ≤ f.kind ∧ f.kind ≤ 6) (hf : 0 ≤ f.form ∧ f.form ≤ 6) :
    Tryd.prog.keyLits 4 61 (fdc f) = some (.int .i64 f.kind :: .int .i64 f.form :: .int .u32 f.as_ :: .int .u32 f.n :: .bool f.flag :: f.mac.map (Lit.int .u8)) := by
  have h := keyLits_u8s (P := Tryd.prog) 1 (t := 49) (e := 5) (n := 6) Tryd.underlying49 Tryd.underlying5 (by kernel_rfl) (by kernel_rfl) f.mac ok.len ok.oct
  have hc1 : Tryd.prog.cellsOf 61 = 11 := by kernel_rfl
  have hc2 : Tryd.prog.cellsOf 49 = 6 := by kernel_rfl
  have hc3 : Tryd.prog.cellsOf 4 = 1 := by kernel_rfl
  have hc4 : Tryd.prog.cellsOf 3 = 1 := by kernel_rfl
  have hc5 : Tryd.prog.cellsOf 25 = 1 := by kernel_rfl
  have l1 := lit_int 2 f.kind (wf_i64' hk.1 hk.2)
  have l2 := lit_int 2 f.form (wf_i64' hf.1 hf.2)
  have l3 := lit_u32 2 f.as_ (wf_u32' ok.as0 ok.as1)
  have l4 := lit_u32 2 f.n (wf_u32' ok.n0 ok.n1)
  have l5 := lit_bool 2 f.flag
  unfold Program.keyLits
  rw [Tryd.underlying61]
  have ht : (u8s f.mac).take 6 = u8s f.mac := List.take_of_length_le (by simp [ok.len])
  simp [hc1, hc2, hc3, hc4, hc5, ok.len, l1, l2, l3, l4, l5, ht, h]
theorem fd_eq (f : Fd) (ok : FdOk f) (hk : 0 ≤ f.kind ∧ f.kind ≤ 6) (hf : 0 ≤ f.form ∧ f.form ≤ 6) (w : World) : (binOp .eql 61 (.agg (fdA f)) (.agg (fdA f))).run Tryd.prog w = .ok (.bool true) w := by
  have hc1 : Tryd.prog.cellsOf 61 = 11 := by kernel_rfl
  have hfm : (Value.agg (fdA f)).formed Tryd.prog 61 = true := by simp [Value.formed, Tryd.underlying61, hc1, fdA_size f ok.len]
  exact run_eql_key 4 4 4 (by kernel_rfl) (by omega) _ _ _ _ hfm hfm (by simpa [fdA] using fd_lits f ok hk hf) (by simpa [fdA] using fd_lits f ok hk hf) true (by simp) w
theorem rdF_kinds (l : List Int) : (0 ≤ (rdF l).kind ∧ (rdF l).kind ≤ 6) ∧ (0 ≤ (rdF l).form ∧ (rdF l).form ≤ 6) := by
  unfold rdF
  repeat' split
  all_goals simp
end Go.Proofs.YtkaimdcepnhkdaaDoor
namespace Go.Proofs.YtkaimdcepnhkdaaDoor
open Go.RowKit
set_option linter.unusedSimpArgs false
set_option linter.unusedVariables false

theorem rrd_isA (w : World) (l : List Int) (hl : l.length = 8) (ho : Oct l) (f : Fd) (hf : rdF l = f) :
    Calls Tryd.prog 51 #[.agg (u8s l).toArray] w fun e w' => e = .returned (.agg (fdA f)) ∧ Below w.heap.size w w' := by
  subst hf
  exact rrd_is' w l hl ho
theorem rfdA_store {ops : Array Oper} {rest : List Oper} {o : Oper} {a : Act} {w : World} {Q : Exit → Act → World → Prop} (hgd : o.guard = none) (x y : Operand) (ho : o.op = .store 61 x y) (g : Nat) (f : Fd) (hf : f.mac.length = 6)
    (hx : a.eval x = .pointer (some ⟨g, 0, none⟩)) (hy : a.eval y = .agg (fdA f)) (t : TypeId) (old : Array Value) (hg : Blk w g t old) (hold : old.size = 11)
    (h : wpList Tryd.prog ops Q rest (a.put o.dst undef) (w.setRow g (fdA f))) : wpList Tryd.prog ops Q (o :: rest) a w :=
  rfd_store hgd x y ho g f hf hx hy t old hg hold h
/-- One digit of sixteen. -/
theorem hx_cut (d : Nat) (hd : d < 16) (W : World) : (Instr.slice 9 (.string ⟨#[48, 49, 50, 51, 52, 53, 54, 55, 56, 57, 97, 98, 99, 100, 101, 102]⟩) (some (.int .u8 (d : Int))) (some (.int .u8 ((d : Int) + 1))) none).run Tryd.prog W = .ok (.string (strOfNums [hexI (d : Int)])) W := by
  rcases (show d = 0 ∨ d = 1 ∨ d = 2 ∨ d = 3 ∨ d = 4 ∨ d = 5 ∨ d = 6 ∨ d = 7 ∨ d = 8 ∨ d = 9 ∨ d = 10 ∨ d = 11 ∨ d = 12 ∨ d = 13 ∨ d = 14 ∨ d = 15 by omega) with rfl | rfl | rfl | rfl | rfl | rfl | rfl | rfl | rfl | rfl | rfl | rfl | rfl | rfl | rfl | rfl
  all_goals kernel_rfl
theorem str_app (a b : List Int) : strOfNums a ++ strOfNums b = strOfNums (a ++ b) := by
  apply ByteArray.ext
  have h1 := strOfNums_data a
  have h2 := strOfNums_data b
  have h3 := strOfNums_data (a ++ b)
  apply Array.ext'
  rw [ByteArray.data_append, Array.toList_append, h1, h2, h3, List.map_append]
set_option maxHeartbeats 2000000 in
set_option maxRecDepth 100000 in
theorem rtx_1_0 (w : World) (E : Env w) (l : List Int) (hl : l.length = 8) (ho : Oct l) (f : Fd) (hf : rdF l = f) (ok : FdOk f) (hk : f.kind = 1) (hfm : f.form ≠ 1 ∧ f.form ≠ 2) :
    Calls Tryd.prog 53 #[.agg (u8s l).toArray] w fun e w' => e = .returned (.string (txtF f l)) ∧ Below w.heap.size w w' := by
  rw [txtF_1 f l hk]
  have HC := Lib.hid (Blk.new w 52 (u8s l).toArray)
  have HF := Lib.hid hf
  have HOk := Lib.hid ok
  have a0 := ok.as0
  have a1 := ok.as1
  have n0 := ok.n0
  have n1 := ok.n1
  have hm1 : f.n % 18446744073709551616 = f.n := Int.emod_eq_of_lt n0 (by omega)
  have hm2 : f.as_ % 18446744073709551616 = f.as_ := Int.emod_eq_of_lt a0 (by omega)
  clear hf ok
  go_enter Tryd.func53, Tryd.ntmps53
  go_wp2_with (refine comm_fetch rfl _ rfl w.heap.size 0 l hl rfl HC.out.range ?_)
  refine (rrd_isA _ l hl ho f HF.out).mono ?_
  rintro e w1 ⟨rfl, hB⟩
  have HT := Lib.hid (tx_new w w1 E l f 61 hB)
  have HN := Lib.hid (Blk.new w1 61 zfd)
  have c3 := (FdCell HT.out.var).2.2.2.1
  clear hB HC HF
  go_wp2_with (refine rfdA_store rfl _ _ rfl w1.heap.size f HOk.out.len rfl rfl 61 zfd HN.out rfl ?_)
  refine (rdec_int _ f.n n0 (by omega)).mono ?_
  rintro e w2 ⟨rfl, hB⟩
  have HT2 := Lib.hid (HT.out.below hB)
  generalize w1.heap.size = g at *
  clear hB HT HN c3 hm1
  have c0 := (FdCell HT2.out.var).1
  rw [hk] at c0
  clear hk
  have c1 := (FdCell HT2.out.var).2.1
  have c2 := (FdCell HT2.out.var).2.2.1
  have hs1 := asS_size f.form f.as_ a0 a1
  have hs2 := decS_size f.n n0 (by omega)
  have hs3 := decS_size f.as_ a0 (by omega)
  have HS : Hid (asS f.form f.as_ = decS f.as_) := Lib.hid (by unfold asS; rw [if_neg hfm.1, if_neg hfm.2])
  rw [HS.out] at hs1
  have b1 : (f.form == 1) = false := by simpa using hfm.1
  have b2 : (f.form == 2) = false := by simpa using hfm.2
  have hz1 : ¬ 9223372036854775807 < 3 + (decS f.as_).size := by omega
  have hz2 : ¬ 9223372036854775807 < 3 + (decS f.as_).size + 1 := by omega
  have hz3 : ¬ 9223372036854775807 < 3 + (decS f.as_).size + 1 + (decS f.n).size := by omega
  clear hs1 hs2 hs3 hfm
  go_wp2_with fail
  refine (rdec_int _ f.as_ a0 (by omega)).mono ?_
  rintro e w3 ⟨rfl, hB⟩
  have HT3 := Lib.hid (HT2.out.below hB)
  have d1 := (FdCell HT3.out.var).2.1
  clear hB HT2 c0 c1 c2
  go_wp2
  go_ret
  exact ⟨by rw [HS.out]; rfl, HT3.out.low⟩
set_option maxHeartbeats 2000000 in
set_option maxRecDepth 100000 in
theorem rtx_1_1 (w : World) (E : Env w) (l : List Int) (hl : l.length = 8) (ho : Oct l) (f : Fd) (hf : rdF l = f) (ok : FdOk f) (hk : f.kind = 1) (hfm : f.form = 1) :
    Calls Tryd.prog 53 #[.agg (u8s l).toArray] w fun e w' => e = .returned (.string (txtF f l)) ∧ Below w.heap.size w w' := by
  rw [txtF_1 f l hk]
  have HC := Lib.hid (Blk.new w 52 (u8s l).toArray)
  have HF := Lib.hid hf
  have HOk := Lib.hid ok
  have a0 := ok.as0
  have a1 := ok.as1
  have n0 := ok.n0
  have n1 := ok.n1
  have hm1 : f.n % 18446744073709551616 = f.n := Int.emod_eq_of_lt n0 (by omega)
  have hm2 : f.as_ % 18446744073709551616 = f.as_ := Int.emod_eq_of_lt a0 (by omega)
  clear hf ok
  go_enter Tryd.func53, Tryd.ntmps53
  go_wp2_with (refine comm_fetch rfl _ rfl w.heap.size 0 l hl rfl HC.out.range ?_)
  refine (rrd_isA _ l hl ho f HF.out).mono ?_
  rintro e w1 ⟨rfl, hB⟩
  have HT := Lib.hid (tx_new w w1 E l f 61 hB)
  have HN := Lib.hid (Blk.new w1 61 zfd)
  have c3 := (FdCell HT.out.var).2.2.2.1
  clear hB HC HF
  go_wp2_with (refine rfdA_store rfl _ _ rfl w1.heap.size f HOk.out.len rfl rfl 61 zfd HN.out rfl ?_)
  refine (rdec_int _ f.n n0 (by omega)).mono ?_
  rintro e w2 ⟨rfl, hB⟩
  have HT2 := Lib.hid (HT.out.below hB)
  generalize w1.heap.size = g at *
  clear hB HT HN c3 hm1
  have c0 := (FdCell HT2.out.var).1
  rw [hk] at c0
  clear hk
  have c1 := (FdCell HT2.out.var).2.1
  have c2 := (FdCell HT2.out.var).2.2.1
  have hs1 := asS_size f.form f.as_ a0 a1
  have hs2 := decS_size f.n n0 (by omega)
  have hs3 := decS_size f.as_ a0 (by omega)
  rw [hfm] at c1
  have HS : Hid (asS f.form f.as_ = fourS ((four f.as_).take 4)) := Lib.hid (by unfold asS; rw [hfm, if_pos rfl])
  rw [HS.out] at hs1
  have hz1 : ¬ 9223372036854775807 < 3 + (fourS ((four f.as_).take 4)).size := by omega
  have hz2 : ¬ 9223372036854775807 < 3 + (fourS ((four f.as_).take 4)).size + 1 := by omega
  have hz3 : ¬ 9223372036854775807 < 3 + (fourS ((four f.as_).take 4)).size + 1 + (decS f.n).size := by omega
  clear hs1 hs2 hs3
  go_wp2_with fail
  refine (rdec_int _ f.as_ a0 (by omega)).mono ?_
  rintro e w3 ⟨rfl, hB⟩
  have HT3 := Lib.hid (HT2.out.below hB)
  have d1 := (FdCell HT3.out.var).2.1
  have d2 := (FdCell HT3.out.var).2.2.1
  rw [hfm] at d1
  clear hB HT2 c0 c1 c2 hfm
  go_wp2_with fail
  refine (rfo_is _ f.as_ a0 a1).mono ?_
  rintro e w4 ⟨rfl, hB⟩
  have HT4 := Lib.hid (HT3.out.below hB)
  clear hB HT3 d1 d2
  go_wp2_with fail
  refine (rip4_is _ (four f.as_) (four_len f.as_) (four_oct f.as_ a0 a1) (four_right f.as_ a0 a1)).mono ?_
  rintro e w5 ⟨rfl, hB⟩
  have HT5 := Lib.hid (HT4.out.below hB)
  clear hB HT4
  generalize fourS ((four f.as_).take 4) = fs at *
  go_wp2
  go_ret
  exact ⟨by rw [HS.out]; rfl, HT5.out.low⟩
set_option maxHeartbeats 2000000 in
set_option maxRecDepth 100000 in
theorem rtx_1_2 (w : World) (E : Env w) (l : List Int) (hl : l.length = 8) (ho : Oct l) (f : Fd) (hf : rdF l = f) (ok : FdOk f) (hk : f.kind = 1) (hfm : f.form = 2) :
    Calls Tryd.prog 53 #[.agg (u8s l).toArray] w fun e w' => e = .returned (.string (txtF f l)) ∧ Below w.heap.size w w' := by
  rw [txtF_1 f l hk]
  have HC := Lib.hid (Blk.new w 52 (u8s l).toArray)
  have HF := Lib.hid hf
  have HOk := Lib.hid ok
  have a0 := ok.as0
  have a1 := ok.as1
  have n0 := ok.n0
  have n1 := ok.n1
  have hm1 : f.n % 18446744073709551616 = f.n := Int.emod_eq_of_lt n0 (by omega)
  have hm2 : f.as_ % 18446744073709551616 = f.as_ := Int.emod_eq_of_lt a0 (by omega)
  clear hf ok
  go_enter Tryd.func53, Tryd.ntmps53
  go_wp2_with (refine comm_fetch rfl _ rfl w.heap.size 0 l hl rfl HC.out.range ?_)
  refine (rrd_isA _ l hl ho f HF.out).mono ?_
  rintro e w1 ⟨rfl, hB⟩
  have HT := Lib.hid (tx_new w w1 E l f 61 hB)
  have HN := Lib.hid (Blk.new w1 61 zfd)
  have c3 := (FdCell HT.out.var).2.2.2.1
  clear hB HC HF
  go_wp2_with (refine rfdA_store rfl _ _ rfl w1.heap.size f HOk.out.len rfl rfl 61 zfd HN.out rfl ?_)
  refine (rdec_int _ f.n n0 (by omega)).mono ?_
  rintro e w2 ⟨rfl, hB⟩
  have HT2 := Lib.hid (HT.out.below hB)
  generalize w1.heap.size = g at *
  clear hB HT HN c3 hm1
  have c0 := (FdCell HT2.out.var).1
  rw [hk] at c0
  clear hk
  have c1 := (FdCell HT2.out.var).2.1
  have c2 := (FdCell HT2.out.var).2.2.1
  have hs1 := asS_size f.form f.as_ a0 a1
  have hs2 := decS_size f.n n0 (by omega)
  have hs3 := decS_size f.as_ a0 (by omega)
  rw [hfm] at c1
  have HS : Hid (asS f.form f.as_ = decS f.as_ ++ ⟨#[76]⟩) := Lib.hid (by unfold asS; rw [hfm, if_neg (by decide), if_pos rfl])
  have hz0 : ¬ 9223372036854775807 < (decS f.as_).size + 1 := by omega
  have hz1 : ¬ 9223372036854775807 < 3 + ((decS f.as_).size + 1) := by omega
  have hz2 : ¬ 9223372036854775807 < 3 + ((decS f.as_).size + 1) + 1 := by omega
  have hz3 : ¬ 9223372036854775807 < 3 + ((decS f.as_).size + 1) + 1 + (decS f.n).size := by omega
  clear hs1 hs2 hs3
  go_wp2_with fail
  refine (rdec_int _ f.as_ a0 (by omega)).mono ?_
  rintro e w3 ⟨rfl, hB⟩
  have HT3 := Lib.hid (HT2.out.below hB)
  have d1 := (FdCell HT3.out.var).2.1
  rw [hfm] at d1
  clear hB HT2 c0 c1 c2 hfm
  go_wp2
  go_ret
  exact ⟨by rw [HS.out]; rfl, HT3.out.low⟩
set_option maxHeartbeats 2000000 in
set_option maxRecDepth 100000 in
theorem rtx_2 (w : World) (E : Env w) (l : List Int) (hl : l.length = 8) (ho : Oct l) (f : Fd) (hf : rdF l = f) (ok : FdOk f) (hk : f.kind = 2) :
    Calls Tryd.prog 53 #[.agg (u8s l).toArray] w fun e w' => e = .returned (.string (txtF f l)) ∧ Below w.heap.size w w' := by
  rw [txtF_2 f l hk]
  have HC := Lib.hid (Blk.new w 52 (u8s l).toArray)
  have HF := Lib.hid hf
  have HOk := Lib.hid ok
  have a0 := ok.as0
  have a1 := ok.as1
  have n0 := ok.n0
  have n1 := ok.n1
  have hm1 : f.n % 18446744073709551616 = f.n := Int.emod_eq_of_lt n0 (by omega)
  have hm2 : f.as_ % 18446744073709551616 = f.as_ := Int.emod_eq_of_lt a0 (by omega)
  clear hf ok
  go_enter Tryd.func53, Tryd.ntmps53
  go_wp2_with (refine comm_fetch rfl _ rfl w.heap.size 0 l hl rfl HC.out.range ?_)
  refine (rrd_isA _ l hl ho f HF.out).mono ?_
  rintro e w1 ⟨rfl, hB⟩
  have HT := Lib.hid (tx_new w w1 E l f 61 hB)
  have HN := Lib.hid (Blk.new w1 61 zfd)
  have c3 := (FdCell HT.out.var).2.2.2.1
  clear hB HC HF
  go_wp2_with (refine rfdA_store rfl _ _ rfl w1.heap.size f HOk.out.len rfl rfl 61 zfd HN.out rfl ?_)
  refine (rdec_int _ f.n n0 (by omega)).mono ?_
  rintro e w2 ⟨rfl, hB⟩
  have HT2 := Lib.hid (HT.out.below hB)
  generalize w1.heap.size = g at *
  clear hB HT HN c3 hm1
  have c0 := (FdCell HT2.out.var).1
  rw [hk] at c0
  clear hk
  have c4 := (FdCell HT2.out.var).2.2.2.2
  have hs2 := decS_size f.n n0 (by omega)
  have hs1 := fgS_size f.flag sSti
  have hs3 : sSti.size = 6 := rfl
  have hz1 : ¬ 9223372036854775807 < 9 + (decS f.n).size := by omega
  have hz2 : ¬ 9223372036854775807 < 9 + (decS f.n).size + (fgS f.flag sSti).size := by omega
  clear hs1 hs2 hs3
  go_wp2_with fail
  refine (said_is _ f.flag sSti (by decide)).mono ?_
  rintro e w4 ⟨rfl, rfl⟩
  clear c0 c4
  go_wp2
  go_ret
  exact ⟨rfl, HT2.out.low⟩
set_option maxHeartbeats 2000000 in
set_option maxRecDepth 100000 in
theorem rtx_3 (w : World) (E : Env w) (l : List Int) (hl : l.length = 8) (ho : Oct l) (f : Fd) (hf : rdF l = f) (ok : FdOk f) (hk : f.kind = 3) :
    Calls Tryd.prog 53 #[.agg (u8s l).toArray] w fun e w' => e = .returned (.string (txtF f l)) ∧ Below w.heap.size w w' := by
  rw [txtF_3 f l hk]
  have HC := Lib.hid (Blk.new w 52 (u8s l).toArray)
  have HF := Lib.hid hf
  have HOk := Lib.hid ok
  have a0 := ok.as0
  have a1 := ok.as1
  have n0 := ok.n0
  have n1 := ok.n1
  have hm1 : f.n % 18446744073709551616 = f.n := Int.emod_eq_of_lt n0 (by omega)
  have hm2 : f.as_ % 18446744073709551616 = f.as_ := Int.emod_eq_of_lt a0 (by omega)
  clear hf ok
  go_enter Tryd.func53, Tryd.ntmps53
  go_wp2_with (refine comm_fetch rfl _ rfl w.heap.size 0 l hl rfl HC.out.range ?_)
  refine (rrd_isA _ l hl ho f HF.out).mono ?_
  rintro e w1 ⟨rfl, hB⟩
  have HT := Lib.hid (tx_new w w1 E l f 61 hB)
  have HN := Lib.hid (Blk.new w1 61 zfd)
  have c3 := (FdCell HT.out.var).2.2.2.1
  clear hB HC HF
  go_wp2_with (refine rfdA_store rfl _ _ rfl w1.heap.size f HOk.out.len rfl rfl 61 zfd HN.out rfl ?_)
  refine (rdec_int _ f.n n0 (by omega)).mono ?_
  rintro e w2 ⟨rfl, hB⟩
  have HT2 := Lib.hid (HT.out.below hB)
  generalize w1.heap.size = g at *
  clear hB HT HN c3 hm1
  have c0 := (FdCell HT2.out.var).1
  rw [hk] at c0
  clear hk
  have c4 := (FdCell HT2.out.var).2.2.2.2
  have hs2 := decS_size f.n n0 (by omega)
  have hs1 := fgS_size f.flag sSin
  have hs3 : sSin.size = 6 := rfl
  have hz1 : ¬ 9223372036854775807 < 10 + (decS f.n).size := by omega
  have hz2 : ¬ 9223372036854775807 < 10 + (decS f.n).size + (fgS f.flag sSin).size := by omega
  clear hs1 hs2 hs3
  go_wp2_with fail
  refine (said_is _ f.flag sSin (by decide)).mono ?_
  rintro e w4 ⟨rfl, rfl⟩
  clear c0 c4
  go_wp2
  go_ret
  exact ⟨rfl, HT2.out.low⟩
set_option maxHeartbeats 2000000 in
set_option maxRecDepth 100000 in
theorem rtx_4 (w : World) (E : Env w) (l : List Int) (hl : l.length = 8) (ho : Oct l) (f : Fd) (hf : rdF l = f) (ok : FdOk f) (hk : f.kind = 4) :
    Calls Tryd.prog 53 #[.agg (u8s l).toArray] w fun e w' => e = .returned (.string (txtF f l)) ∧ Below w.heap.size w w' := by
  rw [txtF_4 f l hk]
  have HC := Lib.hid (Blk.new w 52 (u8s l).toArray)
  have HF := Lib.hid hf
  have HOk := Lib.hid ok
  have a0 := ok.as0
  have a1 := ok.as1
  have n0 := ok.n0
  have n1 := ok.n1
  have hm1 : f.n % 18446744073709551616 = f.n := Int.emod_eq_of_lt n0 (by omega)
  have hm2 : f.as_ % 18446744073709551616 = f.as_ := Int.emod_eq_of_lt a0 (by omega)
  clear hf ok
  go_enter Tryd.func53, Tryd.ntmps53
  go_wp2_with (refine comm_fetch rfl _ rfl w.heap.size 0 l hl rfl HC.out.range ?_)
  refine (rrd_isA _ l hl ho f HF.out).mono ?_
  rintro e w1 ⟨rfl, hB⟩
  have HT := Lib.hid (tx_new w w1 E l f 61 hB)
  have HN := Lib.hid (Blk.new w1 61 zfd)
  have c3 := (FdCell HT.out.var).2.2.2.1
  clear hB HC HF
  go_wp2_with (refine rfdA_store rfl _ _ rfl w1.heap.size f HOk.out.len rfl rfl 61 zfd HN.out rfl ?_)
  refine (rdec_int _ f.n n0 (by omega)).mono ?_
  rintro e w2 ⟨rfl, hB⟩
  have HT2 := Lib.hid (HT.out.below hB)
  generalize w1.heap.size = g at *
  clear hB HT HN c3 hm1
  have c0 := (FdCell HT2.out.var).1
  rw [hk] at c0
  clear hk
  have hs1 : (strOfNums (prK f.mac 6)).size ≤ 18 := by rw [strOfNums_size]; exact prK_len f.mac 6
  have hz1 : ¬ 9223372036854775807 < 10 + (strOfNums (prK f.mac 6)).size := by omega
  clear hs1
  go_wp2_with (refine mac6_fetch rfl _ rfl g 5 f.mac HOk.out.len rfl (FdMac HT2.out.var) ?_)
  refine (rmact_is _ f.mac HOk.out.len HOk.out.oct).mono ?_
  rintro e w3 ⟨rfl, hB⟩
  have HT3 := Lib.hid (HT2.out.below hB)
  clear hB HT2 c0
  go_wp2
  go_ret
  exact ⟨rfl, HT3.out.low⟩
set_option maxHeartbeats 2000000 in
set_option maxRecDepth 100000 in
theorem rtx_5 (w : World) (E : Env w) (l : List Int) (hl : l.length = 8) (ho : Oct l) (f : Fd) (hf : rdF l = f) (ok : FdOk f) (hk : f.kind = 5) :
    Calls Tryd.prog 53 #[.agg (u8s l).toArray] w fun e w' => e = .returned (.string (txtF f l)) ∧ Below w.heap.size w w' := by
  rw [txtF_5 f l hk]
  have HC := Lib.hid (Blk.new w 52 (u8s l).toArray)
  have HF := Lib.hid hf
  have HOk := Lib.hid ok
  have a0 := ok.as0
  have a1 := ok.as1
  have n0 := ok.n0
  have n1 := ok.n1
  have hm1 : f.n % 18446744073709551616 = f.n := Int.emod_eq_of_lt n0 (by omega)
  have hm2 : f.as_ % 18446744073709551616 = f.as_ := Int.emod_eq_of_lt a0 (by omega)
  clear hf ok
  go_enter Tryd.func53, Tryd.ntmps53
  go_wp2_with (refine comm_fetch rfl _ rfl w.heap.size 0 l hl rfl HC.out.range ?_)
  refine (rrd_isA _ l hl ho f HF.out).mono ?_
  rintro e w1 ⟨rfl, hB⟩
  have HT := Lib.hid (tx_new w w1 E l f 61 hB)
  have HN := Lib.hid (Blk.new w1 61 zfd)
  have c3 := (FdCell HT.out.var).2.2.2.1
  clear hB HC HF
  go_wp2_with (refine rfdA_store rfl _ _ rfl w1.heap.size f HOk.out.len rfl rfl 61 zfd HN.out rfl ?_)
  refine (rdec_int _ f.n n0 (by omega)).mono ?_
  rintro e w2 ⟨rfl, hB⟩
  have HT2 := Lib.hid (HT.out.below hB)
  generalize w1.heap.size = g at *
  clear hB HT HN c3 hm1
  have c0 := (FdCell HT2.out.var).1
  rw [hk] at c0
  clear hk
  have hs1 : (strOfNums (prK f.mac 6)).size ≤ 18 := by rw [strOfNums_size]; exact prK_len f.mac 6
  have hz1 : ¬ 9223372036854775807 < 7 + (strOfNums (prK f.mac 6)).size := by omega
  clear hs1
  go_wp2_with (refine mac6_fetch rfl _ rfl g 5 f.mac HOk.out.len rfl (FdMac HT2.out.var) ?_)
  refine (rmact_is _ f.mac HOk.out.len HOk.out.oct).mono ?_
  rintro e w3 ⟨rfl, hB⟩
  have HT3 := Lib.hid (HT2.out.below hB)
  clear hB HT2 c0
  go_wp2
  go_ret
  exact ⟨rfl, HT3.out.low⟩
set_option maxHeartbeats 2000000 in
set_option maxRecDepth 100000 in
theorem rtx_6 (w : World) (E : Env w) (l : List Int) (hl : l.length = 8) (ho : Oct l) (f : Fd) (hf : rdF l = f) (ok : FdOk f) (hk : f.kind = 6) :
    Calls Tryd.prog 53 #[.agg (u8s l).toArray] w fun e w' => e = .returned (.string (txtF f l)) ∧ Below w.heap.size w w' := by
  rw [txtF_6 f l hk]
  have HC := Lib.hid (Blk.new w 52 (u8s l).toArray)
  have HF := Lib.hid hf
  have HOk := Lib.hid ok
  have a0 := ok.as0
  have a1 := ok.as1
  have n0 := ok.n0
  have n1 := ok.n1
  have hm1 : f.n % 18446744073709551616 = f.n := Int.emod_eq_of_lt n0 (by omega)
  have hm2 : f.as_ % 18446744073709551616 = f.as_ := Int.emod_eq_of_lt a0 (by omega)
  clear hf ok
  go_enter Tryd.func53, Tryd.ntmps53
  go_wp2_with (refine comm_fetch rfl _ rfl w.heap.size 0 l hl rfl HC.out.range ?_)
  refine (rrd_isA _ l hl ho f HF.out).mono ?_
  rintro e w1 ⟨rfl, hB⟩
  have HT := Lib.hid (tx_new w w1 E l f 61 hB)
  have HN := Lib.hid (Blk.new w1 61 zfd)
  have c3 := (FdCell HT.out.var).2.2.2.1
  clear hB HC HF
  go_wp2_with (refine rfdA_store rfl _ _ rfl w1.heap.size f HOk.out.len rfl rfl 61 zfd HN.out rfl ?_)
  refine (rdec_int _ f.n n0 (by omega)).mono ?_
  rintro e w2 ⟨rfl, hB⟩
  have HT2 := Lib.hid (HT.out.below hB)
  generalize w1.heap.size = g at *
  clear hB HT HN c3 hm1
  have c0 := (FdCell HT2.out.var).1
  rw [hk] at c0
  clear hk
  have hs2 := decS_size f.n n0 (by omega)
  have hz1 : ¬ 9223372036854775807 < 6 + (decS f.n).size := by omega
  clear hs2
  go_wp2
  go_ret
  exact ⟨rfl, HT2.out.low⟩
set_option maxHeartbeats 2000000 in
set_option maxRecDepth 100000 in
theorem rtx_0 (w : World) (E : Env w) (l : List Int) (hl : l.length = 8) (ho : Oct l) (f : Fd) (hf : rdF l = f) (ok : FdOk f) (hk : f.kind ≠ 1 ∧ f.kind ≠ 2 ∧ f.kind ≠ 3 ∧ f.kind ≠ 4 ∧ f.kind ≠ 5 ∧ f.kind ≠ 6) :
    Calls Tryd.prog 53 #[.agg (u8s l).toArray] w fun e w' => e = .returned (.string (txtF f l)) ∧ Below w.heap.size w w' := by
  rw [txtF_0 f l hk]
  have HC := Lib.hid (Blk.new w 52 (u8s l).toArray)
  have HF := Lib.hid hf
  have HOk := Lib.hid ok
  have a0 := ok.as0
  have a1 := ok.as1
  have n0 := ok.n0
  have n1 := ok.n1
  have hm1 : f.n % 18446744073709551616 = f.n := Int.emod_eq_of_lt n0 (by omega)
  have hm2 : f.as_ % 18446744073709551616 = f.as_ := Int.emod_eq_of_lt a0 (by omega)
  clear hf ok
  go_enter Tryd.func53, Tryd.ntmps53
  go_wp2_with (refine comm_fetch rfl _ rfl w.heap.size 0 l hl rfl HC.out.range ?_)
  refine (rrd_isA _ l hl ho f HF.out).mono ?_
  rintro e w1 ⟨rfl, hB⟩
  have HT := Lib.hid (tx_new w w1 E l f 61 hB)
  have HN := Lib.hid (Blk.new w1 61 zfd)
  have c3 := (FdCell HT.out.var).2.2.2.1
  clear hB HC HF
  go_wp2_with (refine rfdA_store rfl _ _ rfl w1.heap.size f HOk.out.len rfl rfl 61 zfd HN.out rfl ?_)
  refine (rdec_int _ f.n n0 (by omega)).mono ?_
  rintro e w2 ⟨rfl, hB⟩
  have HT2 := Lib.hid (HT.out.below hB)
  generalize w1.heap.size = g at *
  clear hB HT HN c3 hm1
  have c0 := (FdCell HT2.out.var).1
  obtain ⟨k1, k2, k3, k4, k5, k6⟩ := hk
  have b1 : (f.kind == 1) = false := by simpa using k1
  have b2 : (f.kind == 2) = false := by simpa using k2
  have b3 : (f.kind == 3) = false := by simpa using k3
  have b4 : (f.kind == 4) = false := by simpa using k4
  have b5 : (f.kind == 5) = false := by simpa using k5
  have b6 : (f.kind == 6) = false := by simpa using k6
  clear k1 k2 k3 k4 k5 k6
  go_wp2
  clear c0
  go_loopw [6, 7, 74] (fun s _ i wr => ∃ j : Nat, j ≤ 8 ∧ i = .int .i64 j ∧ s = .string (sOth ++ strOfNums (hxK l j)) ∧ Blk wr w.heap.size 52 (u8s l).toArray ∧ Below w.heap.size w wr) (fun _ _ i _ => 8 - (intOf i).toNat)
  case atStart => exact ⟨0, by omega, rfl, rfl, HT2.out.com, HT2.out.low⟩
  case round =>
    obtain ⟨j, hj, rfl, rfl, hcm, hlow⟩ := hrel
    have HCm := Lib.hid hcm
    have HLw := Lib.hid hlow
    clear hcm hlow HT2
    by_cases hlt : j < 8
    · have hx := ho.getD j
      have HP : Hid (hxK l (j + 1) = hxK l j ++ [hexI (l.getD j 0 / 16), hexI (l.getD j 0 % 16)]) := Lib.hid rfl
      have hlen := hxK_len l j
      have HCC : Hid (∀ w' : World, Blk w' w.heap.size 52 (u8s l).toArray → w'.cell? ⟨w.heap.size, j, none⟩ = some (.int .u8 (l.getD j 0))) := Lib.hid (fun w' h => com_cell h hl j hlt)
      generalize l.getD j 0 = x at *
      obtain ⟨d, hd⟩ := Int.eq_ofNat_of_zero_le (show 0 ≤ x / 16 by omega)
      obtain ⟨e, he⟩ := Int.eq_ofNat_of_zero_le (show 0 ≤ x % 16 by omega)
      have hd16 : d < 16 := by omega
      have he16 : e < 16 := by omega
      have HXD := hx_cut d hd16
      have HXE := hx_cut e he16
      have hq : x.tdiv 16 = (d : Int) := by rw [Int.tdiv_eq_ediv_of_nonneg hx.1, hd]
      have hr : x.tmod 16 = (e : Int) := by rw [Int.tmod_eq_emod_of_nonneg hx.1, he]
      rw [hd, he] at HP
      have hlen2 : (strOfNums (hxK l j)).size ≤ 16 := by rw [strOfNums_size]; omega
      have hjI : (j : Int) < 8 := by omega
      have hwd : IntKind.u8.wrap (d : Int) = (d : Int) := by rw [IntKind.wrap_u8']; omega
      have hwd1 : IntKind.u8.wrap ((d : Int) + 1) = (d : Int) + 1 := by rw [IntKind.wrap_u8']; omega
      have hwe : IntKind.u8.wrap (e : Int) = (e : Int) := by rw [IntKind.wrap_u8']; omega
      have hwe1 : IntKind.u8.wrap ((e : Int) + 1) = (e : Int) + 1 := by rw [IntKind.wrap_u8']; omega
      have hdI : (d : Int) + 1 < 256 := by omega
      have heI : (e : Int) + 1 < 256 := by omega
      have HS1 : Hid (strOfNums [hexI (d : Int)] ++ strOfNums [hexI (e : Int)] = strOfNums [hexI (d : Int), hexI (e : Int)]) := Lib.hid (str_app _ _)
      have HS2 : Hid (sOth ++ strOfNums (hxK l j) ++ strOfNums [hexI (d : Int), hexI (e : Int)] = sOth ++ strOfNums (hxK l (j + 1))) := Lib.hid (by rw [HP.out, ← str_app, ByteArray.append_assoc])
      have hz1 : (strOfNums [hexI (d : Int)]).size = 1 := strOfNums_size _
      have hz2 : (strOfNums [hexI (e : Int)]).size = 1 := strOfNums_size _
      have hz3 : (sOth ++ strOfNums (hxK l j)).size ≤ 22 := by rw [ByteArray.size_append]; show 6 + (strOfNums (hxK l j)).size ≤ 22; omega
      generalize hA : sOth ++ strOfNums (hxK l j) = sa at *
      have HSA := Lib.hid hA
      clear hA
      generalize hB : strOfNums [hexI (d : Int)] = sd at *
      generalize hC : strOfNums [hexI (e : Int)] = se at *
      clear hB hC
      have hz4 : ¬ 9223372036854775807 < sd.size + se.size := by omega
      have hz5 : ¬ 9223372036854775807 < sa.size + (sd.size + se.size) := by omega
      have hz6 : ¬ 9223372036854775807 < sa.size + (sd ++ se).size := by rw [ByteArray.size_append]; omega
      clear hlen hlen2 hz1 hz2 hz3 HP
      go_wp2
      refine wp_region_held_drew (S := fun w' => Blk w' w.heap.size 52 (u8s l).toArray) (by kernel_rfl) (HCm.out) (fun hS => ?_)
      refine wpAnyH_take (i := 0) (oi := ⟨some 77, _, _, _, _, _⟩) (v := ?_) rfl (by kernel_rfl) (by kernel_rfl) (by kernel_rfl) (fun _ _ _ h => h) (Or.inl ⟨by rfl, ?_⟩) hS ?_
      rotate_left
      · intro wq hq
        first | (go_simp; done) | (go_simp; rfl)
      try simp only [Act.put, List.setIfInBounds_toArray, List.set_cons_zero, List.set_cons_succ]
      refine wpAnyH_take (i := 1) (oi := ⟨some 78, _, _, _, _, _⟩) (v := ?_) rfl (by kernel_rfl) (by kernel_rfl) (by kernel_rfl) (fun _ _ _ h => h) (Or.inl ⟨by rfl, ?_⟩) hS ?_
      rotate_left
      · intro wq hq
        first | (go_simp; done) | (go_simp; rfl)
      try simp only [Act.put, List.setIfInBounds_toArray, List.set_cons_zero, List.set_cons_succ]
      refine wpAnyH_take (i := 2) (oi := ⟨some 79, _, _, _, _, _⟩) (v := ?_) rfl (by kernel_rfl) (by kernel_rfl) (by kernel_rfl) (fun _ _ _ h => h) (Or.inl ⟨by rfl, ?_⟩) hS ?_
      rotate_left
      · intro wq hq
        first | (go_simp; done) | (go_simp; rfl)
      try simp only [Act.put, List.setIfInBounds_toArray, List.set_cons_zero, List.set_cons_succ]
      refine wpAnyH_take (i := 3) (oi := ⟨some 80, _, _, _, _, _⟩) (v := ?_) rfl (by kernel_rfl) (by kernel_rfl) (by kernel_rfl) (fun _ _ _ h => h) (Or.inl ⟨by rfl, ?_⟩) hS ?_
      rotate_left
      · intro wq hq
        have hc := HCC.out wq hq
        first | (go_simp; done) | (go_simp; rfl)
      try simp only [Act.put, List.setIfInBounds_toArray, List.set_cons_zero, List.set_cons_succ]
      refine wpAnyH_take (i := 4) (oi := ⟨some 81, _, _, _, _, _⟩) (v := ?_) rfl (by kernel_rfl) (by kernel_rfl) (by kernel_rfl) (fun _ _ _ h => h) (Or.inl ⟨by rfl, ?_⟩) hS ?_
      rotate_left
      · intro wq hq
        first | (go_simp; done) | (go_simp; rfl)
      try simp only [Act.put, List.setIfInBounds_toArray, List.set_cons_zero, List.set_cons_succ]
      refine wpAnyH_take (i := 5) (oi := ⟨some 82, _, _, _, _, _⟩) (v := ?_) rfl (by kernel_rfl) (by kernel_rfl) (by kernel_rfl) (fun _ _ _ h => h) (Or.inl ⟨by rfl, ?_⟩) hS ?_
      rotate_left
      · intro wq hq
        first | (go_simp; done) | (go_simp; rfl)
      try simp only [Act.put, List.setIfInBounds_toArray, List.set_cons_zero, List.set_cons_succ]
      refine wpAnyH_take (i := 6) (oi := ⟨some 83, _, _, _, _, _⟩) (v := ?_) rfl (by kernel_rfl) (by kernel_rfl) (by kernel_rfl) (fun _ _ _ h => h) (Or.inl ⟨by rfl, ?_⟩) hS ?_
      rotate_left
      · intro wq hq
        first | (go_simp; done) | (go_simp; rfl)
      try simp only [Act.put, List.setIfInBounds_toArray, List.set_cons_zero, List.set_cons_succ]
      refine wpAnyH_take (i := 7) (oi := ⟨some 84, _, _, _, _, _⟩) (v := ?_) rfl (by kernel_rfl) (by kernel_rfl) (by kernel_rfl) (fun _ _ _ h => h) (Or.inl ⟨by rfl, ?_⟩) hS ?_
      rotate_left
      · intro wq hq
        have hc := HCC.out wq hq
        first | (go_simp; done) | (go_simp; rfl)
      try simp only [Act.put, List.setIfInBounds_toArray, List.set_cons_zero, List.set_cons_succ]
      refine wpAnyH_take (i := 8) (oi := ⟨some 85, _, _, _, _, _⟩) (v := ?_) rfl (by kernel_rfl) (by kernel_rfl) (by kernel_rfl) (fun _ _ _ h => h) (Or.inl ⟨by rfl, ?_⟩) hS ?_
      rotate_left
      · intro wq hq
        first | (go_simp; done) | (go_simp; rfl)
      try simp only [Act.put, List.setIfInBounds_toArray, List.set_cons_zero, List.set_cons_succ]
      refine wpAnyH_take (i := 9) (oi := ⟨some 86, _, _, _, _, _⟩) (v := ?_) rfl (by kernel_rfl) (by kernel_rfl) (by kernel_rfl) (fun _ _ _ h => h) (Or.inl ⟨by rfl, ?_⟩) hS ?_
      rotate_left
      · intro wq hq
        first | (go_simp; done) | (go_simp; rfl)
      try simp only [Act.put, List.setIfInBounds_toArray, List.set_cons_zero, List.set_cons_succ]
      refine wpAnyH_take (i := 10) (oi := ⟨some 87, _, _, _, _, _⟩) (v := ?_) rfl (by kernel_rfl) (by kernel_rfl) (by kernel_rfl) (fun _ _ _ h => h) (Or.inl ⟨by rfl, ?_⟩) hS ?_
      rotate_left
      · intro wq hq
        first | (go_simp; done) | (go_simp; rfl)
      try simp only [Act.put, List.setIfInBounds_toArray, List.set_cons_zero, List.set_cons_succ]
      refine wpAnyH_take (i := 11) (oi := ⟨some 88, _, _, _, _, _⟩) (v := ?_) rfl (by kernel_rfl) (by kernel_rfl) (by kernel_rfl) (fun _ _ _ h => h) (Or.inl ⟨by rfl, ?_⟩) hS ?_
      rotate_left
      · intro wq hq
        first | (go_simp; done) | (go_simp; rfl)
      try simp only [Act.put, List.setIfInBounds_toArray, List.set_cons_zero, List.set_cons_succ]
      refine wpAnyH_take (i := 12) (oi := ⟨some 89, _, _, _, _, _⟩) (v := ?_) rfl (by kernel_rfl) (by kernel_rfl) (by kernel_rfl) (fun _ _ _ h => h) (Or.inl ⟨by rfl, ?_⟩) hS ?_
      rotate_left
      · intro wq hq
        first | (go_simp; done) | (go_simp; rfl)
      try simp only [Act.put, List.setIfInBounds_toArray, List.set_cons_zero, List.set_cons_succ]
      refine wpAnyH_take (i := 13) (oi := ⟨some 90, _, _, _, _, _⟩) (v := ?_) rfl (by kernel_rfl) (by kernel_rfl) (by kernel_rfl) (fun _ _ _ h => h) (Or.inl ⟨by rfl, ?_⟩) hS ?_
      rotate_left
      · intro wq hq
        have hc := HCC.out wq hq
        first | (go_simp; done) | (go_simp; rfl)
      try simp only [Act.put, List.setIfInBounds_toArray, List.set_cons_zero, List.set_cons_succ]
      refine wpAnyH_take (i := 14) (oi := ⟨some 91, _, _, _, _, _⟩) (v := ?_) rfl (by kernel_rfl) (by kernel_rfl) (by kernel_rfl) (fun _ _ _ h => h) (Or.inl ⟨by rfl, ?_⟩) hS ?_
      rotate_left
      · intro wq hq
        first | (go_simp; done) | (go_simp; rfl)
      try simp only [Act.put, List.setIfInBounds_toArray, List.set_cons_zero, List.set_cons_succ]
      refine wpAnyH_take (i := 15) (oi := ⟨some 92, _, _, _, _, _⟩) (v := ?_) rfl (by kernel_rfl) (by kernel_rfl) (by kernel_rfl) (fun _ _ _ h => h) (Or.inl ⟨by rfl, ?_⟩) hS ?_
      rotate_left
      · intro wq hq
        first | (go_simp; done) | (go_simp; rfl)
      try simp only [Act.put, List.setIfInBounds_toArray, List.set_cons_zero, List.set_cons_succ]
      refine wpAnyH_take (i := 16) (oi := ⟨some 93, _, _, _, _, _⟩) (v := ?_) rfl (by kernel_rfl) (by kernel_rfl) (by kernel_rfl) (fun _ _ _ h => h) (Or.inl ⟨by rfl, ?_⟩) hS ?_
      rotate_left
      · intro wq hq
        first | (go_simp; done) | (go_simp; rfl)
      try simp only [Act.put, List.setIfInBounds_toArray, List.set_cons_zero, List.set_cons_succ]
      refine wpAnyH_take (i := 17) (oi := ⟨some 94, _, _, _, _, _⟩) (v := ?_) rfl (by kernel_rfl) (by kernel_rfl) (by kernel_rfl) (fun _ _ _ h => h) (Or.inl ⟨by rfl, ?_⟩) hS ?_
      rotate_left
      · intro wq hq
        have hc := HCC.out wq hq
        first | (go_simp; done) | (go_simp; rfl)
      try simp only [Act.put, List.setIfInBounds_toArray, List.set_cons_zero, List.set_cons_succ]
      refine wpAnyH_take (i := 18) (oi := ⟨some 95, _, _, _, _, _⟩) (v := ?_) rfl (by kernel_rfl) (by kernel_rfl) (by kernel_rfl) (fun _ _ _ h => h) (Or.inl ⟨by rfl, ?_⟩) hS ?_
      rotate_left
      · intro wq hq
        first | (go_simp; done) | (go_simp; rfl)
      try simp only [Act.put, List.setIfInBounds_toArray, List.set_cons_zero, List.set_cons_succ]
      refine wpAnyH_take (i := 19) (oi := ⟨some 96, _, _, _, _, _⟩) (v := ?_) rfl (by kernel_rfl) (by kernel_rfl) (by kernel_rfl) (fun _ _ _ h => h) (Or.inl ⟨by rfl, ?_⟩) hS ?_
      rotate_left
      · intro wq hq
        first | (go_simp; done) | (go_simp; rfl)
      try simp only [Act.put, List.setIfInBounds_toArray, List.set_cons_zero, List.set_cons_succ]
      refine wpAnyH_take (i := 20) (oi := ⟨some 97, _, _, _, _, _⟩) (v := ?_) rfl (by kernel_rfl) (by kernel_rfl) (by kernel_rfl) (fun _ _ _ h => h) (Or.inl ⟨by rfl, ?_⟩) hS ?_
      rotate_left
      · intro wq hq
        first | (go_simp; done) | (go_simp; rfl)
      try simp only [Act.put, List.setIfInBounds_toArray, List.set_cons_zero, List.set_cons_succ]
      refine wpAnyH_take (i := 21) (oi := ⟨some 98, _, _, _, _, _⟩) (v := ?_) rfl (by kernel_rfl) (by kernel_rfl) (by kernel_rfl) (fun _ _ _ h => h) (Or.inl ⟨by rfl, ?_⟩) hS ?_
      rotate_left
      · intro wq hq
        first | (go_simp; done) | (go_simp; rfl)
      try simp only [Act.put, List.setIfInBounds_toArray, List.set_cons_zero, List.set_cons_succ]
      refine wpAnyH_take (i := 22) (oi := ⟨some 99, _, _, _, _, _⟩) (v := ?_) rfl (by kernel_rfl) (by kernel_rfl) (by kernel_rfl) (fun _ _ _ h => h) (Or.inl ⟨by rfl, ?_⟩) hS ?_
      rotate_left
      · intro wq hq
        first | (go_simp; done) | (go_simp; rfl)
      try simp only [Act.put, List.setIfInBounds_toArray, List.set_cons_zero, List.set_cons_succ]
      refine wpAnyH_take (i := 23) (oi := ⟨some 6, _, _, _, _, _⟩) (v := ?_) rfl (by kernel_rfl) (by kernel_rfl) (by kernel_rfl) (fun _ _ _ h => h) (Or.inl ⟨by rfl, ?_⟩) hS ?_
      rotate_left
      · intro wq hq
        first | (go_simp; done) | (go_simp; rfl)
      try simp only [Act.put, List.setIfInBounds_toArray, List.set_cons_zero, List.set_cons_succ]
      refine wpAnyH_done (by kernel_rfl) ?_ _
      clear hS
      go_wp2
      exact ⟨⟨j + 1, by omega, by go_num, by rw [HS1.out, HS2.out], HCm.out, below_drewN HLw.out 1⟩, by simp [intOf]; omega⟩
    · obtain rfl : j = 8 := by omega
      generalize hA : sOth ++ strOfNums (hxK l 8) = sa at *
      have HSA := Lib.hid hA
      clear hA
      go_wp2
      go_ret
      exact ⟨by rw [HSA.out]; rfl, HLw.out⟩
theorem rtx_is (w : World) (E : Env w) (l : List Int) (hl : l.length = 8) (ho : Oct l) :
    Calls Tryd.prog 53 #[.agg (u8s l).toArray] w fun e w' => e = .returned (.string (txt l)) ∧ Below w.heap.size w w' := by
  have ok := rdF_ok l hl ho
  unfold txt
  rcases (show (rdF l).kind = 1 ∨ (rdF l).kind = 2 ∨ (rdF l).kind = 3 ∨ (rdF l).kind = 4 ∨ (rdF l).kind = 5 ∨ (rdF l).kind = 6 ∨ ((rdF l).kind ≠ 1 ∧ (rdF l).kind ≠ 2 ∧ (rdF l).kind ≠ 3 ∧ (rdF l).kind ≠ 4 ∧ (rdF l).kind ≠ 5 ∧ (rdF l).kind ≠ 6) by omega) with h | h | h | h | h | h | h
  · rcases (show (rdF l).form = 1 ∨ (rdF l).form = 2 ∨ ((rdF l).form ≠ 1 ∧ (rdF l).form ≠ 2) by omega) with g | g | g
    · exact rtx_1_1 w E l hl ho _ rfl ok h g
    · exact rtx_1_2 w E l hl ho _ rfl ok h g
    · exact rtx_1_0 w E l hl ho _ rfl ok h g
  · exact rtx_2 w E l hl ho _ rfl ok h
  · exact rtx_3 w E l hl ho _ rfl ok h
  · exact rtx_4 w E l hl ho _ rfl ok h
  · exact rtx_5 w E l hl ho _ rfl ok h
  · exact rtx_6 w E l hl ho _ rfl ok h
  · exact rtx_0 w E l hl ho _ rfl ok h
end Go.Proofs.YtkaimdcepnhkdaaDoor
