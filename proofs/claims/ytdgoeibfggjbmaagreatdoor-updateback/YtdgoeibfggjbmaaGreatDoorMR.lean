/-
  Put together: AuE AdB AuF AuG.
-/
import Derived.Test.YtdgoeibfggjbmaaGreatDoorMZ
import Derived.Test.YtdgoeibfggjbmaaGreatDoorMV
namespace Go.Proofs.YtdgoeibfggjbmaaGreatDoor
open Go.RowKit
set_option maxRecDepth 100000
set_option linter.unusedSimpArgs false
set_option linter.unusedVariables false

set_option maxHeartbeats 1000000 in
theorem numbers_is (w : World) (A A2 : Option Addr) (n c c2 : Nat) (l : List Int) (h : RdN w w.heap.size A n l) (h2 : RdN w w.heap.size A2 n l) (hn : n ≤ 35184372088000) :
    Calls Tryz.prog 87 #[.slice A n c, .slice A2 n c2] w fun e w' => e = .returned (.bool true) ∧ ∃ k, w' = w.drewN k := by
  have H := Lib.hid h
  have H2 := Lib.hid h2
  have e1 : ((n : Int) != (n : Int)) = false := by simp
  clear h h2
  go_enter Tryz.func87, Tryz.ntmps87
  go_wp2
  go_loopw [5, 13] (fun _ i wr => ∃ k : Nat, k ≤ n ∧ i = .int .i64 k ∧ ∃ j, wr = w.drewN j) (fun _ i _ => n - (intOf i).toNat)
  case atStart => exact ⟨0, by omega, rfl, 0, rfl⟩
  case round =>
    obtain ⟨k, hk, rfl, hj⟩ := hrel
    have HJ := Lib.hid hj
    by_cases hlt : k < n
    · obtain ⟨b, off, rfl, _, hc⟩ := H.out.at_ (by omega)
      obtain ⟨b2, off2, rfl, _, hc2⟩ := H2.out.at_ (by omega)
      have x0 : wr.cell? ⟨b, off + k, none⟩ = some (.int .u32 (l.getD k 0)) := by obtain ⟨j, rfl⟩ := hj; exact hc k hlt
      have y0 : wr.cell? ⟨b2, off2 + k, none⟩ = some (.int .u32 (l.getD k 0)) := by obtain ⟨j, rfl⟩ := hj; exact hc2 k hlt
      clear hj hc hc2
      have hkI : (k : Int) < (n : Int) := by omega
      generalize l.getD k 0 = x at *
      have e2 : (x != x) = false := by simp
      go_wp2
      go_quiet (fail)
      go_wp2
      exact ⟨⟨k + 1, by omega, by go_num, by obtain ⟨j, rfl⟩ := HJ.out; exact ⟨j + nq, by rw [World.drewN_drewN]⟩⟩, by simp [intOf]; omega⟩
    · obtain rfl : n = k := by omega
      clear hj
      go_wp2
      go_ret
      exact ⟨rfl, HJ.out⟩
end Go.Proofs.YtdgoeibfggjbmaaGreatDoor
namespace Go.Proofs.YtdgoeibfggjbmaaGreatDoor
open Go.RowKit
set_option maxRecDepth 100000
set_option linter.unusedSimpArgs false
set_option linter.unusedVariables false

theorem ip_lits (v : Bool) (l : List Int) (hl : l.length = 16) (ho : Oct l) : Tryz.prog.keyLits 3 27 (ipc v l) = some (.bool v :: l.map (Lit.int .u8)) := by
  have h := keyLits_u8s (P := Tryz.prog) 0 (t := 25) (e := 5) (n := 16) Tryz.underlying25 Tryz.underlying5 (by kernel_rfl) (by kernel_rfl) l hl ho
  have hc1 : Tryz.prog.cellsOf 27 = 17 := by kernel_rfl
  have hc2 : Tryz.prog.cellsOf 25 = 16 := by kernel_rfl
  have hc3 : Tryz.prog.cellsOf 4 = 1 := by kernel_rfl
  unfold Program.keyLits
  rw [Tryz.underlying27]
  have hb : Tryz.prog.keyLits 2 4 [Value.bool v] = some [Lit.bool v] := by
    unfold Program.keyLits
    rw [Tryz.underlying4]
  have ht : (u8s l).take 16 = u8s l := List.take_of_length_le (by simp [hl])
  simp [hc1, hc2, hc3, hl, hb, ht, h]
theorem ip_formed (v : Bool) (l : List Int) (hl : l.length = 16) : (Value.agg (ipc v l).toArray).formed Tryz.prog 27 = true := by
  have hc1 : Tryz.prog.cellsOf 27 = 17 := by kernel_rfl
  simp [Value.formed, Tryz.underlying27, hc1, hl]
theorem lits_inj {a b : List Int} (h : a.map (Lit.int .u8) = b.map (Lit.int .u8)) : a = b := by
  have := congrArg (List.map fun v : Lit => match v with | .int _ n => n | _ => 0) h
  simpa [List.map_map, Function.comp_def] using this
theorem ip_eql (v v' : Bool) (l l' : List Int) (hl : l.length = 16) (hl' : l'.length = 16) (ho : Oct l) (ho' : Oct l') (b : Bool) (hb : decide (v = v' ∧ l = l') = b) (w : World) :
    (binOp .eql 27 (.agg (ipc v l).toArray) (.agg (ipc v' l').toArray)).run Tryz.prog w = .ok (.bool b) w := by
  refine run_eql_key 3 3 3 (by kernel_rfl) (by omega) _ _ _ _ (ip_formed v l hl) (ip_formed v' l' hl') (ip_lits v l hl ho) (ip_lits v' l' hl' ho') b ?_ w
  subst hb
  simp only [decide_eq_true_eq, List.cons.injEq, Lit.bool.injEq]
  exact ⟨fun h => ⟨h.1, by rw [h.2]⟩, fun h => ⟨h.1, lits_inj h.2⟩⟩
theorem ip_neq (v v' : Bool) (l l' : List Int) (hl : l.length = 16) (hl' : l'.length = 16) (ho : Oct l) (ho' : Oct l') (b : Bool) (hb : (!decide (v = v' ∧ l = l')) = b) (w : World) :
    (binOp .neq 27 (.agg (ipc v l).toArray) (.agg (ipc v' l').toArray)).run Tryz.prog w = .ok (.bool b) w := by
  subst hb
  refine run_neq_key 3 3 3 (by kernel_rfl) (by omega) _ _ _ _ (ip_formed v l hl) (ip_formed v' l' hl') (ip_lits v l hl ho) (ip_lits v' l' hl' ho') _ ?_ w
  simp only [decide_eq_true_eq, List.cons.injEq, Lit.bool.injEq]
  exact ⟨fun h => ⟨h.1, by rw [h.2]⟩, fun h => ⟨h.1, lits_inj h.2⟩⟩

set_option maxHeartbeats 400000 in
theorem right_six (w : World) (l : List Int) (hl : l.length = 16) :
    Calls Tryz.prog 89 #[.agg (ipc true l).toArray] w fun e w' => e = .returned (.bool true) ∧ Below w.heap.size w w' := by
  go_enter Tryz.func89, Tryz.ntmps89
  go_wp2
  go_region_with (fail)
  all_goals
    go_wp2
    go_ret
    exact ⟨rfl, below_drewN ((Below.refl _ _).alloc (Nat.le_refl _) _) 1⟩

theorem ipc_get (v : Bool) (xs ys : List Int) (y : Int) (k : Nat) (hk : xs.length = k) : (ipc v (xs ++ y :: ys)).toArray[1 + k]? = some (.int .u8 y) := by
  subst hk
  rw [Nat.add_comm]
  simp [u8s]
theorem ipc_set (v : Bool) (xs ys : List Int) (y z : Int) (k : Nat) (hk : xs.length = k) : (ipc v (xs ++ y :: ys)).toArray.setIfInBounds (1 + k) (.int .u8 z) = (ipc v (xs ++ z :: ys)).toArray := by
  subst hk
  rw [Nat.add_comm]
  simp [u8s, List.set_append]

theorem num4_bd (l : List Int) (hl : l.length = 16) (ho : Oct l) : 0 ≤ numOf (l.take 4) ∧ numOf (l.take 4) < 4294967296 := by
  have hb := numOf_bd (l.take 4) (fun x hx => ho x (List.mem_of_mem_take hx))
  rw [show (l.take 4).length = 4 by simp; omega] at hb
  exact ⟨hb.1, by omega⟩

theorem ip_size (v : Bool) (l : List Int) (hl : l.length = 16) : (Tryz.prog.info? 27).map (·.size) = some (ipc v l).length := by
  have : (Tryz.prog.info? 27).map (·.size) = some 17 := by kernel_rfl
  rw [this]; simp [hl]

set_option maxHeartbeats 1000000 in
theorem right_four (w : World) (l : List Int) (hl : l.length = 16) (ho : Oct l) :
    Calls Tryz.prog 89 #[.agg (ipc false l).toArray] w fun e w' => e = .returned (.bool (rightB false l)) ∧ Below w.heap.size w w' := by
  have HN := Lib.hid (num4_bd l hl ho)
  have he : ∀ W, (binOp .eql 27 (.agg (ipc false l).toArray) (.agg (ipc false (four (numOf (l.take 4)))).toArray)).run Tryz.prog W = .ok (.bool (rightB false l)) W :=
    ip_eql false false l _ hl (four_len _) ho (four_oct _ HN.out.1 HN.out.2) _ (by simp only [true_and, rightB, Bool.false_or]; rw [Bool.eq_iff_iff]; simp only [decide_eq_true_eq]; exact four_num l hl ho)
  have HL := Lib.hid hl
  have HO := Lib.hid ho
  clear hl ho
  generalize rightB false l = r at *
  go_enter Tryz.func89, Tryz.ntmps89
  go_wp2
  refine wp_region_held_drew (S := fun w' => w'.rangeAt w.heap.size 0 (ipc false l)) (by kernel_rfl) (range_drewN (range_new w 27 (ipc false l)) 1) (fun hS => ?_)
  refine wpAnyH_take (i := 0) (oi := ⟨some 3, _, _, _, _, _⟩) (v := ?_) rfl (by kernel_rfl) (by kernel_rfl) (by kernel_rfl) (fun _ _ _ h => h) (Or.inl ⟨by rfl, ?_⟩) hS ?_
  rotate_left
  · intro wq hq
    first | (go_simp; done) | (go_simp; rfl)
  try simp only [Act.put, zP, zQ, zR]
  refine wpAnyH_take (i := 1) (oi := ⟨some 4, _, _, _, _, _⟩) (v := ?_) rfl (by kernel_rfl) (by kernel_rfl) (by kernel_rfl) (fun _ _ _ h => h) (Or.inl ⟨by rfl, ?_⟩) hS ?_
  rotate_left
  · intro wq hq
    have hc := hq 0 _ rfl
    first | (go_simp; done) | (go_simp; rfl)
  try simp only [Act.put, zP, zQ, zR]
  refine wpAnyH_take (i := 2) (oi := ⟨some 5, _, _, _, _, _⟩) (v := ?_) rfl (by kernel_rfl) (by kernel_rfl) (by kernel_rfl) (fun _ _ _ h => h) (Or.inl ⟨by rfl, ?_⟩) hS ?_
  rotate_left
  · intro wq hq
    first | (go_simp; done) | (go_simp; rfl)
  try simp only [Act.put, zP, zQ, zR]
  refine wpAnyH_take (i := 3) (oi := ⟨some 6, _, _, _, _, _⟩) rfl (by kernel_rfl) (by kernel_rfl) (by kernel_rfl) (fun _ _ _ h => h) (yieldsIf_load_mid (by rfl) 27 _ rfl _ _ rfl (ipc false l) _ (fun wq hq => hq) Tryz.underlying27 rfl (ip_size false l HL.out)) hS ?_
  try simp only [Act.put, zP, zQ, zR]
  refine wpAnyH_take (i := 4) (oi := ⟨some 7, _, _, _, _, _⟩) rfl (by kernel_rfl) (by kernel_rfl) (by kernel_rfl) (fun _ _ _ h => h) (yieldsIf_load_mid (by rfl) 27 _ rfl _ _ rfl (ipc false l) _ (fun wq hq => hq) Tryz.underlying27 rfl (ip_size false l HL.out)) hS ?_
  try simp only [Act.put, zP, zQ, zR]
  refine wpAnyH_ready (rs := [5]) (by kernel_rfl) (by simp) ?_
  refine AllReadyH.cons (o := ⟨some 8, _, _, _, _, _⟩) rfl (fun K hK => ?_) AllReadyH.nil
  rw [if_pos (by rfl)]
  go_wp2_with fail
  refine (first4_is _ false l HL.out HO.out).mono ?_
  rintro e w1 ⟨rfl, hB⟩
  have hS1 := range_below hS hB (by simp)
  have HB := Lib.hid hB
  clear hB
  refine hK.out _ _ (hS1) (fun hS => ?_)
  clear hK K
  try simp only [Act.put, zP, zQ, zR]
  refine wpAnyH_ready (rs := [6]) (by kernel_rfl) (by simp) ?_
  refine AllReadyH.cons (o := ⟨some 9, _, _, _, _, _⟩) rfl (fun K hK => ?_) AllReadyH.nil
  rw [if_pos (by rfl)]
  go_wp2_with fail
  refine (four_is _ _ HN.out.1 HN.out.2).mono ?_
  rintro e w2 ⟨rfl, hB2⟩
  have hS2 := range_below hS hB2 (by have := HB.out.size; simp at this; omega)
  have HB2 := Lib.hid hB2
  clear hB2
  refine hK.out _ _ (hS2) (fun hS => ?_)
  clear hK K
  try simp only [Act.put, zP, zQ, zR]
  refine wpAnyH_take (i := 7) (oi := ⟨some 10, _, _, _, _, _⟩) (v := ?_) rfl (by kernel_rfl) (by kernel_rfl) (by kernel_rfl) (fun _ _ _ h => h) (Or.inl ⟨by rfl, ?_⟩) hS ?_
  rotate_left
  · intro wq hq
    first | (go_simp; done) | (go_simp; rfl)
  try simp only [Act.put, zP, zQ, zR]
  refine wpAnyH_take (i := 8) (oi := ⟨some 11, _, _, _, _, _⟩) (v := ?_) rfl (by kernel_rfl) (by kernel_rfl) (by kernel_rfl) (fun _ _ _ h => h) (Or.inl ⟨by rfl, ?_⟩) hS ?_
  rotate_left
  · intro wq hq
    first | (go_simp; done) | (go_simp; rfl)
  try simp only [Act.put, zP, zQ, zR]
  refine wpAnyH_take (i := 9) (oi := ⟨some 2, _, _, _, _, _⟩) (v := ?_) rfl (by kernel_rfl) (by kernel_rfl) (by kernel_rfl) (fun _ _ _ h => h) (Or.inl ⟨by rfl, ?_⟩) hS ?_
  rotate_left
  · intro wq hq
    first | (go_simp; done) | (go_simp; rfl)
  try simp only [Act.put, zP, zQ, zR]
  refine wpAnyH_done (by kernel_rfl) ?_ _
  go_wp2
  go_ret
  refine ⟨rfl, ?_⟩
  have h1 : Below w.heap.size w w1 := (below_drewN ((Below.refl w.heap.size w).alloc (Nat.le_refl _) _) 1).trans (HB.out.mono (by simp))
  exact h1.trans (HB2.out.mono h1.size)

theorem right_is (w : World) (v : Bool) (l : List Int) (hl : l.length = 16) (ho : Oct l) :
    Calls Tryz.prog 89 #[.agg (ipc v l).toArray] w fun e w' => e = .returned (.bool (rightB v l)) ∧ Below w.heap.size w w' := by
  cases v with
  | true => exact right_six w l hl
  | false => exact right_four w l hl ho
end Go.Proofs.YtdgoeibfggjbmaaGreatDoor
namespace Go.Proofs.YtdgoeibfggjbmaaGreatDoor
open Go.RowKit
set_option maxRecDepth 100000
set_option linter.unusedSimpArgs false
set_option linter.unusedVariables false

structure PmOk (p : Pm) : Prop where
  k0 : 0 ≤ p.kind
  k1 : p.kind < 256
  l0 : 0 ≤ p.label
  l1 : p.label < 4294967296
  len : p.ip.length = 16
  oct : Oct p.ip
structure AtOk (a : Att) : Prop where
  pm : PmOk a.pm
  path : a.path.length ≤ 35184372088000
  clus : a.clus.length ≤ 35184372088000
  comms : a.comms.length ≤ 35184372088000
theorem lit_int5 (d : Nat) (n : Int) (h : (Lit.int .i64 n).wf = true) : Tryz.prog.keyLits (d + 1) 3 [Value.int .i64 n] = some [Lit.int .i64 n] := by
  unfold Program.keyLits
  rw [Tryz.underlying3]
  simp [h]
theorem lit_u325 (d : Nat) (n : Int) (h : (Lit.int .u32 n).wf = true) : Tryz.prog.keyLits (d + 1) 23 [Value.int .u32 n] = some [Lit.int .u32 n] := by
  unfold Program.keyLits
  rw [Tryz.underlying23]
  simp [h]
theorem pm_lits (p : Pm) (ok : PmOk p) : Tryz.prog.keyLits 4 29 (pmc p) = some (.int .i64 p.kind :: .int .u32 p.label :: .bool p.v6 :: p.ip.map (Lit.int .u8)) := by
  have h := ip_lits p.v6 p.ip ok.len ok.oct
  have hc1 : Tryz.prog.cellsOf 29 = 19 := by kernel_rfl
  have hc2 : Tryz.prog.cellsOf 27 = 17 := by kernel_rfl
  have hc4 : Tryz.prog.cellsOf 3 = 1 := by kernel_rfl
  have hc5 : Tryz.prog.cellsOf 23 = 1 := by kernel_rfl
  have l1 := lit_int5 2 p.kind (by have := ok.k0; have := ok.k1; simp [Lit.wf, IntKind.min, IntKind.max, IntKind.signed, IntKind.bits]; omega)
  have l2 := lit_u325 2 p.label (by have := ok.l0; have := ok.l1; simp [Lit.wf, IntKind.min, IntKind.max, IntKind.signed, IntKind.bits]; omega)
  unfold Program.keyLits
  rw [Tryz.underlying29]
  have ht : (ipc p.v6 p.ip).take 17 = ipc p.v6 p.ip := List.take_of_length_le (by simp [ok.len])
  simp only [ipc] at h ht
  simp [pmc, hc1, hc2, hc4, hc5, ok.len, l1, l2, ht, h]
theorem pm_eq (p : Pm) (ok : PmOk p) (w : World) : (binOp .eql 29 (.agg (pmc p).toArray) (.agg (pmc p).toArray)).run Tryz.prog w = .ok (.bool true) w := by
  have hc1 : Tryz.prog.cellsOf 29 = 19 := by kernel_rfl
  have hfm : (Value.agg (pmc p).toArray).formed Tryz.prog 29 = true := by simp [Value.formed, Tryz.underlying29, hc1, pmc_len p ok.len]
  exact run_eql_key 4 4 4 (by kernel_rfl) (by omega) _ _ _ _ hfm hfm (by simpa using pm_lits p ok) (by simpa using pm_lits p ok) true (by simp) w
theorem comm_in5 (l : List Int) (hl : l.length = 8) (ho : Oct l) (w : World) : (Op.equalIn 10000 138 (.agg (u8s l).toArray) (.agg (u8s l).toArray)).run Tryz.prog w = .ok true w := by
  have hct : Tryz.prog.cellsOf 138 = 8 := by kernel_rfl
  have hf : (Value.agg (u8s l).toArray).formed Tryz.prog 138 = true := by simp [Value.formed, Tryz.underlying138, hct, hl]
  have hL := keyLits_u8s (P := Tryz.prog) 0 (t := 138) (e := 5) (n := 8) Tryz.underlying138 Tryz.underlying5 (by kernel_rfl) (by kernel_rfl) l hl ho
  obtain ⟨r, hr, hiff⟩ := run_equalIn_deep (10000 - 2) 2 138 (by kernel_rfl) w 2 2 (.agg (u8s l).toArray) (.agg (u8s l).toArray) _ _ hf hf (by simpa [Value.cells] using hL) (by simpa [Value.cells] using hL)
  rw [show 10000 - 2 + 2 = 10000 by omega] at hr
  rw [hr, hiff.2 rfl]
structure RdAt (w : World) (B : Nat) (cs : List Value) (a : Att) : Prop where
  ex : ∃ Ap cp Ac cc Am cm, cs = attV a (.slice Ap a.path.length cp) (.slice Ac a.clus.length cc) (.slice Am a.comms.length cm) ∧ RdN w B Ap a.path.length a.path ∧ RdN w B Ac a.clus.length a.clus ∧ RdC w B Am a.comms.length a.comms
theorem IsAt.rdAt {lo : Nat} {w : World} {cs : List Value} {a : Att} (h : IsAt lo w cs a) : RdAt w w.heap.size cs a := by
  obtain ⟨vp, vc, vm, rfl, h1, h2, h3⟩ := h.ex
  obtain ⟨Ap, cp, rfl, _, r1⟩ := h1.rd
  obtain ⟨Ac, cc, rfl, _, r2⟩ := h2.rd
  obtain ⟨Am, cm, rfl, _, r3⟩ := h3.rd
  exact ⟨Ap, cp, Ac, cc, Am, cm, rfl, r1, r2, r3⟩
theorem RdAt.below {w w' : World} {B : Nat} {cs : List Value} {a : Att} (h : RdAt w B cs a) (hb : Below B w w') : RdAt w' B cs a := by
  obtain ⟨Ap, cp, Ac, cc, Am, cm, e, h1, h2, h3⟩ := h.ex
  exact ⟨Ap, cp, Ac, cc, Am, cm, e, h1.below hb, h2.below hb, h3.below hb⟩
theorem RdAt.more {w : World} {B B' : Nat} {cs : List Value} {a : Att} (h : RdAt w B cs a) (hb : B ≤ B') : RdAt w B' cs a := by
  obtain ⟨Ap, cp, Ac, cc, Am, cm, e, h1, h2, h3⟩ := h.ex
  exact ⟨Ap, cp, Ac, cc, Am, cm, e, h1.more hb, h2.more hb, h3.more hb⟩
theorem att_cells {w : World} {g : Nat} {a : Att} {vp vc vm : Value} (h : Blk w g 31 (attV a vp vc vm).toArray) :
    w.cell? ⟨g, 0, none⟩ = some (.int .i64 a.origin) ∧ w.cell? ⟨g, 1, none⟩ = some vp ∧ w.cell? ⟨g, 2, none⟩ = some (.bool a.hasMed) ∧ w.cell? ⟨g, 3, none⟩ = some (.int .u32 a.med) ∧ w.cell? ⟨g, 4, none⟩ = some (.int .u32 a.pref) ∧ w.cell? ⟨g, 5, none⟩ = some (.int .u32 a.orr) ∧ w.cell? ⟨g, 6, none⟩ = some vc ∧ w.cell? ⟨g, 7, none⟩ = some vm :=
  ⟨h.cell 0, h.cell 1, h.cell 2, h.cell 3, h.cell 4, h.cell 5, h.cell 6, h.cell 7⟩
theorem att_pm {w : World} {g : Nat} {a : Att} {vp vc vm : Value} (h : Blk w g 31 (attV a vp vc vm).toArray) : w.rangeAt g 8 (pmc a.pm) :=
  range_post (cs := [.int .i64 a.origin, vp, .bool a.hasMed, .int .u32 a.med, .int .u32 a.pref, .int .u32 a.orr, vc, vm]) (ds := pmc a.pm) (o := 0) (Blk.range h)

set_option maxHeartbeats 4000000 in
theorem sameA_is (w : World) (cs ds : List Value) (a : Att) (h : RdAt w w.heap.size cs a) (h2 : RdAt w w.heap.size ds a) (ok : AtOk a) :
    Calls Tryz.prog 45 #[.agg cs.toArray, .agg ds.toArray] w fun e w' => e = .returned (.bool true) ∧ Below w.heap.size w w' := by
  obtain ⟨Ap, cp, Ac, cc, Am, cm, rfl, p1, p2, p3⟩ := h.ex
  obtain ⟨Aq, cq, Ad, cd, An, cn, rfl, q1, q2, q3⟩ := h2.ex
  have hpl := ok.path
  have hcl := ok.clus
  have hml := ok.comms
  have hpe := pm_eq a.pm ok.pm
  have HPl := Lib.hid ok.pm.len
  obtain ⟨ca, hca⟩ : ∃ x, x = (attV a (.slice Ap a.path.length cp) (.slice Ac a.clus.length cc) (.slice Am a.comms.length cm)) := ⟨_, rfl⟩
  obtain ⟨da, hda⟩ : ∃ x, x = (attV a (.slice Aq a.path.length cq) (.slice Ad a.clus.length cd) (.slice An a.comms.length cn)) := ⟨_, rfl⟩
  rw [← hca, ← hda]
  have hB0 : Below w.heap.size w ((w.alloc (.cells ca.toArray 31)).alloc (.cells da.toArray 31)) := ((Below.refl _ _).alloc (Nat.le_refl _) _).alloc (by simp) _
  have b1 : Blk ((w.alloc (.cells ca.toArray 31)).alloc (.cells da.toArray 31)) w.heap.size 31 ca.toArray := (Blk.new w 31 ca.toArray).alloc _
  have b2 : Blk ((w.alloc (.cells ca.toArray 31)).alloc (.cells da.toArray 31)) (w.heap.size + 1) 31 da.toArray := by have := Blk.new (w.alloc (.cells ca.toArray 31)) 31 da.toArray; simpa using this
  have b3 : Blk ((w.alloc (.cells ca.toArray 31)).alloc (.cells da.toArray 31)) w.heap.size 31 (attV a (.slice Ap a.path.length cp) (.slice Ac a.clus.length cc) (.slice Am a.comms.length cm)).toArray := by rw [← hca]; exact b1
  have b4 : Blk ((w.alloc (.cells ca.toArray 31)).alloc (.cells da.toArray 31)) (w.heap.size + 1) 31 (attV a (.slice Aq a.path.length cq) (.slice Ad a.clus.length cd) (.slice An a.comms.length cn)).toArray := by rw [← hda]; exact b2
  have HC : Hid (∀ j, _ ∧ _) := Lib.hid fun (j : Nat) => And.intro (att_cells (w := (((w.alloc (.cells ca.toArray 31)).alloc (.cells da.toArray 31))).drewN j) b3) (att_cells (w := (((w.alloc (.cells ca.toArray 31)).alloc (.cells da.toArray 31))).drewN j) b4)
  have HPm : Hid (∀ j, _ ∧ _) := Lib.hid fun (j : Nat) => And.intro (att_pm (w := (((w.alloc (.cells ca.toArray 31)).alloc (.cells da.toArray 31))).drewN j) b3) (att_pm (w := (((w.alloc (.cells ca.toArray 31)).alloc (.cells da.toArray 31))).drewN j) b4)
  have HB0 := Lib.hid hB0
  have hz : w.heap.size ≤ ((w.alloc (.cells ca.toArray 31)).alloc (.cells da.toArray 31)).heap.size := hB0.size
  have P1 := Lib.hid ((p1.below hB0).more hz)
  have P2 := Lib.hid ((p2.below hB0).more hz)
  have P3 := Lib.hid ((p3.below hB0).more hz)
  have Q1 := Lib.hid ((q1.below hB0).more hz)
  have Q2 := Lib.hid ((q2.below hB0).more hz)
  have Q3 := Lib.hid ((q3.below hB0).more hz)
  clear h h2 p1 p2 p3 q1 q2 q3 ok hB0 b1 b2 b3 b4 hca hda hz
  have e0 : ((a.comms.length : Int) != (a.comms.length : Int)) = false := by simp
  have e1 : (a.origin == a.origin) = true := by simp
  have e2 : (a.hasMed == a.hasMed) = true := by simp
  have e3 : (a.med == a.med) = true := by simp
  have e4 : (a.pref == a.pref) = true := by simp
  have e5 : (a.orr == a.orr) = true := by simp
  go_enter Tryz.func45, Tryz.ntmps45
  obtain ⟨⟨x0, x1, x2, x3, x4, x5, x6, x7⟩, y0, y1, y2, y3, y4, y5, y6, y7⟩ := HC.out 0
  rw [World.drewN_zero] at x0 x1 x2 x3 x4 x5 x6 x7 y0 y1 y2 y3 y4 y5 y6 y7
  go_wp2
  clear x0 x1 x2 x3 x4 x5 x6 x7 y0 y1 y2 y3 y4 y5 y6 y7
  generalize ((w.alloc (.cells ca.toArray 31)).alloc (.cells da.toArray 31)) = w0 at *
  go_loopw [5, 16] (fun _ i wr => ∃ k : Nat, k ≤ a.comms.length ∧ i = .int .i64 k ∧ ∃ j, wr = w0.drewN j) (fun _ i _ => a.comms.length - (intOf i).toNat)
  case atStart => exact ⟨0, by omega, rfl, 0, rfl⟩
  case round =>
    obtain ⟨k, hk, rfl, hj⟩ := hrel
    have HJ := Lib.hid hj
    obtain ⟨j, rfl⟩ := hj
    by_cases hlt : k < a.comms.length
    · obtain ⟨b, off, hAm, _, hc⟩ := P3.out.at_ (by omega)
      obtain ⟨b2, off2, hAn, _, hc2⟩ := Q3.out.at_ (by omega)
      have ok8 := P3.out.ok.at_ k hlt
      have hx7 := (HC.out (j + 1)).1.2.2.2.2.2.2.2
      have hy7 := (HC.out (j + 1)).2.2.2.2.2.2.2.2
      have hr1 := hc k hlt
      have hr2 := hc2 k hlt
      rw [hAm] at hx7
      rw [hAn] at hy7
      have HS0 : Hid ((w0.drewN j).drew.cell? ⟨w.heap.size, 7, none⟩ = some (.slice (some ⟨b, off, none⟩) a.comms.length cm) ∧ (w0.drewN j).drew.cell? ⟨w.heap.size + 1, 7, none⟩ = some (.slice (some ⟨b2, off2, none⟩) a.comms.length cn) ∧ (w0.drewN j).drew.rangeAt b (off + k * 8) (u8s a.comms[k]) ∧ (w0.drewN j).drew.rangeAt b2 (off2 + k * 8) (u8s a.comms[k])) := Lib.hid ⟨hx7, hy7, hr1, hr2⟩
      have HNe := Lib.hid (comm_in5 a.comms[k] ok8.1 ok8.2)
      have H8 := Lib.hid ok8.1
      have hkI : (k : Int) < (a.comms.length : Int) := by omega
      clear hc hc2 hx7 hy7 hr1 hr2 ok8 hAm hAn
      generalize a.comms[k] = x at *
      have HSz : Hid ((Tryz.prog.info? 138).map (·.size) = some (u8s x).length) := Lib.hid (by rw [comm_size]; simp [H8.out])
      go_wp2
      refine wp_region_held_drew (S := fun W => W.cell? ⟨w.heap.size, 7, none⟩ = some (.slice (some ⟨b, off, none⟩) a.comms.length cm) ∧ W.cell? ⟨w.heap.size + 1, 7, none⟩ = some (.slice (some ⟨b2, off2, none⟩) a.comms.length cn) ∧ W.rangeAt b (off + k * 8) (u8s x) ∧ W.rangeAt b2 (off2 + k * 8) (u8s x)) (by kernel_rfl) (HS0.out) (fun hS => ?_)
      refine wpAnyH_take (i := 0) (oi := ⟨some 19, _, _, _, _, _⟩) (v := ?_) rfl (by kernel_rfl) (by kernel_rfl) (by kernel_rfl) (fun _ _ _ h => h) (Or.inl ⟨by rfl, ?_⟩) hS ?_
      rotate_left
      · intro wq hq
        first | (go_simp; done) | (go_simp; rfl)
      try simp only [Act.put, zP, zQ, zR]
      refine wpAnyH_take (i := 1) (oi := ⟨some 20, _, _, _, _, _⟩) (v := ?_) rfl (by kernel_rfl) (by kernel_rfl) (by kernel_rfl) (fun _ _ _ h => h) (Or.inl ⟨by rfl, ?_⟩) hS ?_
      rotate_left
      · intro wq hq
        have d1 := hq.1
        first | (go_simp; done) | (go_simp; rfl)
      try simp only [Act.put, zP, zQ, zR]
      refine wpAnyH_take (i := 2) (oi := ⟨some 21, _, _, _, _, _⟩) (v := ?_) rfl (by kernel_rfl) (by kernel_rfl) (by kernel_rfl) (fun _ _ _ h => h) (Or.inl ⟨by rfl, ?_⟩) hS ?_
      rotate_left
      · intro wq hq
        first | (go_simp; done) | (go_simp; rfl)
      try simp only [Act.put, zP, zQ, zR]
      refine wpAnyH_take (i := 3) (oi := ⟨some 22, _, _, _, _, _⟩) (v := ?_) rfl (by kernel_rfl) (by kernel_rfl) (by kernel_rfl) (fun _ _ _ h => h) (Or.inl ⟨by rfl, ?_⟩) hS ?_
      rotate_left
      · intro wq hq
        first | (go_simp; done) | (go_simp; rfl)
      try simp only [Act.put, zP, zQ, zR]
      refine wpAnyH_take (i := 4) (oi := ⟨some 23, _, _, _, _, _⟩) rfl (by kernel_rfl) (by kernel_rfl) (by kernel_rfl) (fun _ _ _ h => h) (yieldsIf_load_mid (by rfl) 138 _ rfl _ _ rfl (u8s x) _ (fun wq hq => hq.2.2.1) Tryz.underlying138 rfl (HSz.out)) hS ?_
      try simp only [Act.put, zP, zQ, zR]
      refine wpAnyH_take (i := 5) (oi := ⟨some 24, _, _, _, _, _⟩) (v := ?_) rfl (by kernel_rfl) (by kernel_rfl) (by kernel_rfl) (fun _ _ _ h => h) (Or.inl ⟨by rfl, ?_⟩) hS ?_
      rotate_left
      · intro wq hq
        first | (go_simp; done) | (go_simp; rfl)
      try simp only [Act.put, zP, zQ, zR]
      refine wpAnyH_take (i := 6) (oi := ⟨some 25, _, _, _, _, _⟩) (v := ?_) rfl (by kernel_rfl) (by kernel_rfl) (by kernel_rfl) (fun _ _ _ h => h) (Or.inl ⟨by rfl, ?_⟩) hS ?_
      rotate_left
      · intro wq hq
        have d2 := hq.2.1
        first | (go_simp; done) | (go_simp; rfl)
      try simp only [Act.put, zP, zQ, zR]
      refine wpAnyH_take (i := 7) (oi := ⟨some 26, _, _, _, _, _⟩) (v := ?_) rfl (by kernel_rfl) (by kernel_rfl) (by kernel_rfl) (fun _ _ _ h => h) (Or.inl ⟨by rfl, ?_⟩) hS ?_
      rotate_left
      · intro wq hq
        first | (go_simp; done) | (go_simp; rfl)
      try simp only [Act.put, zP, zQ, zR]
      refine wpAnyH_take (i := 8) (oi := ⟨some 27, _, _, _, _, _⟩) (v := ?_) rfl (by kernel_rfl) (by kernel_rfl) (by kernel_rfl) (fun _ _ _ h => h) (Or.inl ⟨by rfl, ?_⟩) hS ?_
      rotate_left
      · intro wq hq
        first | (go_simp; done) | (go_simp; rfl)
      try simp only [Act.put, zP, zQ, zR]
      refine wpAnyH_take (i := 9) (oi := ⟨some 28, _, _, _, _, _⟩) rfl (by kernel_rfl) (by kernel_rfl) (by kernel_rfl) (fun _ _ _ h => h) (yieldsIf_load_mid (by rfl) 138 _ rfl _ _ rfl (u8s x) _ (fun wq hq => hq.2.2.2) Tryz.underlying138 rfl (HSz.out)) hS ?_
      try simp only [Act.put, zP, zQ, zR]
      refine wpAnyH_take (i := 10) (oi := ⟨some 29, _, _, _, _, _⟩) (v := ?_) rfl (by kernel_rfl) (by kernel_rfl) (by kernel_rfl) (fun _ _ _ h => h) (Or.inl ⟨by rfl, ?_⟩) hS ?_
      rotate_left
      · intro wq hq
        have d3 := HNe.out wq
        first | (go_simp; done) | (go_simp; rfl)
      try simp only [Act.put, zP, zQ, zR]
      refine wpAnyH_done (by kernel_rfl) ?_ _
      clear hS HS0
      go_wp2
      exact ⟨⟨k + 1, by omega, by go_num, j + 1, rfl⟩, by simp [intOf]; omega⟩
    · obtain rfl : a.comms.length = k := by omega
      obtain ⟨⟨x0, x1, x2, x3, x4, x5, x6, x7⟩, y0, y1, y2, y3, y4, y5, y6, y7⟩ := HC.out j
      have HN1 := Lib.hid (numbers_is (w0.drewN j) Ap Aq a.path.length cp cq a.path (P1.out.below (below_drewN (Below.refl _ _) j)) (Q1.out.below (below_drewN (Below.refl _ _) j)) hpl)
      go_wp2_with fail
      refine HN1.out.mono ?_
      rintro e w' ⟨rfl, k1, rfl⟩
      rw [World.drewN_drewN]
      clear x0 x1 x2 x3 x4 x5 x6 x7 y0 y1 y2 y3 y4 y5 y6 y7 HN1
      obtain ⟨⟨x0, x1, x2, x3, x4, x5, x6, x7⟩, y0, y1, y2, y3, y4, y5, y6, y7⟩ := HC.out (j + k1)
      have HN2 := Lib.hid (numbers_is (w0.drewN (j + k1)) Ac Ad a.clus.length cc cd a.clus (P2.out.below (below_drewN (Below.refl _ _) _)) (Q2.out.below (below_drewN (Below.refl _ _) _)) hcl)
      go_wp2_with fail
      refine HN2.out.mono ?_
      rintro e w' ⟨rfl, k2, rfl⟩
      rw [World.drewN_drewN]
      clear x0 x1 x2 x3 x4 x5 x6 x7 y0 y1 y2 y3 y4 y5 y6 y7 HN2
      obtain ⟨r1, r2⟩ := HPm.out (j + k1 + k2)
      have R1 := Lib.hid r1
      have R2 := Lib.hid r2
      clear r1 r2
      go_wp2_with (first
        | (refine pm_fetch (op := ⟨_, .load 29 (.tmp 79), _, _, _, _⟩) rfl _ rfl w.heap.size 8 a.pm HPl.out rfl R1.out ?_)
        | (refine pm_fetch (op := ⟨_, .load 29 (.tmp 81), _, _, _, _⟩) rfl _ rfl (w.heap.size + 1) 8 a.pm HPl.out rfl R2.out ?_))
      go_ret
      exact ⟨rfl, below_drewN HB0.out _⟩
end Go.Proofs.YtdgoeibfggjbmaaGreatDoor
namespace Go.Proofs.YtdgoeibfggjbmaaGreatDoor
open Go.RowKit
set_option maxRecDepth 100000
set_option linter.unusedSimpArgs false
set_option linter.unusedVariables false

end Go.Proofs.YtdgoeibfggjbmaaGreatDoor
