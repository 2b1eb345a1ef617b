/-
  Put together: AwE AwF AwG AwH.
-/
import Derived.Test.YtdgoeibfggjbmaaGreatDoorMA
import Derived.Test.YtdgoeibfggjbmaaGreatDoorMR
import Derived.Great.BuildSlice
namespace Go.Proofs.YtdgoeibfggjbmaaGreatDoor
open Go.RowKit
set_option maxRecDepth 100000
set_option linter.unusedSimpArgs false
set_option linter.unusedVariables false

def MadePost (w : World) (f k : Int) (l : List Int) (e : Ending) (w' : World) : Prop :=
  ∃ A c, e = .returned (.agg #[.int .i64 (lfl f l), .int .i64 k, .slice A l.length c]) ∧ BodyT 67 w.heap.size w' A l.length l ∧ Below w.heap.size w w'
structure MdS (w W : World) (b : Nat) (k f cl : Int) : Prop where
  low : Below w.heap.size w W
  res : Blk W w.heap.size 67 #[.int .i64 0, .int .i64 0, .slice none 0 0]
  bd : Blk W b 217 #[.int .i64 k, .int .i64 f, .int .i64 cl]
theorem MdS.step {w W W' : World} {b : Nat} {k f cl : Int} (h : MdS w W b k f cl) (hB : Below W.heap.size W W') : MdS w W' b k f cl := ⟨h.low.trans (hB.mono h.low.size), h.res.below hB h.res.lt, h.bd.below hB h.bd.lt⟩
structure MdC (w W : World) (s : Value) (f k : Int) (l : List Int) : Prop where
  ex : ∃ q A c, s = .pointer (some ⟨q, 0, none⟩) ∧ Blk W q 67 #[.int .i64 f, .int .i64 k, .slice A l.length c] ∧ BodyT 67 w.heap.size W A l.length l ∧ w.heap.size < q
  res : Blk W w.heap.size 67 #[.int .i64 0, .int .i64 0, .slice none 0 0]
  low : Below w.heap.size w W
theorem BodyT.row {lo : Nat} {w : World} {A : Option Addr} {n : Nat} {l : List Int} {q : Nat} {cs cs' : Array Value} (h : BodyT 67 lo w A n l) (hq : Blk w q 67 cs) : BodyT 67 lo (w.setRow q cs') A n l :=
  h.keep fun i c t hi _ ht => setRow_other w q i _ (row_ne hi hq ht)
theorem BodyT.cellr {lo : Nat} {w : World} {A : Option Addr} {n : Nat} {l : List Int} {q o : Nat} {cs : Array Value} {u : Value} (h : BodyT 67 lo w A n l) (hq : Blk w q 67 cs) : BodyT 67 lo (w.setCell ⟨q, o, none⟩ u) A n l :=
  h.keep fun i c t hi _ ht => Below.heap_setCell w ⟨q, o, none⟩ u i (row_ne hi hq ht)

theorem Blk.setRow_other5 {w : World} {g g' : Nat} {t : TypeId} {cs : Array Value} (h : Blk w g t cs) (hne : g ≠ g') (cs' : Array Value) : Blk (w.setRow g' cs') g t cs := (setRow_other w g' g _ hne).trans h
set_option maxHeartbeats 4000000 in
theorem made_is (w : World) (E : EnvK w) (k f cl : Int) (hb : bnd k = some (f, cl)) (hf : f = 64 ∨ f = 128 ∨ f = 192) (A : Option Addr) (n c : Nat) (ls : List (List Int)) (hr : RdL w w.heap.size A n ls) (hn : n ≤ 1000000) (hfl : ls.flatten.length ≤ 100000000) :
    Calls Tryz.prog 143 #[.int .i64 k, .slice A n c] w (MadePost w f k ls.flatten) := by
  have HBd : Hid (bndV k = .tuple #[.agg #[.int .i64 k, .int .i64 f, .int .i64 cl], .bool true]) := Lib.hid (by unfold bndV; rw [hb])
  have hal : Below w.heap.size w (w.alloc (.cells #[.int .i64 0, .int .i64 0, .slice none 0 0] 67)) := (Below.refl _ _).alloc (Nat.le_refl _) _
  have HB0 := Lib.hid hal
  have HE0 := Lib.hid (E.below hal)
  have HR0 := Lib.hid (Blk.new w 67 #[.int .i64 0, .int .i64 0, .slice none 0 0])
  have HL := Lib.hid hr
  have HOr : Hid (bits .or .i64 f 16 = f + 16) := Lib.hid (by rcases hf with rfl | rfl | rfl <;> decide)
  have HCh := Lib.hid (fun W (h : RdL W W.heap.size A n ls) => chain_is W A n c ls h hn hfl)
  generalize ls.flatten = l at *
  clear hb hal E hr hf hfl
  go_enter Tryz.func143, Tryz.ntmps143
  go_wp2_with fail
  refine (boundsOf_is _ HE0.out k).mono ?_
  rw [HBd.out]
  generalize hw0 : w.alloc (.cells #[.int .i64 0, .int .i64 0, .slice none 0 0] 67) = w0 at *
  have hs0 : w.heap.size < w0.heap.size := by rw [← hw0]; simp
  clear hw0
  rintro e w1 ⟨rfl, hB1⟩
  have hBw1 := HB0.out.trans (hB1.mono (Nat.le_of_lt hs0))
  have hs1 : w.heap.size < w1.heap.size := Nat.lt_of_lt_of_le hs0 hB1.size
  have hal2 : Below w1.heap.size w1 (w1.alloc (.cells #[.int .i64 k, .int .i64 f, .int .i64 cl] 217)) := (Below.refl _ _).alloc (Nat.le_refl _) _
  have HS1 : Hid (MdS w ((w1.alloc (.cells #[.int .i64 k, .int .i64 f, .int .i64 cl] 217)).drew) w1.heap.size k f cl) := Lib.hid (MdS.step ⟨hBw1.trans (hal2.mono hBw1.size), (HR0.out.below hB1 hs0).alloc _, Blk.new w1 217 _⟩ (below_drewN (Below.refl _ _) 1))
  have HS1n := Lib.hid hs1
  clear hB1 hBw1 hal2 HB0 HE0 HR0 HBd hs0
  go_wp2_with fail
  generalize (w1.alloc (.cells #[.int .i64 k, .int .i64 f, .int .i64 cl] 217)) = w2 at *
  generalize w1.heap.size = b at *
  go_cut [7] (fun s7 wx => MdC w wx s7 f k l)
  case first =>
    refine wp_region_held_drew (S := fun W => MdS w W b k f cl) (by kernel_rfl) (HS1.out) (fun hS => ?_)
    refine wpAnyH_take (i := 0) (oi := ⟨some 13, _, _, _, _, _⟩) (v := ?_) rfl (by kernel_rfl) (by kernel_rfl) (by kernel_rfl) (fun _ _ _ h => h) (Or.inl ⟨by rfl, ?_⟩) hS ?_
    rotate_left
    · intro wq hq
      first | (go_simp; done) | (go_simp; rfl)
    try simp only [Act.put, zP, zQ, zR]
    refine wpAnyH_take (i := 1) (oi := ⟨some 14, _, _, _, _, _⟩) (v := ?_) rfl (by kernel_rfl) (by kernel_rfl) (by kernel_rfl) (fun _ _ _ h => h) (Or.inl ⟨by rfl, ?_⟩) hS ?_
    rotate_left
    · intro wq hq
      have hc : wq.cell? ⟨b, 1, none⟩ = some (.int .i64 f) := hq.bd.cell 1
      first | (go_simp; done) | (go_simp; rfl)
    try simp only [Act.put, zP, zQ, zR]
    refine wpAnyH_take (i := 2) (oi := ⟨some 15, _, _, _, _, _⟩) (v := ?_) rfl (by kernel_rfl) (by kernel_rfl) (by kernel_rfl) (fun _ _ _ h => h) (Or.inl ⟨by rfl, ?_⟩) hS ?_
    rotate_left
    · intro wq hq
      first | (go_simp; done) | (go_simp; rfl)
    try simp only [Act.put, zP, zQ, zR]
    refine wpAnyH_take (i := 3) (oi := ⟨some 16, _, _, _, _, _⟩) (v := ?_) rfl (by kernel_rfl) (by kernel_rfl) (by kernel_rfl) (fun _ _ _ h => h) (Or.inl ⟨by rfl, ?_⟩) hS ?_
    rotate_left
    · intro wq hq
      first | (go_simp; done) | (go_simp; rfl)
    try simp only [Act.put, zP, zQ, zR]
    generalize w2.drew = W1 at *
    have hL1 := (HL.out.below hS.low).more hS.low.size
    refine wpAnyH_ready (rs := [4, 6]) (by kernel_rfl) (by simp) ?_
    refine AllReadyH.cons (o := ⟨some 17, _, _, _, _, _⟩) rfl (fun K hK => ?_) (AllReadyH.cons (o := ⟨some 7, _, _, _, _, _⟩) rfl (fun K hK => ?_) AllReadyH.nil)
    · rw [if_pos (by rfl)]
      go_wp2_with fail
      refine (HCh.out W1 hL1).mono ?_
      rintro e W2 ⟨v, rfl, ho, hB⟩
      obtain ⟨A2, c2, rfl, hbd⟩ := ho.bodyT (T0 := 67) (by decide)
      have hS2 := hS.step hB
      have hbd2 := hbd.low hS.low.size
      clear ho hbd hB hL1 hS
      refine hK.out _ _ (hS2) (fun hS => ?_)
      clear hK K
      try simp only [Act.put, zP, zQ, zR]
      clear hS2
      refine wpAnyH_take (i := 5) (oi := ⟨some 18, _, _, _, _, _⟩) (v := ?_) rfl (by kernel_rfl) (by kernel_rfl) (by kernel_rfl) (fun _ _ _ h => h) (Or.inl ⟨by rfl, ?_⟩) hS ?_
      rotate_left
      · intro wq hq
        first | (go_simp; done) | (go_simp; rfl)
      try simp only [Act.put, zP, zQ, zR]
      refine wpAnyH_ready (rs := [6]) (by kernel_rfl) (by simp) ?_
      refine AllReadyH.cons (o := ⟨some 7, _, _, _, _, _⟩) rfl (fun K hK => ?_) AllReadyH.nil
      rw [if_pos (by rfl)]
      go_wp2
      have hq1 := Blk.new W2 67 #[.int .i64 0, .int .i64 0, .slice none 0 0]
      have hal : Below W2.heap.size W2 (W2.alloc (.cells #[.int .i64 0, .int .i64 0, .slice none 0 0] 67)) := (Below.refl _ _).alloc (Nat.le_refl _) _
      have hS3 := hS.step hal
      have hbd3 := hbd2.below hal
      have hlt : w.heap.size < W2.heap.size := hS.res.lt
      have hbl : b < W2.heap.size := hS.bd.lt
      clear hal hS hbd2
      refine hK.out _ _ (hS3) (fun hS => ?_)
      clear hK K
      try simp only [Act.put, zP, zQ, zR]
      clear hS3
      refine wpAnyH_ready (rs := [7]) (by kernel_rfl) (by simp) ?_
      refine AllReadyH.cons (o := ⟨none, _, _, _, _, _⟩) rfl (fun K hK => ?_) AllReadyH.nil
      rw [if_pos (by rfl)]
      refine wp_store_row 67 _ _ rfl W2.heap.size #[.int .i64 f, .int .i64 k, .slice A2 l.length c2] rfl rfl 67 _ hq1 rsz rfl (by kernel_rfl) ?_
      have hr2 := Blk.setRow hq1 #[.int .i64 f, .int .i64 k, .slice A2 l.length c2]
      have hbd4 := hbd3.row hq1 (cs' := #[.int .i64 f, .int .i64 k, .slice A2 l.length c2])
      have hres := Blk.setRow_other5 hS.res (g' := W2.heap.size) (by omega) #[.int .i64 f, .int .i64 k, .slice A2 l.length c2]
      have hlow := hS.low.trans (below_setRow (W2.alloc (.cells #[.int .i64 0, .int .i64 0, .slice none 0 0] 67)) W2.heap.size #[.int .i64 f, .int .i64 k, .slice A2 l.length c2] (B := w.heap.size) (by omega))
      have hbb := Blk.setRow_other5 hS.bd (g' := W2.heap.size) (by omega) #[.int .i64 f, .int .i64 k, .slice A2 l.length c2]
      refine hK.out _ _ ⟨hlow, hres, hbb⟩ (fun hS => ?_)
      clear hK K
      try simp only [Act.put, zP, zQ, zR]
      refine wpAnyH_done (by kernel_rfl) ?_ _
      go_wp2_with fail
      go_meet
      exact ⟨⟨_, _, _, rfl, hr2, hbd4, by omega⟩, hres, hlow⟩
    · rw [if_pos (by rfl)]
      go_wp2
      have hq1 := Blk.new W1 67 #[.int .i64 0, .int .i64 0, .slice none 0 0]
      have hal : Below W1.heap.size W1 (W1.alloc (.cells #[.int .i64 0, .int .i64 0, .slice none 0 0] 67)) := (Below.refl _ _).alloc (Nat.le_refl _) _
      have hS3 := hS.step hal
      have hL2 := (hL1.below hal).more hal.size
      have hlt : w.heap.size < W1.heap.size := hS.res.lt
      have hbl : b < W1.heap.size := hS.bd.lt
      clear hal hS hL1
      refine hK.out _ _ (hS3) (fun hS => ?_)
      clear hK K
      try simp only [Act.put, zP, zQ, zR]
      clear hS3
      generalize (W1.alloc (.cells #[.int .i64 0, .int .i64 0, .slice none 0 0] 67)) = W2 at *
      refine wpAnyH_ready (rs := [4]) (by kernel_rfl) (by simp) ?_
      refine AllReadyH.cons (o := ⟨some 17, _, _, _, _, _⟩) rfl (fun K hK => ?_) AllReadyH.nil
      rw [if_pos (by rfl)]
      go_wp2_with fail
      refine (HCh.out W2 hL2).mono ?_
      rintro e W3 ⟨v, rfl, ho, hB⟩
      obtain ⟨A2, c2, rfl, hbd⟩ := ho.bodyT (T0 := 67) (by decide)
      have hS2 := hS.step hB
      have hbd3 := hbd.low hS.low.size
      have hq3 := hq1.below hB hq1.lt
      clear ho hbd hB hL2 hS hq1
      refine hK.out _ _ (hS2) (fun hS => ?_)
      clear hK K
      try simp only [Act.put, zP, zQ, zR]
      clear hS2
      refine wpAnyH_take (i := 5) (oi := ⟨some 18, _, _, _, _, _⟩) (v := ?_) rfl (by kernel_rfl) (by kernel_rfl) (by kernel_rfl) (fun _ _ _ h => h) (Or.inl ⟨by rfl, ?_⟩) hS ?_
      rotate_left
      · intro wq hq
        first | (go_simp; done) | (go_simp; rfl)
      try simp only [Act.put, zP, zQ, zR]
      refine wpAnyH_ready (rs := [7]) (by kernel_rfl) (by simp) ?_
      refine AllReadyH.cons (o := ⟨none, _, _, _, _, _⟩) rfl (fun K hK => ?_) AllReadyH.nil
      rw [if_pos (by rfl)]
      refine wp_store_row 67 _ _ rfl W1.heap.size #[.int .i64 f, .int .i64 k, .slice A2 l.length c2] rfl rfl 67 _ hq3 rsz rfl (by kernel_rfl) ?_
      have hr2 := Blk.setRow hq3 #[.int .i64 f, .int .i64 k, .slice A2 l.length c2]
      have hbd4 := hbd3.row hq3 (cs' := #[.int .i64 f, .int .i64 k, .slice A2 l.length c2])
      have hres := Blk.setRow_other5 hS.res (g' := W1.heap.size) (by omega) #[.int .i64 f, .int .i64 k, .slice A2 l.length c2]
      have hlow := hS.low.trans (below_setRow W3 W1.heap.size #[.int .i64 f, .int .i64 k, .slice A2 l.length c2] (B := w.heap.size) (by omega))
      have hbb := Blk.setRow_other5 hS.bd (g' := W1.heap.size) (by omega) #[.int .i64 f, .int .i64 k, .slice A2 l.length c2]
      refine hK.out _ _ ⟨hlow, hres, hbb⟩ (fun hS => ?_)
      clear hK K
      try simp only [Act.put, zP, zQ, zR]
      refine wpAnyH_done (by kernel_rfl) ?_ _
      go_wp2_with fail
      go_meet
      exact ⟨⟨_, _, _, rfl, hr2, hbd4, by omega⟩, hres, hlow⟩
  case rest =>
    obtain ⟨⟨q, A2, c2, rfl, hq, hbd, hlt⟩, hres, hlow⟩ := hcut
    have q0 : wc.cell? ⟨q, 0, none⟩ = some (.int .i64 f) := hq.cell 0
    have q1 : wc.cell? ⟨q, 1, none⟩ = some (.int .i64 k) := hq.cell 1
    have q2 : wc.cell? ⟨q, 2, none⟩ = some (.slice A2 l.length c2) := hq.cell 2
    have f0 := hq.frozen 0
    by_cases h255 : 255 < l.length
    · have hi : (l.length : Int) > 255 := by omega
      have HLf : Hid (lfl f l = f + 16) := Lib.hid (by unfold lfl; rw [if_pos h255])
      have hq2 := hq.set_ 0 (.int .i64 (f + 16))
      have hsc : (#[Value.int .i64 f, .int .i64 k, .slice A2 l.length c2]).setIfInBounds 0 (.int .i64 (f + 16)) = #[Value.int .i64 (f + 16), .int .i64 k, .slice A2 l.length c2] := rfl
      rw [hsc] at hq2
      have HW : Hid (Blk (wc.setCell ⟨q, 0, none⟩ (.int .i64 (f + 16))) w.heap.size 67 #[.int .i64 0, .int .i64 0, .slice none 0 0]) := Lib.hid (hres.far (p := ⟨q, 0, none⟩) (by show w.heap.size ≠ q; omega) _)
      have HBd2 := Lib.hid (((hbd.cellr (o := 0) (u := .int .i64 (f + 16)) hq)).row HW.out (cs' := #[.int .i64 (f + 16), .int .i64 k, .slice A2 l.length c2]))
      have HLow := Lib.hid ((hlow.setCell (p := ⟨q, 0, none⟩) (by show w.heap.size ≤ q; omega) (.int .i64 (f + 16))).trans (below_setRow _ w.heap.size #[.int .i64 (f + 16), .int .i64 k, .slice A2 l.length c2] (Nat.le_refl _)))
      have HQ2 := Lib.hid hq2
      have hor := HOr.out
      clear hq2 hsc hq hbd hres hlow h255
      go_wp2_with (first
        | (refine raw_fetch rfl _ rfl q 0 (f + 16) k A2 l.length c2 rfl (HQ2.out.cell 0) (HQ2.out.cell 1) (HQ2.out.cell 2) ?_)
        | (refine raw_store rfl _ _ rfl w.heap.size (f + 16) k A2 l.length c2 rfl rfl 67 _ HW.out rfl ?_))
      try simp only [Exit.inBlock, Exit.then]
      refine bodyPost_ret (results_cell_row rfl _ _ w.heap.size 67 _ (0, 0) _ rfl (Blk.setRow HW.out _) Tryz.underlying67 rfl rsz) rfl ?_
      exact ⟨A2, c2, by rw [HLf.out], HBd2.out, HLow.out⟩
    · have hi : ¬ (l.length : Int) > 255 := by omega
      have HLf : Hid (lfl f l = f) := Lib.hid (by unfold lfl; rw [if_neg h255])
      have HBd2 := Lib.hid (hbd.row hres (cs' := #[.int .i64 f, .int .i64 k, .slice A2 l.length c2]))
      have HLow := Lib.hid (hlow.trans (below_setRow wc w.heap.size #[.int .i64 f, .int .i64 k, .slice A2 l.length c2] (Nat.le_refl _)))
      have HW := Lib.hid hres
      have HQ := Lib.hid hq
      clear hq hbd hres hlow h255
      go_wp2_with (first
        | (refine raw_fetch rfl _ rfl q 0 f k A2 l.length c2 rfl (HQ.out.cell 0) (HQ.out.cell 1) (HQ.out.cell 2) ?_)
        | (refine raw_store rfl _ _ rfl w.heap.size f k A2 l.length c2 rfl rfl 67 _ HW.out rfl ?_))
      try simp only [Exit.inBlock, Exit.then]
      refine bodyPost_ret (results_cell_row rfl _ _ w.heap.size 67 _ (0, 0) _ rfl (Blk.setRow HW.out _) Tryz.underlying67 rfl rsz) rfl ?_
      exact ⟨A2, c2, by rw [HLf.out], HBd2.out, HLow.out⟩
end Go.Proofs.YtdgoeibfggjbmaaGreatDoor
namespace Go.Proofs.YtdgoeibfggjbmaaGreatDoor
open Go.RowKit
set_option maxRecDepth 100000
set_option linter.unusedSimpArgs false
set_option linter.unusedVariables false

theorem any_build5 {ops : Array Oper} {rest : List Oper} {o : Oper} {a : Act} {w : World} {Q : Exit → Act → World → Prop} (hgd : Region.wanted o (yielded ops a.tmps) = true) (ty : TypeId) (ho : o.op = .build ty #[]) (cs : List Value) (hb : Tryz.prog.built ty [] = some cs.toArray)
    (h : wpList Tryz.prog ops Q rest (a.put o.dst (.agg cs.toArray)) w) : wpList Tryz.prog ops Q (o :: rest) a w :=
  BigFrame.wpList_want hgd fun _ hK => by
    unfold Oper.wp execOp
    simp only [ho, Sem.run_bind, run_build w _ _ _ (show Tryz.prog.built ty ((#[] : Array (Nat × Operand)).map fun (i, x) => (i, a.eval x)).toList = some cs.toArray by simpa using hb), Result.andThen_ok]
    exact hK _ _ h
theorem built_ip0 : Tryz.prog.built 27 [] = some (ipc false z16).toArray := by kernel_rfl
def BoolPost (w : World) (b : Bool) (e : Ending) (w' : World) : Prop := e = .returned (.bool b) ∧ Below w.heap.size w w'

set_option maxHeartbeats 4000000 in
theorem isRightPmsi_is (w : World) (p : Pm) (hl0 : 0 ≤ p.label) (hl1 : p.label ≤ 4294967295) (hip : p.ip.length = 16) (hoct : Oct p.ip) : Calls Tryz.prog 195 #[.agg (pmc p).toArray] w (BoolPost w (rightPm p)) := by
  have HB0 : Hid (PmS w (w.alloc (.cells (pmc p).toArray 29)) p) := Lib.hid ⟨(Below.refl w.heap.size w).alloc (Nat.le_refl _) _, Blk.new w 29 (pmc p).toArray⟩
  have HIp := Lib.hid hip
  have HK := Lib.hid (fun W => isByte_is W p.kind)
  have HR := Lib.hid (fun W => right_is W p.v6 p.ip hip hoct)
  have HNe : Hid (∀ W, (binOp .neq 27 (.agg (ipc p.v6 p.ip).toArray) (.agg (ipc false z16).toArray)).run Tryz.prog W = .ok (.bool (!decide (p.v6 = false ∧ p.ip = z16))) W) := Lib.hid (fun W => ip_neq p.v6 false p.ip z16 hip z16_len hoct z16_oct _ rfl W)
  have HRt : Hid (rightPm p = (decide (0 ≤ p.kind ∧ p.kind ≤ 255) && (decide (p.label ≤ 16777215) && (rightB p.v6 p.ip && ((decide (p.kind = 6) || decide (p.v6 = false ∧ p.ip = z16)) && (decide (p.kind ≠ 0) || decide (p.label = 0))))))) := Lib.hid (by unfold rightPm; simp only [Bool.decide_and, Bool.and_assoc])
  clear hip hoct
  have c0 : (w.alloc (.cells (pmc p).toArray 29)).cell? ⟨w.heap.size, 0, none⟩ = some (.int .i64 p.kind) := HB0.out.2.cell 0
  have c1 : (w.alloc (.cells (pmc p).toArray 29)).cell? ⟨w.heap.size, 1, none⟩ = some (.int .u32 p.label) := HB0.out.2.cell 1
  cases hkb : decide (0 ≤ p.kind ∧ p.kind ≤ 255)
  · rw [hkb] at HK HRt
    clear hkb
    go_enter Tryz.func195, Tryz.ntmps195
    go_wp2_with fail
    refine (HK.out _).mono ?_
    rintro e w' ⟨rfl, rfl⟩
    go_wp2
    go_ret
    exact ⟨by rw [HRt.out]; rfl, HB0.out.1⟩
  · rw [hkb] at HK HRt
    clear hkb
    by_cases hlab : 16777215 < p.label
    · have e1 : p.label > 16777215 := hlab
      have HF : Hid (rightPm p = false) := Lib.hid (by rw [HRt.out, decide_eq_false (Int.not_le.2 hlab)]; rfl)
      go_enter Tryz.func195, Tryz.ntmps195
      go_wp2_with fail
      refine (HK.out _).mono ?_
      rintro e w' ⟨rfl, rfl⟩
      go_wp2
      go_ret
      exact ⟨by rw [HF.out]; rfl, HB0.out.1⟩
    · have e1 : decide (16777215 < p.label) = false := decide_eq_false hlab
      rw [decide_eq_true (Int.not_lt.1 hlab)] at HRt
      clear hlab
      have HRng : Hid ((w.alloc (.cells (pmc p).toArray 29)).rangeAt w.heap.size 2 (ipc p.v6 p.ip)) := Lib.hid (range_post (cs := [.int .i64 p.kind, .int .u32 p.label]) (ds := ipc p.v6 p.ip) (o := 0) (Blk.range HB0.out.2))
      cases hrb : rightB p.v6 p.ip
      · rw [hrb] at HR HRt
        clear hrb
        go_enter Tryz.func195, Tryz.ntmps195
        go_wp2_with fail
        refine (HK.out _).mono ?_
        rintro e w' ⟨rfl, rfl⟩
        go_wp2_with (refine ip_fetch rfl _ rfl w.heap.size 2 p.v6 p.ip HIp.out rfl HRng.out ?_)
        refine (HR.out _).mono ?_
        rintro e w2 ⟨rfl, hB⟩
        have HS := Lib.hid (HB0.out.step hB)
        clear hB
        go_wp2
        go_ret
        exact ⟨by rw [HRt.out]; rfl, HS.out.1⟩
      · rw [hrb] at HR HRt
        clear hrb
        by_cases h6 : p.kind = 6
        · have HF : Hid (rightPm p = true) := Lib.hid (by rw [HRt.out, h6]; rfl)
          have e6 : (p.kind != 6) = false := by rw [h6]; rfl
          have e0 : (p.kind != 0) = true := by rw [h6]; rfl
          clear h6
          go_enter Tryz.func195, Tryz.ntmps195
          go_wp2_with fail
          refine (HK.out _).mono ?_
          rintro e w' ⟨rfl, rfl⟩
          go_wp2_with (refine ip_fetch rfl _ rfl w.heap.size 2 p.v6 p.ip HIp.out rfl HRng.out ?_)
          refine (HR.out _).mono ?_
          rintro e w2 ⟨rfl, hB⟩
          have hS := HB0.out.step hB
          have d0 : w2.cell? ⟨w.heap.size, 0, none⟩ = some (.int .i64 p.kind) := hS.2.cell 0
          have HS := Lib.hid hS
          clear hB hS c0 c1
          go_wp2
          go_ret
          exact ⟨by rw [HF.out]; rfl, HS.out.1⟩
        · rw [decide_eq_false h6, Bool.false_or] at HRt
          have e6 : (p.kind != 6) = true := by rw [bne_iff_ne]; exact h6
          clear h6
          cases hz : decide (p.v6 = false ∧ p.ip = z16)
          · rw [hz] at HNe HRt
            clear hz
            have hne := HNe.out
            rw [Bool.not_false] at hne
            go_enter Tryz.func195, Tryz.ntmps195
            go_wp2_with fail
            refine (HK.out _).mono ?_
            rintro e w' ⟨rfl, rfl⟩
            go_wp2_with (refine ip_fetch rfl _ rfl w.heap.size 2 p.v6 p.ip HIp.out rfl HRng.out ?_)
            refine (HR.out _).mono ?_
            rintro e w2 ⟨rfl, hB⟩
            have hS := HB0.out.step hB
            have d0 : w2.cell? ⟨w.heap.size, 0, none⟩ = some (.int .i64 p.kind) := hS.2.cell 0
            have HR2 := Lib.hid (range_below HRng.out hB (by simp))
            have HS := Lib.hid hS
            clear hB hS c0 c1
            go_wp2_with (first | (refine ip_fetch rfl _ rfl w.heap.size 2 p.v6 p.ip HIp.out rfl HR2.out ?_) | (refine any_build5 rfl _ rfl (ipc false z16) built_ip0 ?_))
            go_ret
            exact ⟨by rw [HRt.out]; rfl, HS.out.1⟩
          · rw [hz] at HNe HRt
            clear hz
            have hne := HNe.out
            rw [Bool.not_true] at hne
            by_cases h0 : p.kind = 0
            · have e0 : (p.kind != 0) = false := by rw [h0]; rfl
              have HF : Hid (rightPm p = decide (p.label = 0)) := Lib.hid (by rw [HRt.out, decide_eq_false (fun h => h h0)]; simp)
              have HD : Hid ((p.label == 0) = decide (p.label = 0)) := Lib.hid (by rw [Bool.eq_iff_iff]; simp)
              clear h0
              go_enter Tryz.func195, Tryz.ntmps195
              go_wp2_with fail
              refine (HK.out _).mono ?_
              rintro e w' ⟨rfl, rfl⟩
              go_wp2_with (refine ip_fetch rfl _ rfl w.heap.size 2 p.v6 p.ip HIp.out rfl HRng.out ?_)
              refine (HR.out _).mono ?_
              rintro e w2 ⟨rfl, hB⟩
              have hS := HB0.out.step hB
              have d0 : w2.cell? ⟨w.heap.size, 0, none⟩ = some (.int .i64 p.kind) := hS.2.cell 0
              have d1 : w2.cell? ⟨w.heap.size, 1, none⟩ = some (.int .u32 p.label) := hS.2.cell 1
              have HR2 := Lib.hid (range_below HRng.out hB (by simp))
              have HS := Lib.hid hS
              clear hB hS c0 c1
              go_wp2_with (first | (refine ip_fetch rfl _ rfl w.heap.size 2 p.v6 p.ip HIp.out rfl HR2.out ?_) | (refine any_build5 rfl _ rfl (ipc false z16) built_ip0 ?_))
              go_ret
              exact ⟨by rw [HF.out, ← HD.out]; rfl, HS.out.1⟩
            · have e0 : (p.kind != 0) = true := by rw [bne_iff_ne]; exact h0
              have HF : Hid (rightPm p = true) := Lib.hid (by rw [HRt.out, decide_eq_true h0]; simp)
              clear h0
              go_enter Tryz.func195, Tryz.ntmps195
              go_wp2_with fail
              refine (HK.out _).mono ?_
              rintro e w' ⟨rfl, rfl⟩
              go_wp2_with (refine ip_fetch rfl _ rfl w.heap.size 2 p.v6 p.ip HIp.out rfl HRng.out ?_)
              refine (HR.out _).mono ?_
              rintro e w2 ⟨rfl, hB⟩
              have hS := HB0.out.step hB
              have d0 : w2.cell? ⟨w.heap.size, 0, none⟩ = some (.int .i64 p.kind) := hS.2.cell 0
              have HR2 := Lib.hid (range_below HRng.out hB (by simp))
              have HS := Lib.hid hS
              clear hB hS c0 c1
              go_wp2_with (first | (refine ip_fetch rfl _ rfl w.heap.size 2 p.v6 p.ip HIp.out rfl HR2.out ?_) | (refine any_build5 rfl _ rfl (ipc false z16) built_ip0 ?_))
              go_ret
              exact ⟨by rw [HF.out]; rfl, HS.out.1⟩

structure AtS (w W : World) (a : Att) (vp vc vm : Value) : Prop where
  low : Below w.heap.size w W
  bx : Blk W w.heap.size 31 (attV a vp vc vm).toArray
theorem AtS.step {w W W' : World} {a : Att} {vp vc vm : Value} (h : AtS w W a vp vc vm) (hB : Below W.heap.size W W') : AtS w W' a vp vc vm := ⟨h.low.trans (hB.mono h.low.size), h.bx.below hB h.bx.lt⟩
set_option maxHeartbeats 4000000 in
theorem isRight_is (w : World) (a : Att) (hf : AtFits a) (vp vc vm : Value) : Calls Tryz.prog 142 #[.agg (attV a vp vc vm).toArray] w (BoolPost w (rightAt a)) := by
  have HB0 : Hid (AtS w (w.alloc (.cells (attV a vp vc vm).toArray 31)) a vp vc vm) := Lib.hid ⟨(Below.refl w.heap.size w).alloc (Nat.le_refl _) _, Blk.new w 31 (attV a vp vc vm).toArray⟩
  have HO := Lib.hid (fun W => isOrigin_is W a.origin)
  have HP := Lib.hid (fun W => isRightPmsi_is W a.pm hf.label.1 hf.label.2 hf.ip hf.oct)
  have HIp := Lib.hid hf.ip
  have HRt : Hid (rightAt a = (decide (0 ≤ a.origin ∧ a.origin ≤ 2) && (rightPm a.pm && (a.hasMed || decide (a.med = 0))))) := Lib.hid (by unfold rightAt; simp only [Bool.decide_and, Bool.and_assoc])
  have HRng := Lib.hid (att_pm HB0.out.bx)
  obtain ⟨c0, _, c2, c3, _, _, _, _⟩ := att_cells HB0.out.bx
  clear hf
  generalize hz : attV a vp vc vm = z at *
  clear hz
  cases ho : decide (0 ≤ a.origin ∧ a.origin ≤ 2)
  · rw [ho] at HO HRt
    clear ho
    go_enter Tryz.func142, Tryz.ntmps142
    go_wp2_with fail
    refine (HO.out _).mono ?_
    rintro e w' ⟨rfl, rfl⟩
    go_wp2
    go_ret
    exact ⟨by rw [HRt.out]; rfl, HB0.out.low⟩
  · rw [ho] at HO HRt
    clear ho
    have key : ∀ (hm mz : Bool), a.hasMed = hm → (a.med == 0) = mz → Calls Tryz.prog 142 #[.agg z.toArray] w (BoolPost w (rightAt a)) := by
      intro hm mz h1 h2
      have HF : Hid (rightAt a = (rightPm a.pm && (hm || mz))) := Lib.hid (by
        rw [HRt.out, h1, ← h2, show decide (a.med = 0) = (a.med == 0) by rw [Bool.eq_iff_iff]; simp]
        rfl)
      rw [h1] at c2
      cases hp : rightPm a.pm
      · rw [hp] at HP HF
        clear hp h1 h2
        go_enter Tryz.func142, Tryz.ntmps142
        go_wp2_with fail
        refine (HO.out _).mono ?_
        rintro e w' ⟨rfl, rfl⟩
        go_wp2_with (refine pm_fetch rfl _ rfl w.heap.size 8 a.pm HIp.out rfl HRng.out ?_)
        refine (HP.out _).mono ?_
        rintro e w2 ⟨rfl, hB⟩
        have HS := Lib.hid (HB0.out.step hB)
        clear hB
        go_wp2
        go_ret
        exact ⟨by rw [HF.out]; rfl, HS.out.low⟩
      · rw [hp] at HP HF
        clear hp
        cases hm
        · clear h1
          go_enter Tryz.func142, Tryz.ntmps142
          go_wp2_with fail
          refine (HO.out _).mono ?_
          rintro e w' ⟨rfl, rfl⟩
          go_wp2_with (refine pm_fetch rfl _ rfl w.heap.size 8 a.pm HIp.out rfl HRng.out ?_)
          refine (HP.out _).mono ?_
          rintro e w2 ⟨rfl, hB⟩
          have d2 : w2.cell? ⟨w.heap.size, 2, none⟩ = some (.bool false) := (hB.cell (p := ⟨w.heap.size, 2, none⟩) (by simp)).trans c2
          have d3 : w2.cell? ⟨w.heap.size, 3, none⟩ = some (.int .u32 a.med) := (hB.cell (p := ⟨w.heap.size, 3, none⟩) (by simp)).trans c3
          have HS := Lib.hid (HB0.out.step hB)
          clear hB c0 c2 c3
          go_wp2
          go_ret
          exact ⟨by rw [HF.out]; rfl, HS.out.low⟩
        · clear h1 h2
          go_enter Tryz.func142, Tryz.ntmps142
          go_wp2_with fail
          refine (HO.out _).mono ?_
          rintro e w' ⟨rfl, rfl⟩
          go_wp2_with (refine pm_fetch rfl _ rfl w.heap.size 8 a.pm HIp.out rfl HRng.out ?_)
          refine (HP.out _).mono ?_
          rintro e w2 ⟨rfl, hB⟩
          have d2 : w2.cell? ⟨w.heap.size, 2, none⟩ = some (.bool true) := (hB.cell (p := ⟨w.heap.size, 2, none⟩) (by simp)).trans c2
          have HS := Lib.hid (HB0.out.step hB)
          clear hB c0 c2 c3
          go_wp2
          go_ret
          exact ⟨by rw [HF.out]; rfl, HS.out.low⟩
    exact key _ _ rfl rfl
end Go.Proofs.YtdgoeibfggjbmaaGreatDoor
namespace Go.Proofs.YtdgoeibfggjbmaaGreatDoor
open Go.RowKit
set_option maxRecDepth 100000
set_option linter.unusedSimpArgs false
set_option linter.unusedVariables false

theorem att_fetch5 {ops : Array Oper} {rest : List Oper} {op : Oper} {a : Act} {w : World} {Q : Exit → Act → World → Prop} (hw : Region.wanted op (yielded ops a.tmps) = true) (x : Operand) (ho : op.op = .load 31 x)
    (g : Nat) (cs : List Value) (hl : cs.length = 27) (hx : a.eval x = .pointer (some ⟨g, 0, none⟩)) (hc : w.rangeAt g 0 cs) (h : wpList Tryz.prog ops Q rest (a.put op.dst (.agg cs.toArray)) w) : wpList Tryz.prog ops Q (op :: rest) a w :=
  BigFrame.wpList_want hw fun _ hK => wp_load_mid 31 x ho g 0 hx cs _ hc Tryz.underlying31 rfl (by rw [asz, hl]) (hK _ _ h)
theorem fill_raw1 (f k : Int) (A : Option Addr) (n c : Nat) : Instr.fill (fun i => some (i * 3, 3)) ((Array.range (1 * 3)).map ((Value.agg #[Value.int IntKind.i64 0, Value.int IntKind.i64 0, Value.slice none 0 0]).cells[· % (Value.agg #[Value.int IntKind.i64 0, Value.int IntKind.i64 0, Value.slice none 0 0]).cells.size]!)) [(0, Value.agg #[.int .i64 f, .int .i64 k, .slice A n c])] = some #[.int .i64 f, .int .i64 k, .slice A n c] := by kernel_rfl
theorem fill_raw2 (f k f2 k2 : Int) (A A2 : Option Addr) (n c n2 c2 : Nat) : Instr.fill (fun i => some (i * 3, 3)) ((Array.range (2 * 3)).map ((Value.agg #[Value.int IntKind.i64 0, Value.int IntKind.i64 0, Value.slice none 0 0]).cells[· % (Value.agg #[Value.int IntKind.i64 0, Value.int IntKind.i64 0, Value.slice none 0 0]).cells.size]!)) [(0, Value.agg #[.int .i64 f, .int .i64 k, .slice A n c]), (1, Value.agg #[.int .i64 f2, .int .i64 k2, .slice A2 n2 c2])] = some #[.int .i64 f, .int .i64 k, .slice A n c, .int .i64 f2, .int .i64 k2, .slice A2 n2 c2] := by kernel_rfl
theorem one_raw {ops : Array Oper} {rest : List Oper} {o : Oper} {a : Act} {w : World} {Q : Exit → Act → World → Prop} (hg : o.guard = none) (x : Operand) (ho : o.op = .buildSlice 64 1 #[(0, x)]) (f k : Int) (A : Option Addr) (n c : Nat) (hx : a.eval x = .agg #[.int .i64 f, .int .i64 k, .slice A n c])
    (h : wpList Tryz.prog ops Q rest (a.put o.dst (.slice (some ⟨w.heap.size, 0, none⟩) 1 1)) (w.alloc (.cells #[.int .i64 f, .int .i64 k, .slice A n c] 67))) : wpList Tryz.prog ops Q (o :: rest) a w := by
  refine wpList_plain hg fun _ hK => ?_
  obtain ⟨i, hi, hz0, hz1, hz2⟩ := info_parts info_raw
  refine wp_buildSlice 64 67 1 _ ho _ i _ Tryz.underlying64 hi hz0 (by rw [hz1]; decide) (by rw [hz1]; decide) ?_ (hK _ _ h)
  have he : (#[(0, x)].map fun (i, x) => (i, a.eval x)).toList = [(0, .agg #[.int .i64 f, .int .i64 k, .slice A n c])] := by simp [hx]
  rw [he, hz1]
  exact fill_raw1 f k A n c
theorem two_raws {o : Oper} {a : Act} {w : World} {K : Act → World → Prop} {Q : Exit → Act → World → Prop} (x y : Operand) (ho : o.op = .buildSlice 64 2 #[(0, x), (1, y)]) (f k f2 k2 : Int) (A A2 : Option Addr) (n c n2 c2 : Nat)
    (hx : a.eval x = .agg #[.int .i64 f, .int .i64 k, .slice A n c]) (hy : a.eval y = .agg #[.int .i64 f2, .int .i64 k2, .slice A2 n2 c2])
    (h : K (a.put o.dst (.slice (some ⟨w.heap.size, 0, none⟩) 2 2)) (w.alloc (.cells #[.int .i64 f, .int .i64 k, .slice A n c, .int .i64 f2, .int .i64 k2, .slice A2 n2 c2] 67))) : o.wp Tryz.prog a w K Q := by
  obtain ⟨i, hi, hz0, hz1, hz2⟩ := info_parts info_raw
  refine wp_buildSlice 64 67 2 _ ho _ i _ Tryz.underlying64 hi hz0 (by rw [hz1]; decide) (by rw [hz1]; decide) ?_ h
  have he : (#[(0, x), (1, y)].map fun (i, x) => (i, a.eval x)).toList = [(0, .agg #[.int .i64 f, .int .i64 k, .slice A n c]), (1, .agg #[.int .i64 f2, .int .i64 k2, .slice A2 n2 c2])] := by simp [hx, hy]
  rw [he, hz1]
  exact fill_raw2 f k f2 k2 A A2 n c n2 c2
theorem own_w2 {lo : Nat} {w : World} (hlo : lo ≤ w.heap.size) {f k f2 k2 : Int} {A A2 : Option Addr} {n c n2 c2 : Nat} {l l2 : List Int} (h1 : BodyT 67 lo w A n l) (h2 : BodyT 67 lo w A2 n2 l2) :
    OwnW lo (w.alloc (.cells #[.int .i64 f, .int .i64 k, .slice A n c, .int .i64 f2, .int .i64 k2, .slice A2 n2 c2] 67)) (.slice (some ⟨w.heap.size, 0, none⟩) 2 2) [(f, k, l), (f2, k2, l2)] := by
  have hal : Below w.heap.size w (w.alloc (.cells #[.int .i64 f, .int .i64 k, .slice A n c, .int .i64 f2, .int .i64 k2, .slice A2 n2 c2] 67)) := (Below.refl _ _).alloc (Nat.le_refl _) _
  exact ⟨[.int .i64 f, .int .i64 k, .slice A n c] ++ [.int .i64 f2, .int .i64 k2, .slice A2 n2 c2], ⟨rfl, .inr ⟨w.heap.size, 2, _, rfl, hlo, Blk.new w 67 _, Nat.le_refl _, by unfold maxLen; omega, rfl, rfl⟩⟩, (Rs.one (h1.below hal)).app (Rs.one (h2.below hal))⟩
theorem rdl_one {lo : Nat} {w : World} {A : Option Addr} {n c : Nat} {l : List Int} (h : BodyT 38 lo w A n l) : RdL (w.alloc (.cells #[.slice A n c] 38)) (w.alloc (.cells #[.slice A n c] 38)).heap.size (some ⟨w.heap.size, 0, none⟩) 1 [l] := by
  have hal : Below w.heap.size w (w.alloc (.cells #[.slice A n c] 38)) := (Below.refl _ _).alloc (Nat.le_refl _) _
  refine ⟨rfl, fun _ => ⟨w.heap.size, 0, rfl, by simp, fun i hi => ?_⟩⟩
  obtain rfl : i = 0 := by simp at hi; omega
  exact ⟨A, n, c, (Blk.new w 38 #[.slice A n c]).cell 0, (h.below hal).rd⟩

structure WrC (w W : World) (z : List Value) (v : Value) (T : List Raw) (m : Nat) : Prop where
  low : Below w.heap.size w W
  bx : Blk W w.heap.size 31 z.toArray
  env : EnvK W
  own : OwnW (w.heap.size + 1) W v T
  len : T.length ≤ m
structure WrB (w W : World) (z : List Value) : Prop where
  low : Below w.heap.size w W
  bx : Blk W w.heap.size 31 z.toArray
  env : EnvK W
theorem WrB.step {w W W' : World} {z : List Value} (h : WrB w W z) (hB : Below W.heap.size W W') : WrB w W' z := ⟨h.low.trans (hB.mono h.low.size), h.bx.below hB h.bx.lt, h.env.below hB⟩
theorem WrC.step {w W W' : World} {z : List Value} {v : Value} {T : List Raw} {m : Nat} (h : WrC w W z v T m) (hB : Below W.heap.size W W') : WrC w W' z v T m := ⟨h.low.trans (hB.mono h.low.size), h.bx.below hB h.bx.lt, h.env.below hB, h.own.below hB, h.len⟩
theorem WrC.lt {w W : World} {z : List Value} {v : Value} {T : List Raw} {m : Nat} (h : WrC w W z v T m) : w.heap.size < W.heap.size := h.bx.lt
theorem WrC.app {w W W' : World} {z : List Value} {v v' : Value} {T : List Raw} {m : Nat} {r : Raw} (h : WrC w W z v T m) (hp : 0 < w.heap.size) (ho : OwnW (w.heap.size + 1) W' v' (T ++ [r])) (hB : Below (w.heap.size + 1) W W') : WrC w W' z v' (T ++ [r]) (m + 1) :=
  ⟨h.low.trans (hB.mono (by omega)), h.bx.below hB (by omega), h.env.low hB (by omega), ho, by have := h.len; simp; omega⟩
theorem WrC.none_ {w W : World} {z : List Value} {v : Value} {T : List Raw} {m : Nat} (h : WrC w W z v T m) (r : Raw) : WrC w W z v (T ++ opt false r) (m + 1) := ⟨h.low, h.bx, h.env, by simpa [opt] using h.own, by have := h.len; simp [opt]; omega⟩
def WritePost (w : World) (a : Att) (e : Ending) (w' : World) : Prop :=
  Below w.heap.size w w' ∧ if writeE a = 0 then ∃ v, e = .returned (.tuple #[v, .int .i64 0]) ∧ OwnW w.heap.size w' v (writeR a) else e = .returned (.tuple #[.slice none 0 0, .int .i64 (writeE a)])

set_option maxHeartbeats 4000000 in
theorem write_bad (w : World) (a : Att) (hf : AtFits a) (vp vc vm : Value) (hr : rightAt a = false) : Calls Tryz.prog 90 #[.agg (attV a vp vc vm).toArray] w (WritePost w a) := by
  have hbx := Blk.new w 31 (attV a vp vc vm).toArray
  have HRng := Lib.hid (Blk.range hbx)
  have HZ := Lib.hid (attV_len a vp vc vm hf.ip)
  have HI := Lib.hid (fun W => isRight_is W a hf vp vc vm)
  have HB0 : Hid (Below w.heap.size w (w.alloc (.cells (attV a vp vc vm).toArray 31))) := Lib.hid ((Below.refl w.heap.size w).alloc (Nat.le_refl _) _)
  have HF : Hid (writeE a = 2) := Lib.hid (by unfold writeE; rw [if_pos hr])
  rw [hr] at HI
  generalize hz : attV a vp vc vm = z at *
  clear hz hbx hf hr
  go_enter Tryz.func90, Tryz.ntmps90
  go_wp2_with (refine att_fetch5 rfl _ rfl w.heap.size z HZ.out rfl HRng.out ?_)
  refine (HI.out _).mono ?_
  rintro e w2 ⟨rfl, hB⟩
  have HB := Lib.hid (HB0.out.trans (hB.mono HB0.out.size))
  clear hB
  go_wp2
  go_ret2
  exact ⟨HB.out, by rw [HF.out]; rfl⟩
set_option maxHeartbeats 4000000 in
theorem write_long (w : World) (a : Att) (hf : AtFits a) (Ap Ac Am : Option Addr) (cp cc cm : Nat) (hr : rightAt a = true) (hl : 255 < a.path.length ∨ 255 < a.clus.length ∨ 255 < a.comms.length) :
    Calls Tryz.prog 90 #[.agg (attV a (.slice Ap a.path.length cp) (.slice Ac a.clus.length cc) (.slice Am a.comms.length cm)).toArray] w (WritePost w a) := by
  have hbx := Blk.new w 31 (attV a (.slice Ap a.path.length cp) (.slice Ac a.clus.length cc) (.slice Am a.comms.length cm)).toArray
  have HRng := Lib.hid (Blk.range hbx)
  have HC := Lib.hid (fun W (h : Blk W w.heap.size 31 (attV a (.slice Ap a.path.length cp) (.slice Ac a.clus.length cc) (.slice Am a.comms.length cm)).toArray) => att_cells h)
  have HZ := Lib.hid (attV_len a (.slice Ap a.path.length cp) (.slice Ac a.clus.length cc) (.slice Am a.comms.length cm) hf.ip)
  have HI := Lib.hid (fun W => isRight_is W a hf (.slice Ap a.path.length cp) (.slice Ac a.clus.length cc) (.slice Am a.comms.length cm))
  have HB0 : Hid (Below w.heap.size w (w.alloc (.cells (attV a (.slice Ap a.path.length cp) (.slice Ac a.clus.length cc) (.slice Am a.comms.length cm)).toArray 31))) := Lib.hid ((Below.refl w.heap.size w).alloc (Nat.le_refl _) _)
  have HF : Hid (writeE a = 5) := Lib.hid (by unfold writeE; rw [if_neg (by rw [hr]; decide), if_pos hl])
  rw [hr] at HI
  generalize hz : attV a (.slice Ap a.path.length cp) (.slice Ac a.clus.length cc) (.slice Am a.comms.length cm) = z at *
  have HBx := Lib.hid hbx
  have hl' : (255 < (a.path.length : Int)) ∨ (¬ (255 < (a.path.length : Int)) ∧ 255 < (a.clus.length : Int)) ∨ (¬ (255 < (a.path.length : Int)) ∧ ¬ (255 < (a.clus.length : Int)) ∧ 255 < (a.comms.length : Int)) := by omega
  clear hz hbx hf hr hl
  have step : ∀ (_ : True), (∀ w2, Below (w.alloc (.cells z.toArray 31)).heap.size (w.alloc (.cells z.toArray 31)) w2 → Blk w2 w.heap.size 31 z.toArray) := fun _ w2 hB => HBx.out.below hB (by simp)
  have HSt := Lib.hid step
  clear step
  rcases hl' with h1 | ⟨h1, h2⟩ | ⟨h1, h2, h3⟩
  · have t1 : decide (255 < (a.path.length : Int)) = true := decide_eq_true h1
    go_enter Tryz.func90, Tryz.ntmps90
    go_wp2_with (refine att_fetch5 rfl _ rfl w.heap.size z HZ.out rfl HRng.out ?_)
    refine (HI.out _).mono ?_
    rintro e w2 ⟨rfl, hB⟩
    have HB := Lib.hid (HB0.out.trans (hB.mono HB0.out.size))
    obtain ⟨_, d1, _, _, _, _, d6, d7⟩ := HC.out w2 (HSt.out trivial w2 hB)
    clear hB
    go_wp2
    go_ret2
    exact ⟨HB.out, by rw [HF.out]; rfl⟩
  · have t1 : decide (255 < (a.path.length : Int)) = false := decide_eq_false h1
    have t2 : decide (255 < (a.clus.length : Int)) = true := decide_eq_true h2
    go_enter Tryz.func90, Tryz.ntmps90
    go_wp2_with (refine att_fetch5 rfl _ rfl w.heap.size z HZ.out rfl HRng.out ?_)
    refine (HI.out _).mono ?_
    rintro e w2 ⟨rfl, hB⟩
    have HB := Lib.hid (HB0.out.trans (hB.mono HB0.out.size))
    obtain ⟨_, d1, _, _, _, _, d6, d7⟩ := HC.out w2 (HSt.out trivial w2 hB)
    clear hB
    go_wp2
    go_ret2
    exact ⟨HB.out, by rw [HF.out]; rfl⟩
  · have t1 : decide (255 < (a.path.length : Int)) = false := decide_eq_false h1
    have t2 : decide (255 < (a.clus.length : Int)) = false := decide_eq_false h2
    have t3 : decide (255 < (a.comms.length : Int)) = true := decide_eq_true h3
    go_enter Tryz.func90, Tryz.ntmps90
    go_wp2_with (refine att_fetch5 rfl _ rfl w.heap.size z HZ.out rfl HRng.out ?_)
    refine (HI.out _).mono ?_
    rintro e w2 ⟨rfl, hB⟩
    have HB := Lib.hid (HB0.out.trans (hB.mono HB0.out.size))
    obtain ⟨_, d1, _, _, _, _, d6, d7⟩ := HC.out w2 (HSt.out trivial w2 hB)
    clear hB
    go_wp2
    go_ret2
    exact ⟨HB.out, by rw [HF.out]; rfl⟩
end Go.Proofs.YtdgoeibfggjbmaaGreatDoor
namespace Go.Proofs.YtdgoeibfggjbmaaGreatDoor
open Go.RowKit
set_option maxRecDepth 100000
set_option linter.unusedSimpArgs false
set_option linter.unusedVariables false

theorem below_drew5 (W : World) : Below W.heap.size W W.drew := below_drewN (Below.refl _ _) 1
theorem below_one5 (W : World) (o : Obj) : Below W.heap.size W (W.alloc o) := (Below.refl _ _).alloc (Nat.le_refl _) _
theorem pmW_len (p : Pm) (h : p.ip.length = 16) : (pmW p).length ≤ 100000000 := by unfold pmW; split <;> simp [be_len, h] <;> omega
def pathL (l : List Int) : List (List Int) := if l = [] then [] else [2, (l.length : Int)] :: enc4 l
theorem pathL_flat (l : List Int) : (pathL l).flatten = pathW l := by
  unfold pathL pathW
  split
  · rfl
  · rw [List.flatten_cons, enc4_flat]
theorem pathL_len (l : List Int) (h : l.length ≤ 255) : (pathL l).length ≤ 1000 := by unfold pathL; split <;> simp [enc4_len] <;> omega
theorem pathW_len (l : List Int) (h : l.length ≤ 255) : (pathW l).length ≤ 2000 := by unfold pathW; split <;> simp [encN_len] <;> omega
theorem pathParts_is (w : World) (A : Option Addr) (c : Nat) (l : List Int) (hr : RdN w w.heap.size A l.length l) (hU : ∀ x ∈ l, 0 ≤ x ∧ x ≤ 4294967295) (hn : l.length ≤ 255) : Calls Tryz.prog 145 #[.slice A l.length c] w (PartsPost w (pathL l)) := by
  unfold pathL
  split
  · rename_i h
    subst h
    exact pathParts_nil w A c
  · rename_i h
    exact pathParts_go w A l.length c l hr hU hn (List.length_pos_iff.2 h)
theorem made_as (w : World) (E : EnvK w) (k f cl : Int) (hb : bnd k = some (f, cl)) (hf : f = 64 ∨ f = 128 ∨ f = 192) (A : Option Addr) (n c : Nat) (ls : List (List Int)) (hr : RdL w w.heap.size A n ls) (hn : n ≤ 1000000) (v : List Int) (hv : ls.flatten = v) (hl : v.length ≤ 100000000) :
    Calls Tryz.prog 143 #[.int .i64 k, .slice A n c] w (MadePost w f k v) := by
  subst hv
  exact made_is w E k f cl hb hf A n c ls hr hn hl

set_option maxHeartbeats 32000000 in
set_option maxRecDepth 100000 in
theorem write_go (w : World) (E : EnvK w) (a : Att) (hf : AtFits a) (Ap Ac Am : Option Addr) (cp cc cm : Nat) (hp : RdN w w.heap.size Ap a.path.length a.path) (hc : RdN w w.heap.size Ac a.clus.length a.clus) (hm : RdC w w.heap.size Am a.comms.length a.comms)
    (hr : rightAt a = true) (h1 : a.path.length ≤ 255) (h2 : a.clus.length ≤ 255) (h3 : a.comms.length ≤ 255) :
    Calls Tryz.prog 90 #[.agg (attV a (.slice Ap a.path.length cp) (.slice Ac a.clus.length cc) (.slice Am a.comms.length cm)).toArray] w (WritePost w a) := by
  have hbx := Blk.new w 31 (attV a (.slice Ap a.path.length cp) (.slice Ac a.clus.length cc) (.slice Am a.comms.length cm)).toArray
  have HRng := Lib.hid (Blk.range hbx)
  have HC := Lib.hid (fun W (h : Blk W w.heap.size 31 (attV a (.slice Ap a.path.length cp) (.slice Ac a.clus.length cc) (.slice Am a.comms.length cm)).toArray) => att_cells h)
  have HPm := Lib.hid (fun W (h : Blk W w.heap.size 31 (attV a (.slice Ap a.path.length cp) (.slice Ac a.clus.length cc) (.slice Am a.comms.length cm)).toArray) => att_pm h)
  have HZ := Lib.hid (attV_len a (.slice Ap a.path.length cp) (.slice Ac a.clus.length cc) (.slice Am a.comms.length cm) hf.ip)
  have HI := Lib.hid (fun W => isRight_is W a hf (.slice Ap a.path.length cp) (.slice Ac a.clus.length cc) (.slice Am a.comms.length cm))
  have HF : Hid (writeE a = 0) := Lib.hid (by unfold writeE; rw [if_neg (by rw [hr]; decide), if_neg (by omega)])
  have HR := Lib.hid (right_parts hr)
  have HQ := Lib.hid (pm_parts hr)
  have HT := Lib.hid hf
  rw [hr] at HI
  generalize hz : attV a (.slice Ap a.path.length cp) (.slice Ac a.clus.length cc) (.slice Am a.comms.length cm) = z at *
  clear hz
  have HB0 : Hid (WrB w (w.alloc (.cells z.toArray 31)) z) := Lib.hid (by
    have hal : Below w.heap.size w (w.alloc (.cells z.toArray 31)) := (Below.refl w.heap.size w).alloc (Nat.le_refl _) _
    exact ⟨hal, hbx, E.below hal⟩)
  have HP := Lib.hid hp
  have HCl := Lib.hid hc
  have HCm := Lib.hid hm
  have HPos := Lib.hid E.lt
  have HW : Hid (((((([rawW 64 1 [a.origin], rawW 64 2 (pathW a.path)] ++ opt a.hasMed (rawW 128 4 (be 4 a.med))) ++ [rawW 64 5 (be 4 a.pref)]) ++ opt (decide (a.orr ≠ 0)) (rawW 128 9 (be 4 a.orr))) ++ opt (decide (a.clus ≠ [])) (rawW 128 10 (encN a.clus))) ++ opt (decide (a.comms ≠ [])) (rawW 192 16 a.comms.flatten)) ++ opt (decide (a.pm.kind ≠ 0)) (rawW 192 22 (pmW a.pm)) = writeR a) := Lib.hid (by unfold writeR; simp only [List.append_assoc])
  obtain ⟨n6, hn6⟩ : ∃ n, n = a.clus.length := ⟨_, rfl⟩
  obtain ⟨n7, hn7⟩ : ∃ n, n = a.comms.length := ⟨_, rfl⟩
  obtain ⟨cf, hcf⟩ : ∃ n, n = a.comms.flatten := ⟨_, rfl⟩
  have HCfl : Hid (cf.length ≤ 100000000) := Lib.hid (by rw [hcf, (cmms_enc a.comms HT.out.comms).2]; omega)
  rw [← hn6, ← hn7] at HC
  rw [← hn6] at HCl h2
  rw [← hn7] at HCm h3
  rw [← hcf] at HW
  have HN6 := Lib.hid hn6
  have HN7 := Lib.hid hn7
  have HCf := Lib.hid hcf
  clear hn6 hn7 hcf
  have t1 : decide (255 < (a.path.length : Int)) = false := decide_eq_false (by omega)
  have t2 : decide (255 < (n6 : Int)) = false := decide_eq_false (by omega)
  have t3 : decide (255 < (n7 : Int)) = false := decide_eq_false (by omega)
  clear hbx hf hr E hp hc hm
  go_enter Tryz.func90, Tryz.ntmps90
  go_wp2_with (refine att_fetch5 rfl _ rfl w.heap.size z HZ.out rfl HRng.out ?_)
  refine (HI.out _).mono ?_
  rintro e w2 ⟨rfl, hB⟩
  have HB := Lib.hid (HB0.out.step hB)
  obtain ⟨d0, d1, d2, d3, d4, d5, d6, d7⟩ := HC.out w2 HB.out.bx
  clear hB HB0 HRng HI
  go_wp2_with fail
  clear d0 d1 d2 d3 d4 d5 d6 d7 t1 t2 t3
  refine wp_region_held_drew (S := fun W => WrB w W z) (by kernel_rfl) (HB.out.step (below_drew5 w2)) (fun hS => ?_)
  refine wpAnyH_take (i := 0) (oi := ⟨some 24, _, _, _, _, _⟩) (v := ?_) rfl (by kernel_rfl) (by kernel_rfl) (by kernel_rfl) (fun _ _ _ h => h) (Or.inl ⟨by rfl, ?_⟩) hS ?_
  rotate_left
  · intro wq hq
    first | (go_simp; done) | (go_simp; rfl)
  try simp only [Act.put, zP, zQ, zR]
  refine wpAnyH_take (i := 1) (oi := ⟨some 25, _, _, _, _, _⟩) (v := ?_) rfl (by kernel_rfl) (by kernel_rfl) (by kernel_rfl) (fun _ _ _ h => h) (Or.inl ⟨by rfl, ?_⟩) hS ?_
  rotate_left
  · intro wq hq
    obtain ⟨d0, _⟩ := HC.out wq hq.bx
    first | (go_simp; done) | (go_simp; rfl)
  try simp only [Act.put, zP, zQ, zR]
  refine wpAnyH_take (i := 5) (oi := ⟨some 29, _, _, _, _, _⟩) (v := ?_) rfl (by kernel_rfl) (by kernel_rfl) (by kernel_rfl) (fun _ _ _ h => h) (Or.inl ⟨by rfl, ?_⟩) hS ?_
  rotate_left
  · intro wq hq
    first | (go_simp; done) | (go_simp; rfl)
  try simp only [Act.put, zP, zQ, zR]
  refine wpAnyH_take (i := 6) (oi := ⟨some 30, _, _, _, _, _⟩) (v := ?_) rfl (by kernel_rfl) (by kernel_rfl) (by kernel_rfl) (fun _ _ _ h => h) (Or.inl ⟨by rfl, ?_⟩) hS ?_
  rotate_left
  · intro wq hq
    obtain ⟨_, d1, _⟩ := HC.out wq hq.bx
    first | (go_simp; done) | (go_simp; rfl)
  try simp only [Act.put, zP, zQ, zR]
  generalize w2.drew = W0 at *
  clear HB
  refine wpAnyH_ready (rs := [2]) (by kernel_rfl) (by simp) ?_
  refine AllReadyH.cons (o := ⟨some 26, _, _, _, _, _⟩) rfl (fun K hK => ?_) AllReadyH.nil
  rw [if_pos (by rfl)]
  go_wp2_with fail
  refine (numI_is W0 a.origin 1 HR.out.1 (by omega) (by omega) (by have := HR.out.2.1; omega) (by have := HR.out.2.1; omega)).mono ?_
  intro e W1 hp
  obtain ⟨rfl, b1, hB⟩ := hp.body (lo := w.heap.size + 1) hS.bx.lt
  have hSn := hS.step hB
  clear hp hB hS
  refine hK.out _ _ (hSn) (fun hS => ?_)
  clear hK K
  try simp only [Act.put, zP, zQ, zR]
  clear hSn
  refine wpAnyH_ready (rs := [3]) (by kernel_rfl) (by simp) ?_
  refine AllReadyH.cons (o := ⟨some 27, _, _, _, _, _⟩) rfl (fun K hK => ?_) AllReadyH.nil
  rw [if_pos (by rfl)]
  go_wp2
  have hl1 := rdl_one (c := 1) b1
  have hSn := hS.step (below_one5 W1 (.cells #[.slice (some ⟨W0.heap.size, 0, none⟩) 1 1] 38))
  clear hS b1
  refine hK.out _ _ (hSn) (fun hS => ?_)
  clear hK K
  try simp only [Act.put, zP, zQ, zR]
  clear hSn
  generalize (W1.alloc (.cells #[.slice (some ⟨W0.heap.size, 0, none⟩) 1 1] 38)) = W2 at *
  refine wpAnyH_ready (rs := [4]) (by kernel_rfl) (by simp) ?_
  refine AllReadyH.cons (o := ⟨some 28, _, _, _, _, _⟩) rfl (fun K hK => ?_) AllReadyH.nil
  rw [if_pos (by rfl)]
  go_wp2_with fail
  refine (made_as W2 hS.env 1 64 2 rfl (by omega) _ 1 1 _ hl1 (by omega) [a.origin] (by rw [be_num1 _ ⟨HR.out.1, by have := HR.out.2.1; omega⟩]; rfl) (by simp)).mono ?_
  rintro e W3 ⟨A1, c1, rfl, b1, hB⟩
  have b1' := b1.low (lo' := w.heap.size + 1) hS.bx.lt
  have hSn := hS.step hB
  clear hB hS hl1 b1
  refine hK.out _ _ (hSn) (fun hS => ?_)
  clear hK K
  try simp only [Act.put, zP, zQ, zR]
  clear hSn
  refine wpAnyH_ready (rs := [7]) (by kernel_rfl) (by simp) ?_
  refine AllReadyH.cons (o := ⟨some 31, _, _, _, _, _⟩) rfl (fun K hK => ?_) AllReadyH.nil
  rw [if_pos (by rfl)]
  go_wp2_with fail
  refine (pathParts_is W3 Ap cp a.path ((HP.out.below hS.low).more hS.low.size) HT.out.path h1).mono ?_
  rintro e W4 ⟨v2, rfl, ho, hB⟩
  obtain ⟨A2, c2, rfl, hl2⟩ := ho.rd
  have b1 := b1'.below hB
  have hSn := hS.step hB
  clear hB hS b1' ho
  refine hK.out _ _ (hSn) (fun hS => ?_)
  clear hK K
  try simp only [Act.put, zP, zQ, zR]
  clear hSn
  refine wpAnyH_ready (rs := [8]) (by kernel_rfl) (by simp) ?_
  refine AllReadyH.cons (o := ⟨some 32, _, _, _, _, _⟩) rfl (fun K hK => ?_) AllReadyH.nil
  rw [if_pos (by rfl)]
  go_wp2_with fail
  refine (made_as W4 hS.env 2 64 2 rfl (by omega) _ _ c2 _ hl2 (by have := pathL_len a.path h1; omega) (pathW a.path) (pathL_flat _) (by have := pathW_len a.path h1; omega)).mono ?_
  rintro e W5 ⟨A3, c3, rfl, b2, hB⟩
  have b2' := b2.low (lo' := w.heap.size + 1) hS.bx.lt
  have b1' := b1.below hB
  have hSn := hS.step hB
  clear hB hS hl2 b1 b2
  refine hK.out _ _ (hSn) (fun hS => ?_)
  clear hK K
  try simp only [Act.put, zP, zQ, zR]
  clear hSn
  refine wpAnyH_ready (rs := [9]) (by kernel_rfl) (by simp) ?_
  refine AllReadyH.cons (o := ⟨some 33, _, _, _, _, _⟩) rfl (fun K hK => ?_) AllReadyH.nil
  rw [if_pos (by rfl)]
  refine two_raws _ _ rfl (lfl 64 [a.origin]) 1 (lfl 64 (pathW a.path)) 2 A1 A3 [a.origin].length c1 (pathW a.path).length c3 rfl rfl ?_
  have hw2 := own_w2 (f := lfl 64 [a.origin]) (k := 1) (f2 := lfl 64 (pathW a.path)) (k2 := 2) (c := c1) (c2 := c3) hS.bx.lt b1' b2'
  have hSn := hS.step (below_one5 W5 (.cells #[.int .i64 (lfl 64 [a.origin]), .int .i64 1, .slice A1 [a.origin].length c1, .int .i64 (lfl 64 (pathW a.path)), .int .i64 2, .slice A3 (pathW a.path).length c3] 67))
  clear hS b1' b2'
  refine hK.out _ _ (hSn) (fun hS => ?_)
  clear hK K
  try simp only [Act.put, zP, zQ, zR]
  clear hSn
  refine wpAnyH_take (i := 10) (oi := ⟨some 4, _, _, _, _, _⟩) (v := ?_) rfl (by kernel_rfl) (by kernel_rfl) (by kernel_rfl) (fun _ _ _ h => h) (Or.inl ⟨by rfl, ?_⟩) hS ?_
  rotate_left
  · intro wq hq
    first | (go_simp; done) | (go_simp; rfl)
  try simp only [Act.put, zP, zQ, zR]
  refine wpAnyH_done (by kernel_rfl) ?_ _
  have HS : Hid (WrC w (W5.alloc (.cells #[.int .i64 (lfl 64 [a.origin]), .int .i64 1, .slice A1 [a.origin].length c1, .int .i64 (lfl 64 (pathW a.path)), .int .i64 2, .slice A3 (pathW a.path).length c3] 67)) z (.slice (some ⟨W5.heap.size, 0, none⟩) 2 2) [rawW 64 1 [a.origin], rawW 64 2 (pathW a.path)] 2) := Lib.hid ⟨hS.low, hS.bx, hS.env, hw2, Nat.le_refl _⟩
  clear hw2 hS
  generalize (W5.alloc (.cells #[.int .i64 (lfl 64 [a.origin]), .int .i64 1, .slice A1 [a.origin].length c1, .int .i64 (lfl 64 (pathW a.path)), .int .i64 2, .slice A3 (pathW a.path).length c3] 67)) = V0 at *
  generalize Value.slice (some ⟨W5.heap.size, 0, none⟩) 2 2 = s0 at *
  generalize [rawW 64 1 [a.origin], rawW 64 2 (pathW a.path)] = T0 at *
  obtain ⟨d0, d1, d2, d3, d4, d5, d6, d7⟩ := HC.out V0 HS.out.bx
  have d8 : V0.cell? ⟨w.heap.size, 8, none⟩ = some (.int .i64 a.pm.kind) := HPm.out V0 HS.out.bx 0 _ rfl
  go_upto_if 35 with fail
  go_cut [4] (fun s4 wx => WrC w wx z s4 (T0 ++ opt a.hasMed (rawW 128 4 (be 4 a.med))) 3)
  case first =>
    rcases (show a.hasMed = true ∨ a.hasMed = false by cases a.hasMed <;> simp) with hb | hb
    · skip
      have HO : Hid (T0 ++ opt a.hasMed (rawW 128 4 (be 4 a.med)) = T0 ++ [rawW 128 4 (be 4 a.med)]) := Lib.hid (by rw [hb]; rfl)
      rw [hb]
      clear d2 hb
      go_wp2_with fail
      refine (numU_is V0 a.med 4 HT.out.med.1 (by omega) (by omega) (by have := HT.out.med.2; omega) HT.out.med.2).mono ?_
      intro e X1 hp
      obtain ⟨rfl, b1, hB⟩ := hp.body (lo := w.heap.size + 1) HS.out.bx.lt
      have HS1 := Lib.hid ((HS.out.step hB).step (below_one5 X1 (.cells #[.slice (some ⟨V0.heap.size, 0, none⟩) 4 4] 38)))
      have HL1 := Lib.hid (rdl_one (c := 4) b1)
      clear hp hB b1
      go_wp2_with fail
      refine (made_as _ HS1.out.env 4 128 2 rfl (by omega) _ 1 1 _ HL1.out (by omega) (be 4 a.med) (by simp) (by simp [be_len])).mono ?_
      generalize (X1.alloc (.cells #[.slice (some ⟨V0.heap.size, 0, none⟩) 4 4] 38)) = X2 at *
      rintro e X3 ⟨A3, c3, rfl, b3, hB⟩
      have HBd := Lib.hid (b3.low (lo' := w.heap.size + 1) HS1.out.bx.lt)
      have HS2 := Lib.hid (HS1.out.step hB)
      have hs2 : w.heap.size + 1 ≤ X3.heap.size := HS2.out.bx.lt
      have HLn := Lib.hid HS2.out.len
      clear hB b3 HS1 HL1
      go_wp2_with (first | (refine one_raw rfl _ rfl (lfl 128 (be 4 a.med)) 4 A3 (be 4 a.med).length c3 rfl ?_) | (at_builtin; refine app_w rfl _ _ rfl HS2.out.own hs2 (by have := HLn.out; omega) HBd.out rfl rfl ?_))
      intro v4 X4 ho hb4
      have HS4 := Lib.hid (HS2.out.app (r := rawW 128 4 (be 4 a.med)) HPos.out ho hb4)
      clear ho hb4 HBd hs2 HLn
      go_wp2_with fail
      go_meet
      have hq := HS4.out
      exact ⟨hq.low, hq.bx, hq.env, (by rw [HO.out]; exact hq.own), (by rw [HO.out]; exact Nat.le_trans hq.len (by omega))⟩
    · skip
      have HO : Hid (T0 ++ opt a.hasMed (rawW 128 4 (be 4 a.med)) = T0 ++ opt false (rawW 128 4 (be 4 a.med))) := Lib.hid (by rw [hb])
      rw [hb]
      clear d2 hb
      go_wp2_with fail
      go_meet
      have hq := HS.out.none_ (rawW 128 4 (be 4 a.med))
      exact ⟨hq.low, hq.bx, hq.env, (by rw [HO.out]; exact hq.own), (by rw [HO.out]; exact Nat.le_trans hq.len (by omega))⟩
  case rest =>
    have HS := Lib.hid hcut
    clear hcut
    generalize hwc : wc = V1 at *
    clear hwc
    generalize hT1 : T0 ++ opt a.hasMed (rawW 128 4 (be 4 a.med)) = T1 at *
    clear hT1
    obtain ⟨d0, d1, d2, d3, d4, d5, d6, d7⟩ := HC.out V1 HS.out.bx
    clear d0 d1 d2 d3 d5 d6 d7
    go_wp2_with fail
    refine (numU_is V1 a.pref 4 HT.out.pref.1 (by omega) (by omega) (by have := HT.out.pref.2; omega) HT.out.pref.2).mono ?_
    intro e X1 hp
    obtain ⟨rfl, b1, hB⟩ := hp.body (lo := w.heap.size + 1) HS.out.bx.lt
    have HS1 := Lib.hid ((HS.out.step hB).step (below_one5 X1 (.cells #[.slice (some ⟨V1.heap.size, 0, none⟩) 4 4] 38)))
    have HL1 := Lib.hid (rdl_one (c := 4) b1)
    clear hp hB b1
    go_wp2_with fail
    refine (made_as _ HS1.out.env 5 64 2 rfl (by omega) _ 1 1 _ HL1.out (by omega) (be 4 a.pref) (by simp) (by simp [be_len])).mono ?_
    generalize (X1.alloc (.cells #[.slice (some ⟨V1.heap.size, 0, none⟩) 4 4] 38)) = X2 at *
    rintro e X3 ⟨A3, c3, rfl, b3, hB⟩
    have HBd := Lib.hid (b3.low (lo' := w.heap.size + 1) HS1.out.bx.lt)
    have HS2 := Lib.hid (HS1.out.step hB)
    have hs2 : w.heap.size + 1 ≤ X3.heap.size := HS2.out.bx.lt
    have HLn := Lib.hid HS2.out.len
    clear hB b3 HS1 HL1
    go_wp2_with (first | (refine one_raw rfl _ rfl (lfl 64 (be 4 a.pref)) 5 A3 (be 4 a.pref).length c3 rfl ?_) | (at_builtin; refine app_w rfl _ _ rfl HS2.out.own hs2 (by have := HLn.out; omega) HBd.out rfl rfl ?_))
    intro v4 X4 ho hb4
    have HS4 := Lib.hid (HS2.out.app (r := rawW 64 5 (be 4 a.pref)) HPos.out ho hb4)
    clear ho hb4 HBd hs2 HLn
    clear HS HS2 d4
    have HS := HS4
    clear HS4
    generalize hT2 : T1 ++ [rawW 64 5 (be 4 a.pref)] = T2 at *
    clear hT2
    obtain ⟨d0, d1, d2, d3, d4, d5, d6, d7⟩ := HC.out X4 HS.out.bx
    have d8 : X4.cell? ⟨w.heap.size, 8, none⟩ = some (.int .i64 a.pm.kind) := HPm.out X4 HS.out.bx 0 _ rfl
    go_upto_if 54 with fail
    go_cut [4] (fun s4 wx => WrC w wx z s4 (T2 ++ opt (decide (a.orr ≠ 0)) (rawW 128 9 (be 4 a.orr))) 7)
    case first =>
      by_cases hb : a.orr ≠ 0
      · skip
        have HO : Hid (T2 ++ opt (decide (a.orr ≠ 0)) (rawW 128 9 (be 4 a.orr)) = T2 ++ [rawW 128 9 (be 4 a.orr)]) := Lib.hid (by rw [decide_eq_true hb]; rfl)
        have hb2 : (a.orr != 0) = true := by rw [bne_iff_ne]; exact hb
        clear hb
        go_wp2_with fail
        refine (numU_is X4 a.orr 4 HT.out.orr.1 (by omega) (by omega) (by have := HT.out.orr.2; omega) HT.out.orr.2).mono ?_
        intro e X1 hp
        obtain ⟨rfl, b1, hB⟩ := hp.body (lo := w.heap.size + 1) HS.out.bx.lt
        have HS1 := Lib.hid ((HS.out.step hB).step (below_one5 X1 (.cells #[.slice (some ⟨X4.heap.size, 0, none⟩) 4 4] 38)))
        have HL1 := Lib.hid (rdl_one (c := 4) b1)
        clear hp hB b1
        go_wp2_with fail
        refine (made_as _ HS1.out.env 9 128 2 rfl (by omega) _ 1 1 _ HL1.out (by omega) (be 4 a.orr) (by simp) (by simp [be_len])).mono ?_
        generalize (X1.alloc (.cells #[.slice (some ⟨X4.heap.size, 0, none⟩) 4 4] 38)) = X2 at *
        rintro e X3 ⟨A3, c3, rfl, b3, hB⟩
        have HBd := Lib.hid (b3.low (lo' := w.heap.size + 1) HS1.out.bx.lt)
        have HS2 := Lib.hid (HS1.out.step hB)
        have hs2 : w.heap.size + 1 ≤ X3.heap.size := HS2.out.bx.lt
        have HLn := Lib.hid HS2.out.len
        clear hB b3 HS1 HL1
        go_wp2_with (first | (refine one_raw rfl _ rfl (lfl 128 (be 4 a.orr)) 9 A3 (be 4 a.orr).length c3 rfl ?_) | (at_builtin; refine app_w rfl _ _ rfl HS2.out.own hs2 (by have := HLn.out; omega) HBd.out rfl rfl ?_))
        intro v4 X4 ho hb4
        have HS4 := Lib.hid (HS2.out.app (r := rawW 128 9 (be 4 a.orr)) HPos.out ho hb4)
        clear ho hb4 HBd hs2 HLn
        go_wp2_with fail
        go_meet
        have hq := HS4.out
        exact ⟨hq.low, hq.bx, hq.env, (by rw [HO.out]; exact hq.own), (by rw [HO.out]; exact Nat.le_trans hq.len (by omega))⟩
      · skip
        have HO : Hid (T2 ++ opt (decide (a.orr ≠ 0)) (rawW 128 9 (be 4 a.orr)) = T2 ++ opt false (rawW 128 9 (be 4 a.orr))) := Lib.hid (by rw [decide_eq_false hb])
        have hb2 : (a.orr != 0) = false := by rw [bne_eq_false_iff_eq]; exact Decidable.not_not.1 hb
        clear hb
        go_wp2_with fail
        go_meet
        have hq := HS.out.none_ (rawW 128 9 (be 4 a.orr))
        exact ⟨hq.low, hq.bx, hq.env, (by rw [HO.out]; exact hq.own), (by rw [HO.out]; exact Nat.le_trans hq.len (by omega))⟩
    case rest =>
      have HS := Lib.hid hcut
      clear hcut
      generalize hwc : wc = V3 at *
      clear hwc
      generalize hT3 : T2 ++ opt (decide (a.orr ≠ 0)) (rawW 128 9 (be 4 a.orr)) = T3 at *
      clear hT3
      obtain ⟨d0, d1, d2, d3, d4, d5, d6, d7⟩ := HC.out V3 HS.out.bx
      have d8 : V3.cell? ⟨w.heap.size, 8, none⟩ = some (.int .i64 a.pm.kind) := HPm.out V3 HS.out.bx 0 _ rfl
      go_upto_if 66 with fail
      go_cut [4] (fun s4 wx => WrC w wx z s4 (T3 ++ opt (decide (a.clus ≠ [])) (rawW 128 10 (encN a.clus))) 9)
      case first =>
        by_cases hb : a.clus ≠ []
        · skip
          have HO : Hid (T3 ++ opt (decide (a.clus ≠ [])) (rawW 128 10 (encN a.clus)) = T3 ++ [rawW 128 10 (encN a.clus)]) := Lib.hid (by rw [decide_eq_true hb]; rfl)
          have hb2 : 0 < n6 := by rw [HN6.out]; exact List.length_pos_iff.2 hb
          have hb3 : (0 : Int) < (n6 : Int) := by omega
          clear hb
          go_wp2_with fail
          refine (encNums_is V3 Ac n6 cc a.clus ((HCl.out.below HS.out.low).more HS.out.low.size) HT.out.clus h2).mono ?_
          rintro e X2 ⟨v2, rfl, ho, hB⟩
          obtain ⟨A2, c2, rfl, hl2⟩ := ho.rd
          have HS1 := Lib.hid (HS.out.step hB)
          have HL1 := Lib.hid hl2
          clear ho hB hl2
          go_wp2_with fail
          refine (made_as _ HS1.out.env 10 128 2 rfl (by omega) _ _ c2 _ HL1.out (by rw [enc4_len]; have := HN6.out; omega) (encN a.clus) (enc4_flat _) (by rw [encN_len]; have := HN6.out; omega)).mono ?_
          rintro e X3 ⟨A3, c3, rfl, b3, hB⟩
          have HBd := Lib.hid (b3.low (lo' := w.heap.size + 1) HS1.out.bx.lt)
          have HS2 := Lib.hid (HS1.out.step hB)
          have hs2 : w.heap.size + 1 ≤ X3.heap.size := HS2.out.bx.lt
          have HLn := Lib.hid HS2.out.len
          clear hB b3 HS1 HL1
          go_wp2_with (first | (refine one_raw rfl _ rfl (lfl 128 (encN a.clus)) 10 A3 (encN a.clus).length c3 rfl ?_) | (at_builtin; refine app_w rfl _ _ rfl HS2.out.own hs2 (by have := HLn.out; omega) HBd.out rfl rfl ?_))
          intro v4 X4 ho hb4
          have HS4 := Lib.hid (HS2.out.app (r := rawW 128 10 (encN a.clus)) HPos.out ho hb4)
          clear ho hb4 HBd hs2 HLn
          go_wp2_with fail
          go_meet
          have hq := HS4.out
          exact ⟨hq.low, hq.bx, hq.env, (by rw [HO.out]; exact hq.own), (by rw [HO.out]; exact Nat.le_trans hq.len (by omega))⟩
        · skip
          have hb1 : a.clus = [] := Decidable.not_not.1 hb
          have HO : Hid (T3 ++ opt (decide (a.clus ≠ [])) (rawW 128 10 (encN a.clus)) = T3 ++ opt false (rawW 128 10 (encN a.clus))) := Lib.hid (by rw [decide_eq_false hb])
          obtain rfl : n6 = 0 := by rw [HN6.out, hb1]; rfl
          clear hb hb1
          go_wp2_with fail
          go_meet
          have hq := HS.out.none_ (rawW 128 10 (encN a.clus))
          exact ⟨hq.low, hq.bx, hq.env, (by rw [HO.out]; exact hq.own), (by rw [HO.out]; exact Nat.le_trans hq.len (by omega))⟩
      case rest =>
        have HS := Lib.hid hcut
        clear hcut
        generalize hwc : wc = V4 at *
        clear hwc
        generalize hT4 : T3 ++ opt (decide (a.clus ≠ [])) (rawW 128 10 (encN a.clus)) = T4 at *
        clear hT4
        obtain ⟨d0, d1, d2, d3, d4, d5, d6, d7⟩ := HC.out V4 HS.out.bx
        have d8 : V4.cell? ⟨w.heap.size, 8, none⟩ = some (.int .i64 a.pm.kind) := HPm.out V4 HS.out.bx 0 _ rfl
        go_upto_if 77 with fail
        go_cut [4] (fun s4 wx => WrC w wx z s4 (T4 ++ opt (decide (a.comms ≠ [])) (rawW 192 16 (cf))) 11)
        case first =>
          by_cases hb : a.comms ≠ []
          · skip
            have HO : Hid (T4 ++ opt (decide (a.comms ≠ [])) (rawW 192 16 (cf)) = T4 ++ [rawW 192 16 (cf)]) := Lib.hid (by rw [decide_eq_true hb]; rfl)
            have hb2 : 0 < n7 := by rw [HN7.out]; exact List.length_pos_iff.2 hb
            have hb3 : (0 : Int) < (n7 : Int) := by omega
            clear hb
            go_wp2_with fail
            refine (commParts_is V4 Am n7 cm a.comms ((HCm.out.below HS.out.low).more HS.out.low.size) h3).mono ?_
            rintro e X2 ⟨v2, rfl, ho, hB⟩
            obtain ⟨A2, c2, rfl, hl2⟩ := ho.rd
            have HS1 := Lib.hid (HS.out.step hB)
            have HL1 := Lib.hid hl2
            clear ho hB hl2
            go_wp2_with fail
            refine (made_as _ HS1.out.env 16 192 2 rfl (by omega) _ _ c2 _ HL1.out (by have := HN7.out; omega) (cf) HCf.out.symm HCfl.out).mono ?_
            rintro e X3 ⟨A3, c3, rfl, b3, hB⟩
            have HBd := Lib.hid (b3.low (lo' := w.heap.size + 1) HS1.out.bx.lt)
            have HS2 := Lib.hid (HS1.out.step hB)
            have hs2 : w.heap.size + 1 ≤ X3.heap.size := HS2.out.bx.lt
            have HLn := Lib.hid HS2.out.len
            clear hB b3 HS1 HL1
            go_wp2_with (first | (refine one_raw rfl _ rfl (lfl 192 (cf)) 16 A3 (cf).length c3 rfl ?_) | (at_builtin; refine app_w rfl _ _ rfl HS2.out.own hs2 (by have := HLn.out; omega) HBd.out rfl rfl ?_))
            intro v4 X4 ho hb4
            have HS4 := Lib.hid (HS2.out.app (r := rawW 192 16 (cf)) HPos.out ho hb4)
            clear ho hb4 HBd hs2 HLn
            go_wp2_with fail
            go_meet
            have hq := HS4.out
            exact ⟨hq.low, hq.bx, hq.env, (by rw [HO.out]; exact hq.own), (by rw [HO.out]; exact Nat.le_trans hq.len (by omega))⟩
          · skip
            have hb1 : a.comms = [] := Decidable.not_not.1 hb
            have HO : Hid (T4 ++ opt (decide (a.comms ≠ [])) (rawW 192 16 (cf)) = T4 ++ opt false (rawW 192 16 (cf))) := Lib.hid (by rw [decide_eq_false hb])
            obtain rfl : n7 = 0 := by rw [HN7.out, hb1]; rfl
            clear hb hb1
            go_wp2_with fail
            go_meet
            have hq := HS.out.none_ (rawW 192 16 (cf))
            exact ⟨hq.low, hq.bx, hq.env, (by rw [HO.out]; exact hq.own), (by rw [HO.out]; exact Nat.le_trans hq.len (by omega))⟩
        case rest =>
          have HS := Lib.hid hcut
          clear hcut
          generalize hwc : wc = V5 at *
          clear hwc
          generalize hT5 : T4 ++ opt (decide (a.comms ≠ [])) (rawW 192 16 cf) = T5 at *
          clear hT5
          obtain ⟨d0, d1, d2, d3, d4, d5, d6, d7⟩ := HC.out V5 HS.out.bx
          have d8 : V5.cell? ⟨w.heap.size, 8, none⟩ = some (.int .i64 a.pm.kind) := HPm.out V5 HS.out.bx 0 _ rfl
          go_upto_if 88 with fail
          go_cut [4] (fun s4 wx => WrC w wx z s4 (T5 ++ opt (decide (a.pm.kind ≠ 0)) (rawW 192 22 (pmW a.pm))) 13)
          case first =>
            by_cases hb : a.pm.kind ≠ 0
            · skip
              have HO : Hid (T5 ++ opt (decide (a.pm.kind ≠ 0)) (rawW 192 22 (pmW a.pm)) = T5 ++ [rawW 192 22 (pmW a.pm)]) := Lib.hid (by rw [decide_eq_true hb]; rfl)
              have hb2 : (a.pm.kind != 0) = true := by rw [bne_iff_ne]; exact hb
              have HPr := Lib.hid (HPm.out V5 HS.out.bx)
              clear hb
              go_wp2_with (refine pm_fetch rfl _ rfl w.heap.size 8 a.pm HT.out.ip rfl HPr.out ?_)
              refine (pmsiParts_is V5 a.pm HQ.out.1 HQ.out.2.1 HT.out.label.1 HQ.out.2.2.1 HT.out.ip HT.out.oct).mono ?_
              rintro e X2 ⟨v2, rfl, ho, hB⟩
              obtain ⟨A2, c2, rfl, hl2⟩ := ho.rd
              have HS1 := Lib.hid (HS.out.step hB)
              have HL1 := Lib.hid hl2
              clear ho hB hl2
              go_wp2_with fail
              refine (made_as _ HS1.out.env 22 192 2 rfl (by omega) _ _ c2 _ HL1.out (by unfold pmL; split <;> simp) (pmW a.pm) (pmL_flat a.pm HQ.out.1 HQ.out.2.1) (pmW_len a.pm HT.out.ip)).mono ?_
              rintro e X3 ⟨A3, c3, rfl, b3, hB⟩
              have HBd := Lib.hid (b3.low (lo' := w.heap.size + 1) HS1.out.bx.lt)
              have HS2 := Lib.hid (HS1.out.step hB)
              have hs2 : w.heap.size + 1 ≤ X3.heap.size := HS2.out.bx.lt
              have HLn := Lib.hid HS2.out.len
              clear hB b3 HS1 HL1
              go_wp2_with (first | (refine one_raw rfl _ rfl (lfl 192 (pmW a.pm)) 22 A3 (pmW a.pm).length c3 rfl ?_) | (at_builtin; refine app_w rfl _ _ rfl HS2.out.own hs2 (by have := HLn.out; omega) HBd.out rfl rfl ?_))
              intro v4 X4 ho hb4
              have HS4 := Lib.hid (HS2.out.app (r := rawW 192 22 (pmW a.pm)) HPos.out ho hb4)
              clear ho hb4 HBd hs2 HLn
              go_wp2_with fail
              go_meet
              have hq := HS4.out
              exact ⟨hq.low, hq.bx, hq.env, (by rw [HO.out]; exact hq.own), (by rw [HO.out]; exact Nat.le_trans hq.len (by omega))⟩
            · skip
              have HO : Hid (T5 ++ opt (decide (a.pm.kind ≠ 0)) (rawW 192 22 (pmW a.pm)) = T5 ++ opt false (rawW 192 22 (pmW a.pm))) := Lib.hid (by rw [decide_eq_false hb])
              have hb2 : (a.pm.kind != 0) = false := by rw [bne_eq_false_iff_eq]; exact Decidable.not_not.1 hb
              clear hb
              go_wp2_with fail
              go_meet
              have hq := HS.out.none_ (rawW 192 22 (pmW a.pm))
              exact ⟨hq.low, hq.bx, hq.env, (by rw [HO.out]; exact hq.own), (by rw [HO.out]; exact Nat.le_trans hq.len (by omega))⟩
          case rest =>
            have HS := Lib.hid hcut
            clear hcut
            generalize hwc : wc = V6 at *
            clear hwc
            have HE : Hid (WritePost w a (.returned (.tuple #[u4, .int .i64 0])) V6) := Lib.hid ⟨HS.out.low, by rw [if_pos HF.out]; exact ⟨_, rfl, by have := HS.out.own.low (Nat.le_succ _); rwa [HW.out] at this⟩⟩
            go_wp2
            go_ret2
            exact HE.out

end Go.Proofs.YtdgoeibfggjbmaaGreatDoor
