/-
  Layer 4 (comm): texts.
-/
import Derived.Test.YtkaimdcepnhkdaaDoorComG
import Derived.Test.YtkaimdcepnhkdaaDoorCarF
namespace Go.Proofs.YtkaimdcepnhkdaaDoor
open Go.RowKit
set_option linter.unusedSimpArgs false
set_option linter.unusedVariables false

/-- The cells of what a community says, kept shut. -/
def fdA (f : Fd) : Array Value := (fdc f).toArray
theorem fdA_size (f : Fd) (hf : f.mac.length = 6) : (fdA f).size = 11 := by simp [fdA, hf]
theorem fdA_fetch {ops : Array Oper} {rest : List Oper} {op : Oper} {a : Act} {w : World} {Q : Exit → Act → World → Prop} (hw : Region.wanted op (yielded ops a.tmps) = true) (x : Operand) (ho : op.op = .load 63 x) (b : Nat) (t : TypeId) (f : Fd) (hf : f.mac.length = 6)
    (hx : a.eval x = .pointer (some ⟨b, 0, none⟩)) (hc : Blk w b t (fdA f)) (h : wpList Tryd.prog ops Q rest (a.put op.dst (.agg (fdA f))) w) : wpList Tryd.prog ops Q (op :: rest) a w :=
  fd_fetch hw x ho b f hf hx (Blk.range hc) h
theorem fdA_store {ops : Array Oper} {rest : List Oper} {o : Oper} {a : Act} {w : World} {Q : Exit → Act → World → Prop} (hgd : o.guard = none) (x y : Operand) (ho : o.op = .store 63 x y) (g : Nat) (f : Fd) (hf : f.mac.length = 6)
    (hx : a.eval x = .pointer (some ⟨g, 0, none⟩)) (hy : a.eval y = .agg (fdA f)) (t : TypeId) (old : Array Value) (hg : Blk w g t old) (hold : old.size = 11)
    (h : wpList Tryd.prog ops Q rest (a.put o.dst undef) (w.setRow g (fdA f))) : wpList Tryd.prog ops Q (o :: rest) a w :=
  fd_store hgd x y ho g f hf hx hy t old hg hold h
theorem FdCell {w : World} {g : Nat} {t : TypeId} {f : Fd} (h : Blk w g t (fdA f)) :
    w.cell? ⟨g, 0, none⟩ = some (.int .i64 f.kind) ∧ w.cell? ⟨g, 1, none⟩ = some (.int .i64 f.form) ∧ w.cell? ⟨g, 2, none⟩ = some (.int .u32 f.as_) ∧ w.cell? ⟨g, 3, none⟩ = some (.int .u32 f.n) ∧ w.cell? ⟨g, 4, none⟩ = some (.bool f.flag) :=
  ⟨h.cell 0, h.cell 1, h.cell 2, h.cell 3, h.cell 4⟩
theorem FdMac {w : World} {g : Nat} {t : TypeId} {f : Fd} (h : Blk w g t (fdA f)) : w.rangeAt g 5 (u8s f.mac) := by
  have := range_post (cs := [.int .i64 f.kind, .int .i64 f.form, .int .u32 f.as_, .int .u32 f.n, .bool f.flag]) (ds := u8s f.mac) (Blk.range h)
  simpa using this
/-- Numbers that fit. -/
structure FdOk (f : Fd) : Prop where
  as0 : 0 ≤ f.as_
  as1 : f.as_ < 4294967296
  n0 : 0 ≤ f.n
  n1 : f.n < 4294967296
  len : f.mac.length = 6
  oct : Oct f.mac
theorem seg_bd (l : List Int) (ho : Oct l) (k m : Nat) (hm : m ≤ 4) : 0 ≤ numOf (seg l k m) ∧ numOf (seg l k m) < 4294967296 := by
  have hb := numOf_bd (seg l k m) (seg_oct l k m ho)
  have hp : ∀ j, j ≤ 4 → (256 : Int) ^ j ≤ 4294967296 := by decide
  have := hp (seg l k m).length (by unfold seg; rw [List.length_take]; omega)
  exact ⟨hb.1, by omega⟩
theorem z6_oct : Oct z6 := by intro x h; simp [z6] at h; omega
theorem rdF_ok (l : List Int) (hl : l.length = 8) (ho : Oct l) : FdOk (rdF l) := by
  have s := fun k m hm => seg_bd l ho k m hm
  have h6 : (seg l 2 6).length = 6 := seg_len l 2 6 (by omega)
  have o6 := seg_oct l 2 6 ho
  unfold rdF
  repeat' split
  all_goals
    refine ⟨?_, ?_, ?_, ?_, ?_, ?_⟩
    all_goals first
      | exact z6_oct
      | exact o6
      | exact h6
      | exact (s _ _ (by omega)).1
      | exact (s _ _ (by omega)).2
      | exact (by decide : (0 : Int) ≤ 0)
      | exact (by decide : (0 : Int) < 4294967296)
      | rfl
set_option maxHeartbeats 1000000 in
theorem cdec_is (w : World) (E : Env w) (n : Int) (h0 : 0 ≤ n) (h1 : n < 4294967296) :
    Calls Tryd.prog 99 #[.int .u32 n] w fun e w' => e = .returned (.string (decS n)) ∧ Below w.heap.size w w' := by
  have hm : n % 18446744073709551616 = n := Int.emod_eq_of_lt h0 (by omega)
  go_enter Tryd.func99, Tryd.ntmps99
  go_wp2_with fail
  refine (dec_is _ E n h0 (by omega)).mono ?_
  rintro e w1 ⟨rfl, hB⟩
  have HB := Lib.hid hB
  clear hB
  go_wp2
  go_ret
  exact ⟨rfl, HB.out⟩
/-- A word behind a blank, if it is to be said. -/
def fgS (b : Bool) (s : ByteArray) : ByteArray := if b then ⟨#[32]⟩ ++ s else ⟨#[]⟩
set_option maxHeartbeats 1000000 in
theorem ft_is (w : World) (b : Bool) (s : ByteArray) (hs : s.size ≤ 100) : Calls Tryd.prog 100 #[.bool b, .string s] w fun e w' => e = .returned (.string (fgS b s)) ∧ w = w' := by
  have hz : ¬ 9223372036854775807 < 1 + s.size := by omega
  cases b
  all_goals
    go_enter Tryd.func100, Tryd.ntmps100
    go_wp2
    go_ret
    exact ⟨rfl, rfl⟩
/-- A target's As. -/
def asS (fm a : Int) : ByteArray := if fm = 1 then fourS ((four a).take 4) else if fm = 2 then decS a ++ ⟨#[76]⟩ else decS a
theorem four_right (n : Int) (h0 : 0 ≤ n) (h1 : n < 4294967296) : rightB false (four n) = true := by
  unfold rightB four
  simp
set_option maxHeartbeats 2000000 in
set_option maxRecDepth 100000 in
theorem at_is (w : World) (E : Env w) (f : Fd) (hf : FdOk f) :
    Calls Tryd.prog 98 #[.agg (fdA f)] w fun e w' => e = .returned (.string (asS f.form f.as_)) ∧ Below w.heap.size w w' := by
  have hN := Blk.new w 63 (fdA f)
  have HL := Lib.hid ((Below.refl w.heap.size w).alloc (Nat.le_refl _) (.cells (fdA f) 63))
  obtain ⟨-, c1, c2, -, -⟩ := FdCell hN
  have E1 := Lib.hid (E.alloc (.cells (fdA f) 63))
  have a0 := hf.as0
  have a1 := hf.as1
  have hd20 := decS_size f.as_ a0 (by omega)
  have hz1 : ¬ 9223372036854775807 < (decS f.as_).size + 1 := by omega
  have HD : Hid (asS f.form f.as_ = if f.form = 1 then fourS ((four f.as_).take 4) else if f.form = 2 then decS f.as_ ++ ⟨#[76]⟩ else decS f.as_) := Lib.hid rfl
  generalize f.form = fm at *
  generalize f.as_ = a at *
  clear hN hd20 hf
  by_cases h1 : fm = 1
  · subst h1
    go_enter Tryd.func98, Tryd.ntmps98
    go_wp2_with fail
    refine (four_is _ a a0 a1).mono ?_
    rintro e w1 ⟨rfl, hB⟩
    have HL1 := Lib.hid (HL.out.trans (hB.mono (by simp)))
    have E2 := Lib.hid (E1.out.below hB)
    clear hB HL E1 c1 c2
    go_wp2_with fail
    refine (iptext_is _ E2.out false (four a) (four_len a) (four_oct a a0 a1)).mono ?_
    rintro e w2 ⟨hB, he⟩
    rw [four_right a a0 a1, if_pos rfl] at he
    subst he
    have HL2 := Lib.hid (HL1.out.trans (hB.mono HL1.out.size))
    clear hB HL1 E2
    go_wp2
    go_ret
    exact ⟨by unfold asS; rw [if_pos rfl]; rfl, HL2.out⟩
  · by_cases h2 : fm = 2
    · subst h2
      go_enter Tryd.func98, Tryd.ntmps98
      go_wp2_with fail
      refine (cdec_is _ E1.out a a0 a1).mono ?_
      rintro e w1 ⟨rfl, hB⟩
      have HL1 := Lib.hid (HL.out.trans (hB.mono (by simp)))
      clear hB HL E1 c1 c2
      go_wp2
      go_ret
      exact ⟨by unfold asS; rw [if_neg (by decide), if_pos rfl]; rfl, HL1.out⟩
    · have HD2 : Hid (asS fm a = decS a) := Lib.hid (by rw [HD.out, if_neg h1, if_neg h2])
      have b1 : (fm == 1) = false := by simpa using h1
      have b2 : (fm == 2) = false := by simpa using h2
      clear h1 h2 HD
      go_enter Tryd.func98, Tryd.ntmps98
      go_wp2_with fail
      refine (cdec_is _ E1.out a a0 a1).mono ?_
      rintro e w1 ⟨rfl, hB⟩
      have HL1 := Lib.hid (HL.out.trans (hB.mono (by simp)))
      clear hB HL E1 c1 c2
      go_wp2
      go_ret
      exact ⟨by rw [HD2.out]; rfl, HL1.out⟩
/-- Pairs of digits. -/
def hxK (l : List Int) : Nat → List Int
  | 0 => []
  | k + 1 => hxK l k ++ [hexI (l.getD k 0 / 16), hexI (l.getD k 0 % 16)]
theorem hxK_len (l : List Int) : ∀ k, (hxK l k).length = 2 * k
  | 0 => rfl
  | k + 1 => by simp [hxK, hxK_len l k]; omega
theorem hxK_oct (l : List Int) (ho : Oct l) : ∀ k, Oct (hxK l k)
  | 0 => by intro x h; cases h
  | k + 1 => by
    have ih := hxK_oct l ho k
    have hx := ho.getD k
    intro x h
    rcases List.mem_append.1 h with h | h
    · exact ih x h
    · simp only [List.mem_cons, List.mem_nil_iff, or_false] at h
      rcases h with rfl | rfl
      · exact hexI_bd _ (by omega) (by omega)
      · exact hexI_bd _ (by omega) (by omega)
set_option maxHeartbeats 4000000 in
set_option maxRecDepth 100000 in
theorem ht_is (w : World) (l : List Int) (hl : l.length = 8) (ho : Oct l) :
    Calls Tryd.prog 102 #[.agg (u8s l).toArray] w fun e w' => e = .returned (.string (strOfNums (hxK l 8))) ∧ Below w.heap.size w w' := by
  obtain ⟨i0, hi, hz0, hz1, hz2⟩ := info_parts info_u8'
  have hN := Blk.new w 52 (u8s l).toArray
  have hLow := (Below.refl w.heap.size w).alloc (Nat.le_refl _) (.cells (u8s l).toArray 52)
  obtain ⟨wm, hmk, hown, hgrow⟩ := run_make_own (P := Tryd.prog) (w.alloc (.cells (u8s l).toArray 52)) w.heap.size 79 5 i0 (.int .u8 0) 1 Tryd.underlying79 hi hz0 hz1 .i64 .i64 16 (by rw [hz2]; omega) (by unfold maxLen; omega) (by simp)
  rw [size_a1] at hmk hown
  rw [show ((16 : Nat) : Int) = 16 from rfl] at hmk
  have hlm : Below w.heap.size w wm := hLow.trans ⟨hgrow.os, hgrow.tape, hgrow.output, hgrow.size, fun i hi => hgrow.block i (by simp; omega) (fun e => by cases e)⟩
  have HO : Hid (Own8 w wm (.slice (some ⟨w.heap.size + 1, 0, none⟩) 0 16) []) := Lib.hid ⟨hown, hlm⟩
  have HC : Hid (Blk wm w.heap.size 52 (u8s l).toArray) := Lib.hid (hN.grown hgrow (by simp))
  clear hown hgrow hi hz0 hz1 hz2 hlm hLow hN
  go_enter Tryd.func102, Tryd.ntmps102
  go_wp2_with (refine comm_fetch rfl _ rfl w.heap.size 0 l hl rfl HC.out.range ?_)
  clear hmk HC
  go_loopw [3, 5, 8] (fun v _ i wr => ∃ k : Nat, k ≤ 8 ∧ i = .int .i64 k ∧ Own8 w wr v (hxK l k)) (fun _ _ i _ => 8 - (intOf i).toNat)
  case atStart => exact ⟨0, by omega, rfl, HO.out⟩
  case round =>
    obtain ⟨k, hk, rfl, hw⟩ := hrel
    have HW := Lib.hid hw
    clear hw HO
    by_cases hlt : k < 8
    · have hg : (u8s l).toArray[k]? = some (.int .u8 (l.getD k 0)) := by simp [List.getD, show k < l.length by omega]
      have hidx := run_index_one (P := Tryd.prog) (t := 52) (e := 5) (n := 8) Tryd.underlying52 (by kernel_rfl) (run_isAgg_plain Tryd.underlying5 rfl) (u8s l).toArray k _ (by omega) hg
      have hx := ho.getD k
      have hlen := hxK_len l k
      have HP : Hid (hxK l (k + 1) = hxK l k ++ [hexI (l.getD k 0 / 16), hexI (l.getD k 0 % 16)]) := Lib.hid rfl
      clear hg
      generalize l.getD k 0 = x at *
      obtain ⟨d, hd⟩ := Int.eq_ofNat_of_zero_le (show 0 ≤ x / 16 by omega)
      obtain ⟨e, he⟩ := Int.eq_ofNat_of_zero_le (show 0 ≤ x % 16 by omega)
      have hd16 : d < 16 := by omega
      have he16 : e < 16 := by omega
      have hand : bits .and .u8 x 15 = (e : Int) := by rw [and15_8 x hx.1 hx.2, he]
      have HXD := Lib.hid (hex_at16 ⟨d, hd16⟩)
      have HXE := Lib.hid (hex_at16 ⟨e, he16⟩)
      rw [hd, he] at HP
      have hlen2 : (hxK l k).length ≤ 16 := by omega
      clear hlen
      generalize hxK l k = xs at *
      have hdI : (d : Int) < 16 := by omega
      have heI : (e : Int) < 16 := by omega
      generalize u3 = vv at *
      generalize wr = wz at *
      go_wp2
      clear hidx
      refine wp_region_held_drew (S := fun w' => Below w.heap.size w w') (by kernel_rfl) (below_drewN HW.out.low 1) (fun hS => ?_)
      refine wpAnyH_take (i := 0) (oi := ⟨some 11, _, _, _, _, _⟩) (v := ?_) rfl (by kernel_rfl) (by kernel_rfl) (by kernel_rfl) (fun _ _ _ h => h) (Or.inl ⟨by rfl, ?_⟩) hS ?_
      rotate_left
      · intro wq hq
        first | (go_simp; done) | (go_simp; rfl)
      try simp only [Act.put, List.setIfInBounds_toArray, List.set_cons_zero, List.set_cons_succ]
      refine wpAnyH_take (i := 1) (oi := ⟨some 12, _, _, _, _, _⟩) (v := ?_) rfl (by kernel_rfl) (by kernel_rfl) (by kernel_rfl) (fun _ _ _ h => h) (Or.inl ⟨by rfl, ?_⟩) hS ?_
      rotate_left
      · intro wq hq
        first | (go_simp; done) | (go_simp; rfl)
      try simp only [Act.put, List.setIfInBounds_toArray, List.set_cons_zero, List.set_cons_succ]
      refine wpAnyH_take (i := 2) (oi := ⟨some 13, _, _, _, _, _⟩) (v := ?_) rfl (by kernel_rfl) (by kernel_rfl) (by kernel_rfl) (fun _ _ _ h => h) (Or.inl ⟨by rfl, ?_⟩) hS ?_
      rotate_left
      · intro wq hq
        first | (go_simp; done) | (go_simp; rfl)
      try simp only [Act.put, List.setIfInBounds_toArray, List.set_cons_zero, List.set_cons_succ]
      refine wpAnyH_take (i := 3) (oi := ⟨some 14, _, _, _, _, _⟩) (v := ?_) rfl (by kernel_rfl) (by kernel_rfl) (by kernel_rfl) (fun _ _ _ h => h) (Or.inl ⟨by rfl, ?_⟩) hS ?_
      rotate_left
      · intro wq hq
        first | (go_simp; done) | (go_simp; rfl)
      try simp only [Act.put, List.setIfInBounds_toArray, List.set_cons_zero, List.set_cons_succ]
      refine wpAnyH_take (i := 4) (oi := ⟨some 15, _, _, _, _, _⟩) (v := ?_) rfl (by kernel_rfl) (by kernel_rfl) (by kernel_rfl) (fun _ _ _ h => h) (Or.inl ⟨by rfl, ?_⟩) hS ?_
      rotate_left
      · intro wq hq
        first | (go_simp; done) | (go_simp; rfl)
      try simp only [Act.put, List.setIfInBounds_toArray, List.set_cons_zero, List.set_cons_succ]
      refine wpAnyH_take (i := 5) (oi := ⟨some 16, _, _, _, _, _⟩) (v := ?_) rfl (by kernel_rfl) (by kernel_rfl) (by kernel_rfl) (fun _ _ _ h => h) (Or.inl ⟨by rfl, ?_⟩) hS ?_
      rotate_left
      · intro wq hq
        first | (go_simp; done) | (go_simp; rfl)
      try simp only [Act.put, List.setIfInBounds_toArray, List.set_cons_zero, List.set_cons_succ]
      refine wpAnyH_take (i := 6) (oi := ⟨some 17, _, _, _, _, _⟩) (v := ?_) rfl (by kernel_rfl) (by kernel_rfl) (by kernel_rfl) (fun _ _ _ h => h) (Or.inl ⟨by rfl, ?_⟩) hS ?_
      rotate_left
      · intro wq hq
        first | (go_simp; done) | (go_simp; rfl)
      try simp only [Act.put, List.setIfInBounds_toArray, List.set_cons_zero, List.set_cons_succ]
      refine wpAnyH_ready (rs := [7]) (by kernel_rfl) (by simp) ?_
      refine AllReadyH.cons (o := ⟨some 18, _, _, _, _, _⟩) rfl (fun K hK => ?_) AllReadyH.nil
      rw [if_pos (by rfl)]
      go_wp2
      refine hK.out _ _ (below_drewN (HW.out.low.alloc HW.out.low.size _) 1) (fun hS => ?_)
      clear hK K
      try simp only [Act.put, List.setIfInBounds_toArray, List.set_cons_zero, List.set_cons_succ]
      refine wpAnyH_ready (rs := [8]) (by kernel_rfl) (by simp) ?_
      refine AllReadyH.cons (o := ⟨some 19, _, _, _, _, _⟩) rfl (fun K hK => ?_) AllReadyH.nil
      rw [if_pos (by rfl)]
      refine app_wp (wr := wz.drew) (w0 := w) (v := vv) (xs := xs) _ _ rfl [((digs16[d]'(by show d < 16; omega)).toNat : Int), ((digs16[e]'(by show e < 16; omega)).toNat : Int)] ⟨HW.out.own, below_drewN HW.out.low 1⟩ (by simp; omega) rfl rfl ?_
      intro v2 w2 ho2
      rw [HXD.out, HXE.out, ← HP.out] at ho2
      have HO2 := Lib.hid ho2
      have hS2 := ho2.low
      clear ho2
      refine hK.out _ _ hS2 (fun hS => ?_)
      clear hK K
      try simp only [Act.put, List.setIfInBounds_toArray, List.set_cons_zero, List.set_cons_succ]
      refine wpAnyH_take (i := 9) (oi := ⟨some 3, _, _, _, _, _⟩) (v := ?_) rfl (by kernel_rfl) (by kernel_rfl) (by kernel_rfl) (fun _ _ _ h => h) (Or.inl ⟨by rfl, ?_⟩) hS ?_
      rotate_left
      · intro wq hq
        first | (go_simp; done) | (go_simp; rfl)
      try simp only [Act.put, List.setIfInBounds_toArray, List.set_cons_zero, List.set_cons_succ]
      refine wpAnyH_done (by kernel_rfl) ?_ _
      clear hS hS2
      go_wp2
      exact ⟨⟨k + 1, by omega, by go_num, HO2.out⟩, by simp [intOf]; omega⟩
    · obtain rfl : k = 8 := by omega
      obtain ⟨A, c, rfl, hr⟩ := HW.out.rd (hxK_oct l ho 8)
      have hcv := run_conv_rd (P := Tryd.prog) wr 79 9 5 Tryd.underlying79 Tryd.underlying5 Tryd.underlying9 c hr
      have HL := Lib.hid HW.out.low
      clear HW hr
      go_wp2
      go_ret
      exact ⟨rfl, HL.out⟩
end Go.Proofs.YtkaimdcepnhkdaaDoor
