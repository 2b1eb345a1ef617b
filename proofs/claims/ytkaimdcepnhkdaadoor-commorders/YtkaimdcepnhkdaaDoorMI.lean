/-
  Put together: ComI ComJ ComK.
-/
import Derived.Test.YtkaimdcepnhkdaaDoorMG
import Derived.Test.YtkaimdcepnhkdaaDoorMD
namespace Go.Proofs.YtkaimdcepnhkdaaDoor
open Go.RowKit
set_option linter.unusedSimpArgs false
set_option linter.unusedVariables false

/-- The cells of what a community says, kept shut. -/
def fdA (f : Fd) : Array Value := (fdc f).toArray
theorem fdA_size (f : Fd) (hf : f.mac.length = 6) : (fdA f).size = 11 := by simp [fdA, hf]
theorem fdA_fetch {ops : Array Oper} {rest : List Oper} {op : Oper} {a : Act} {w : World} {Q : Exit → Act → World → Prop} (hw : Region.wanted op (yielded ops a.tmps) = true) (x : Operand) (ho : op.op = .load 63 x) (b : Nat) (t : TypeId) (f : Fd) (hf : f.mac.length = 6)
    (hx : a.eval x = .pointer (some ⟨b, 0, none⟩)) (hc : Blk w b t (fdA f)) (h : wpList Tryd.prog ops Q rest (a.put op.dst (.agg (fdA f))) w) : wpList Tryd.prog ops Q (op :: rest) a w :=
  fd_fetch hw x ho b f hf hx (Blk.range hc) h
theorem fdA_store {ops : Array Oper} {rest : List Oper} {o : Oper} {a : Act} {w : World} {Q : Exit → Act → World → Prop} (hgd : o.guard = none) (x y : Operand) (ho : o.op = .store 63 x y) (g : Nat) (f : Fd) (hf : f.mac.length = 6)
    (hx : a.eval x = .pointer (some ⟨g, 0, none⟩)) (hy : a.eval y = .agg (fdA f)) (t : TypeId) (old : Array Value) (hg : Blk w g t old) (hold : old.size = 11)
    (h : wpList Tryd.prog ops Q rest (a.put o.dst undef) (w.setRow g (fdA f))) : wpList Tryd.prog ops Q (o :: rest) a w :=
  fd_store hgd x y ho g f hf hx hy t old hg hold h
theorem FdCell {w : World} {g : Nat} {t : TypeId} {f : Fd} (h : Blk w g t (fdA f)) :
    w.cell? ⟨g, 0, none⟩ = some (.int .i64 f.kind) ∧ w.cell? ⟨g, 1, none⟩ = some (.int .i64 f.form) ∧ w.cell? ⟨g, 2, none⟩ = some (.int .u32 f.as_) ∧ w.cell? ⟨g, 3, none⟩ = some (.int .u32 f.n) ∧ w.cell? ⟨g, 4, none⟩ = some (.bool f.flag) :=
  ⟨h.cell 0, h.cell 1, h.cell 2, h.cell 3, h.cell 4⟩
theorem FdMac {w : World} {g : Nat} {t : TypeId} {f : Fd} (h : Blk w g t (fdA f)) : w.rangeAt g 5 (u8s f.mac) := by
  have := range_post (cs := [.int .i64 f.kind, .int .i64 f.form, .int .u32 f.as_, .int .u32 f.n, .bool f.flag]) (ds := u8s f.mac) (Blk.range h)
  simpa using this
/-- Numbers that fit. -/
structure FdOk (f : Fd) : Prop where
  as0 : 0 ≤ f.as_
  as1 : f.as_ < 4294967296
  n0 : 0 ≤ f.n
  n1 : f.n < 4294967296
  len : f.mac.length = 6
  oct : Oct f.mac
theorem seg_bd (l : List Int) (ho : Oct l) (k m : Nat) (hm : m ≤ 4) : 0 ≤ numOf (seg l k m) ∧ numOf (seg l k m) < 4294967296 := by
  have hb := numOf_bd (seg l k m) (seg_oct l k m ho)
  have hp : ∀ j, j ≤ 4 → (256 : Int) ^ j ≤ 4294967296 := by decide
  have := hp (seg l k m).length (by unfold seg; rw [List.length_take]; omega)
  exact ⟨hb.1, by omega⟩
theorem z6_oct : Oct z6 := by intro x h; simp [z6] at h; omega
theorem rdF_ok (l : List Int) (hl : l.length = 8) (ho : Oct l) : FdOk (rdF l) := by
  have s := fun k m hm => seg_bd l ho k m hm
  have h6 : (seg l 2 6).length = 6 := seg_len l 2 6 (by omega)
  have o6 := seg_oct l 2 6 ho
  unfold rdF
  repeat' split
  all_goals
    refine ⟨?_, ?_, ?_, ?_, ?_, ?_⟩
    all_goals first
      | exact z6_oct
      | exact o6
      | exact h6
      | exact (s _ _ (by omega)).1
      | exact (s _ _ (by omega)).2
      | exact (by decide : (0 : Int) ≤ 0)
      | exact (by decide : (0 : Int) < 4294967296)
      | rfl
set_option maxHeartbeats 1000000 in
theorem cdec_is (w : World) (E : Env w) (n : Int) (h0 : 0 ≤ n) (h1 : n < 4294967296) :
    Calls Tryd.prog 99 #[.int .u32 n] w fun e w' => e = .returned (.string (decS n)) ∧ Below w.heap.size w w' := by
  have hm : n % 18446744073709551616 = n := Int.emod_eq_of_lt h0 (by omega)
  go_enter Tryd.func99, Tryd.ntmps99
  go_wp2_with fail
  refine (dec_is _ E n h0 (by omega)).mono ?_
  rintro e w1 ⟨rfl, hB⟩
  have HB := Lib.hid hB
  clear hB
  go_wp2
  go_ret
  exact ⟨rfl, HB.out⟩
/-- A word behind a blank, if it is to be said. -/
def fgS (b : Bool) (s : ByteArray) : ByteArray := if b then ⟨#[32]⟩ ++ s else ⟨#[]⟩
set_option maxHeartbeats 1000000 in
theorem ft_is (w : World) (b : Bool) (s : ByteArray) (hs : s.size ≤ 100) : Calls Tryd.prog 100 #[.bool b, .string s] w fun e w' => e = .returned (.string (fgS b s)) ∧ w = w' := by
  have hz : ¬ 9223372036854775807 < 1 + s.size := by omega
  cases b
  all_goals
    go_enter Tryd.func100, Tryd.ntmps100
    go_wp2
    go_ret
    exact ⟨rfl, rfl⟩
/-- A target's As. -/
def asS (fm a : Int) : ByteArray := if fm = 1 then fourS ((four a).take 4) else if fm = 2 then decS a ++ ⟨#[76]⟩ else decS a
theorem four_right (n : Int) (h0 : 0 ≤ n) (h1 : n < 4294967296) : rightB false (four n) = true := by
  unfold rightB four
  simp
set_option maxHeartbeats 2000000 in
set_option maxRecDepth 100000 in
theorem at_is (w : World) (E : Env w) (f : Fd) (hf : FdOk f) :
    Calls Tryd.prog 98 #[.agg (fdA f)] w fun e w' => e = .returned (.string (asS f.form f.as_)) ∧ Below w.heap.size w w' := by
  have hN := Blk.new w 63 (fdA f)
  have HL := Lib.hid ((Below.refl w.heap.size w).alloc (Nat.le_refl _) (.cells (fdA f) 63))
  obtain ⟨-, c1, c2, -, -⟩ := FdCell hN
  have E1 := Lib.hid (E.alloc (.cells (fdA f) 63))
  have a0 := hf.as0
  have a1 := hf.as1
  have hd20 := decS_size f.as_ a0 (by omega)
  have hz1 : ¬ 9223372036854775807 < (decS f.as_).size + 1 := by omega
  have HD : Hid (asS f.form f.as_ = if f.form = 1 then fourS ((four f.as_).take 4) else if f.form = 2 then decS f.as_ ++ ⟨#[76]⟩ else decS f.as_) := Lib.hid rfl
  generalize f.form = fm at *
  generalize f.as_ = a at *
  clear hN hd20 hf
  by_cases h1 : fm = 1
  · subst h1
    go_enter Tryd.func98, Tryd.ntmps98
    go_wp2_with fail
    refine (four_is _ a a0 a1).mono ?_
    rintro e w1 ⟨rfl, hB⟩
    have HL1 := Lib.hid (HL.out.trans (hB.mono (by simp)))
    have E2 := Lib.hid (E1.out.below hB)
    clear hB HL E1 c1 c2
    go_wp2_with fail
    refine (iptext_is _ E2.out false (four a) (four_len a) (four_oct a a0 a1)).mono ?_
    rintro e w2 ⟨hB, he⟩
    rw [four_right a a0 a1, if_pos rfl] at he
    subst he
    have HL2 := Lib.hid (HL1.out.trans (hB.mono HL1.out.size))
    clear hB HL1 E2
    go_wp2
    go_ret
    exact ⟨by unfold asS; rw [if_pos rfl]; rfl, HL2.out⟩
  · by_cases h2 : fm = 2
    · subst h2
      go_enter Tryd.func98, Tryd.ntmps98
      go_wp2_with fail
      refine (cdec_is _ E1.out a a0 a1).mono ?_
      rintro e w1 ⟨rfl, hB⟩
      have HL1 := Lib.hid (HL.out.trans (hB.mono (by simp)))
      clear hB HL E1 c1 c2
      go_wp2
      go_ret
      exact ⟨by unfold asS; rw [if_neg (by decide), if_pos rfl]; rfl, HL1.out⟩
    · have HD2 : Hid (asS fm a = decS a) := Lib.hid (by rw [HD.out, if_neg h1, if_neg h2])
      have b1 : (fm == 1) = false := by simpa using h1
      have b2 : (fm == 2) = false := by simpa using h2
      clear h1 h2 HD
      go_enter Tryd.func98, Tryd.ntmps98
      go_wp2_with fail
      refine (cdec_is _ E1.out a a0 a1).mono ?_
      rintro e w1 ⟨rfl, hB⟩
      have HL1 := Lib.hid (HL.out.trans (hB.mono (by simp)))
      clear hB HL E1 c1 c2
      go_wp2
      go_ret
      exact ⟨by rw [HD2.out]; rfl, HL1.out⟩
/-- Pairs of digits. -/
def hxK (l : List Int) : Nat → List Int
  | 0 => []
  | k + 1 => hxK l k ++ [hexI (l.getD k 0 / 16), hexI (l.getD k 0 % 16)]
theorem hxK_len (l : List Int) : ∀ k, (hxK l k).length = 2 * k
  | 0 => rfl
  | k + 1 => by simp [hxK, hxK_len l k]; omega
theorem hxK_oct (l : List Int) (ho : Oct l) : ∀ k, Oct (hxK l k)
  | 0 => by intro x h; cases h
  | k + 1 => by
    have ih := hxK_oct l ho k
    have hx := ho.getD k
    intro x h
    rcases List.mem_append.1 h with h | h
    · exact ih x h
    · simp only [List.mem_cons, List.mem_nil_iff, or_false] at h
      rcases h with rfl | rfl
      · exact hexI_bd _ (by omega) (by omega)
      · exact hexI_bd _ (by omega) (by omega)
set_option maxHeartbeats 4000000 in
set_option maxRecDepth 100000 in
theorem ht_is (w : World) (l : List Int) (hl : l.length = 8) (ho : Oct l) :
    Calls Tryd.prog 102 #[.agg (u8s l).toArray] w fun e w' => e = .returned (.string (strOfNums (hxK l 8))) ∧ Below w.heap.size w w' := by
  obtain ⟨i0, hi, hz0, hz1, hz2⟩ := info_parts info_u8'
  have hN := Blk.new w 52 (u8s l).toArray
  have hLow := (Below.refl w.heap.size w).alloc (Nat.le_refl _) (.cells (u8s l).toArray 52)
  obtain ⟨wm, hmk, hown, hgrow⟩ := run_make_own (P := Tryd.prog) (w.alloc (.cells (u8s l).toArray 52)) w.heap.size 79 5 i0 (.int .u8 0) 1 Tryd.underlying79 hi hz0 hz1 .i64 .i64 16 (by rw [hz2]; omega) (by unfold maxLen; omega) (by simp)
  rw [size_a1] at hmk hown
  rw [show ((16 : Nat) : Int) = 16 from rfl] at hmk
  have hlm : Below w.heap.size w wm := hLow.trans ⟨hgrow.os, hgrow.tape, hgrow.output, hgrow.size, fun i hi => hgrow.block i (by simp; omega) (fun e => by cases e)⟩
  have HO : Hid (Own8 w wm (.slice (some ⟨w.heap.size + 1, 0, none⟩) 0 16) []) := Lib.hid ⟨hown, hlm⟩
  have HC : Hid (Blk wm w.heap.size 52 (u8s l).toArray) := Lib.hid (hN.grown hgrow (by simp))
  clear hown hgrow hi hz0 hz1 hz2 hlm hLow hN
  go_enter Tryd.func102, Tryd.ntmps102
  go_wp2_with (refine comm_fetch rfl _ rfl w.heap.size 0 l hl rfl HC.out.range ?_)
  clear hmk HC
  go_loopw [3, 5, 8] (fun v _ i wr => ∃ k : Nat, k ≤ 8 ∧ i = .int .i64 k ∧ Own8 w wr v (hxK l k)) (fun _ _ i _ => 8 - (intOf i).toNat)
  case atStart => exact ⟨0, by omega, rfl, HO.out⟩
  case round =>
    obtain ⟨k, hk, rfl, hw⟩ := hrel
    have HW := Lib.hid hw
    clear hw HO
    by_cases hlt : k < 8
    · have hg : (u8s l).toArray[k]? = some (.int .u8 (l.getD k 0)) := by simp [List.getD, show k < l.length by omega]
      have hidx := run_index_one (P := Tryd.prog) (t := 52) (e := 5) (n := 8) Tryd.underlying52 (by kernel_rfl) (run_isAgg_plain Tryd.underlying5 rfl) (u8s l).toArray k _ (by omega) hg
      have hx := ho.getD k
      have hlen := hxK_len l k
      have HP : Hid (hxK l (k + 1) = hxK l k ++ [hexI (l.getD k 0 / 16), hexI (l.getD k 0 % 16)]) := Lib.hid rfl
      clear hg
      generalize l.getD k 0 = x at *
      obtain ⟨d, hd⟩ := Int.eq_ofNat_of_zero_le (show 0 ≤ x / 16 by omega)
      obtain ⟨e, he⟩ := Int.eq_ofNat_of_zero_le (show 0 ≤ x % 16 by omega)
      have hd16 : d < 16 := by omega
      have he16 : e < 16 := by omega
      have hand : bits .and .u8 x 15 = (e : Int) := by rw [and15_8 x hx.1 hx.2, he]
      have HXD := Lib.hid (hex_at16 ⟨d, hd16⟩)
      have HXE := Lib.hid (hex_at16 ⟨e, he16⟩)
      rw [hd, he] at HP
      have hlen2 : (hxK l k).length ≤ 16 := by omega
      clear hlen
      generalize hxK l k = xs at *
      have hdI : (d : Int) < 16 := by omega
      have heI : (e : Int) < 16 := by omega
      generalize u3 = vv at *
      generalize wr = wz at *
      go_wp2
      clear hidx
      refine wp_region_held_drew (S := fun w' => Below w.heap.size w w') (by kernel_rfl) (below_drewN HW.out.low 1) (fun hS => ?_)
      refine wpAnyH_take (i := 0) (oi := ⟨some 11, _, _, _, _, _⟩) (v := ?_) rfl (by kernel_rfl) (by kernel_rfl) (by kernel_rfl) (fun _ _ _ h => h) (Or.inl ⟨by rfl, ?_⟩) hS ?_
      rotate_left
      · intro wq hq
        first | (go_simp; done) | (go_simp; rfl)
      try simp only [Act.put, List.setIfInBounds_toArray, List.set_cons_zero, List.set_cons_succ]
      refine wpAnyH_take (i := 1) (oi := ⟨some 12, _, _, _, _, _⟩) (v := ?_) rfl (by kernel_rfl) (by kernel_rfl) (by kernel_rfl) (fun _ _ _ h => h) (Or.inl ⟨by rfl, ?_⟩) hS ?_
      rotate_left
      · intro wq hq
        first | (go_simp; done) | (go_simp; rfl)
      try simp only [Act.put, List.setIfInBounds_toArray, List.set_cons_zero, List.set_cons_succ]
      refine wpAnyH_take (i := 2) (oi := ⟨some 13, _, _, _, _, _⟩) (v := ?_) rfl (by kernel_rfl) (by kernel_rfl) (by kernel_rfl) (fun _ _ _ h => h) (Or.inl ⟨by rfl, ?_⟩) hS ?_
      rotate_left
      · intro wq hq
        first | (go_simp; done) | (go_simp; rfl)
      try simp only [Act.put, List.setIfInBounds_toArray, List.set_cons_zero, List.set_cons_succ]
      refine wpAnyH_take (i := 3) (oi := ⟨some 14, _, _, _, _, _⟩) (v := ?_) rfl (by kernel_rfl) (by kernel_rfl) (by kernel_rfl) (fun _ _ _ h => h) (Or.inl ⟨by rfl, ?_⟩) hS ?_
      rotate_left
      · intro wq hq
        first | (go_simp; done) | (go_simp; rfl)
      try simp only [Act.put, List.setIfInBounds_toArray, List.set_cons_zero, List.set_cons_succ]
      refine wpAnyH_take (i := 4) (oi := ⟨some 15, _, _, _, _, _⟩) (v := ?_) rfl (by kernel_rfl) (by kernel_rfl) (by kernel_rfl) (fun _ _ _ h => h) (Or.inl ⟨by rfl, ?_⟩) hS ?_
      rotate_left
      · intro wq hq
        first | (go_simp; done) | (go_simp; rfl)
      try simp only [Act.put, List.setIfInBounds_toArray, List.set_cons_zero, List.set_cons_succ]
      refine wpAnyH_take (i := 5) (oi := ⟨some 16, _, _, _, _, _⟩) (v := ?_) rfl (by kernel_rfl) (by kernel_rfl) (by kernel_rfl) (fun _ _ _ h => h) (Or.inl ⟨by rfl, ?_⟩) hS ?_
      rotate_left
      · intro wq hq
        first | (go_simp; done) | (go_simp; rfl)
      try simp only [Act.put, List.setIfInBounds_toArray, List.set_cons_zero, List.set_cons_succ]
      refine wpAnyH_take (i := 6) (oi := ⟨some 17, _, _, _, _, _⟩) (v := ?_) rfl (by kernel_rfl) (by kernel_rfl) (by kernel_rfl) (fun _ _ _ h => h) (Or.inl ⟨by rfl, ?_⟩) hS ?_
      rotate_left
      · intro wq hq
        first | (go_simp; done) | (go_simp; rfl)
      try simp only [Act.put, List.setIfInBounds_toArray, List.set_cons_zero, List.set_cons_succ]
      refine wpAnyH_ready (rs := [7]) (by kernel_rfl) (by simp) ?_
      refine AllReadyH.cons (o := ⟨some 18, _, _, _, _, _⟩) rfl (fun K hK => ?_) AllReadyH.nil
      rw [if_pos (by rfl)]
      go_wp2
      refine hK.out _ _ (below_drewN (HW.out.low.alloc HW.out.low.size _) 1) (fun hS => ?_)
      clear hK K
      try simp only [Act.put, List.setIfInBounds_toArray, List.set_cons_zero, List.set_cons_succ]
      refine wpAnyH_ready (rs := [8]) (by kernel_rfl) (by simp) ?_
      refine AllReadyH.cons (o := ⟨some 19, _, _, _, _, _⟩) rfl (fun K hK => ?_) AllReadyH.nil
      rw [if_pos (by rfl)]
      refine app_wp (wr := wz.drew) (w0 := w) (v := vv) (xs := xs) _ _ rfl [((digs16[d]'(by show d < 16; omega)).toNat : Int), ((digs16[e]'(by show e < 16; omega)).toNat : Int)] ⟨HW.out.own, below_drewN HW.out.low 1⟩ (by simp; omega) rfl rfl ?_
      intro v2 w2 ho2
      rw [HXD.out, HXE.out, ← HP.out] at ho2
      have HO2 := Lib.hid ho2
      have hS2 := ho2.low
      clear ho2
      refine hK.out _ _ hS2 (fun hS => ?_)
      clear hK K
      try simp only [Act.put, List.setIfInBounds_toArray, List.set_cons_zero, List.set_cons_succ]
      refine wpAnyH_take (i := 9) (oi := ⟨some 3, _, _, _, _, _⟩) (v := ?_) rfl (by kernel_rfl) (by kernel_rfl) (by kernel_rfl) (fun _ _ _ h => h) (Or.inl ⟨by rfl, ?_⟩) hS ?_
      rotate_left
      · intro wq hq
        first | (go_simp; done) | (go_simp; rfl)
      try simp only [Act.put, List.setIfInBounds_toArray, List.set_cons_zero, List.set_cons_succ]
      refine wpAnyH_done (by kernel_rfl) ?_ _
      clear hS hS2
      go_wp2
      exact ⟨⟨k + 1, by omega, by go_num, HO2.out⟩, by simp [intOf]; omega⟩
    · obtain rfl : k = 8 := by omega
      obtain ⟨A, c, rfl, hr⟩ := HW.out.rd (hxK_oct l ho 8)
      have hcv := run_conv_rd (P := Tryd.prog) wr 79 9 5 Tryd.underlying79 Tryd.underlying5 Tryd.underlying9 c hr
      have HL := Lib.hid HW.out.low
      clear HW hr
      go_wp2
      go_ret
      exact ⟨rfl, HL.out⟩
end Go.Proofs.YtkaimdcepnhkdaaDoor
namespace Go.Proofs.YtkaimdcepnhkdaaDoor
open Go.RowKit
set_option linter.unusedSimpArgs false
set_option linter.unusedVariables false

theorem rd_isA (w : World) (l : List Int) (hl : l.length = 8) (ho : Oct l) (f : Fd) (hf : rdF l = f) :
    Calls Tryd.prog 50 #[.agg (u8s l).toArray] w fun e w' => e = .returned (.agg (fdA f)) ∧ Below w.heap.size w w' := by
  subst hf
  exact rd_is w l hl ho
def sRt : ByteArray := ⟨#[114, 116, 32]⟩
def sMob : ByteArray := ⟨#[109, 111, 98, 105, 108, 105, 116, 121, 32]⟩
def sLab : ByteArray := ⟨#[101, 115, 105, 45, 108, 97, 98, 101, 108, 32]⟩
def sImp : ByteArray := ⟨#[101, 115, 45, 105, 109, 112, 111, 114, 116, 32]⟩
def sRtr : ByteArray := ⟨#[114, 111, 117, 116, 101, 114, 32]⟩
def sEnc : ByteArray := ⟨#[101, 110, 99, 97, 112, 32]⟩
def sOth : ByteArray := ⟨#[111, 116, 104, 101, 114, 32]⟩
def sSti : ByteArray := ⟨#[115, 116, 105, 99, 107, 121]⟩
def sSin : ByteArray := ⟨#[115, 105, 110, 103, 108, 101]⟩
/-- A community's text, by what it says. -/
def txtF (f : Fd) (l : List Int) : ByteArray :=
  if f.kind = 1 then sRt ++ asS f.form f.as_ ++ ⟨#[58]⟩ ++ decS f.n
  else if f.kind = 2 then sMob ++ decS f.n ++ fgS f.flag sSti
  else if f.kind = 3 then sLab ++ decS f.n ++ fgS f.flag sSin
  else if f.kind = 4 then sImp ++ strOfNums (prK f.mac 6)
  else if f.kind = 5 then sRtr ++ strOfNums (prK f.mac 6)
  else if f.kind = 6 then sEnc ++ decS f.n
  else sOth ++ strOfNums (hxK l 8)
def txt (l : List Int) : ByteArray := txtF (rdF l) l
theorem strOfNums_size (l : List Int) : (strOfNums l).size = l.length := by
  have h := congrArg List.length (strOfNums_data l)
  simpa using h
theorem fgS_size (b : Bool) (s : ByteArray) : (fgS b s).size ≤ 1 + s.size := by
  unfold fgS
  split
  · rw [ByteArray.size_append]; show 1 + s.size ≤ 1 + s.size; omega
  · show 0 ≤ 1 + s.size; omega
theorem asS_size (fm a : Int) (h0 : 0 ≤ a) (h1 : a < 4294967296) : (asS fm a).size ≤ 84 := by
  have hd := decS_size a h0 (by omega)
  unfold asS
  split
  · have := fourS_size ((four a).take 4) (fun x hx => four_oct a h0 h1 x (List.mem_of_mem_take hx))
    rw [List.length_take] at this
    omega
  · split
    · rw [ByteArray.size_append]; show (decS a).size + 1 ≤ 84; omega
    · omega
/-- Text's blocks. -/
structure TX (w0 w : World) (g : Nat) (t : TypeId) (f : Fd) (l : List Int) : Prop where
  com : Blk w w0.heap.size 52 (u8s l).toArray
  var : Blk w g t (fdA f)
  low : Below w0.heap.size w0 w
  env : Env w
theorem TX.below {w0 w w' : World} {g : Nat} {t : TypeId} {f : Fd} {l : List Int} (h : TX w0 w g t f l) (hB : Below w.heap.size w w') : TX w0 w' g t f l :=
  ⟨h.com.below hB h.com.lt, h.var.below hB h.var.lt, h.low.trans (hB.mono h.low.size), h.env.below hB⟩
theorem TX.drew {w0 w : World} {g : Nat} {t : TypeId} {f : Fd} {l : List Int} (h : TX w0 w g t f l) : TX w0 w.drew g t f l := ⟨h.com, h.var, below_drewN h.low 1, h.env.drewN 1⟩
theorem tx_new (w w1 : World) (E : Env w) (l : List Int) (f : Fd) (t : TypeId) (hB : Below (w.alloc (.cells (u8s l).toArray 52)).heap.size (w.alloc (.cells (u8s l).toArray 52)) w1) :
    TX w ((w1.alloc (.cells zfd t)).setRow w1.heap.size (fdA f)) w1.heap.size t f l := by
  rw [size_a1] at hB
  have hz := hB.size
  rw [size_a1] at hz
  have hl : Below w.heap.size w ((w1.alloc (.cells zfd t)).setRow w1.heap.size (fdA f)) := ((((Below.refl w.heap.size w).alloc (Nat.le_refl _) _).trans (hB.mono (by omega))).alloc (by omega) _).trans (below_setRow _ _ _ (by omega))
  exact ⟨(((Blk.new w 52 _).below hB (by omega)).alloc _).below (below_setRow _ w1.heap.size _ (Nat.le_refl _)) (by omega), Blk.setRow (Blk.new w1 t zfd) _, hl, E.below hl⟩
theorem txtF_1 (f : Fd) (l : List Int) (hk : f.kind = 1) : txtF f l = sRt ++ asS f.form f.as_ ++ ⟨#[58]⟩ ++ decS f.n := by unfold txtF; rw [if_pos hk]
set_option maxHeartbeats 2000000 in
set_option maxRecDepth 100000 in
theorem tx_1 (w : World) (E : Env w) (l : List Int) (hl : l.length = 8) (ho : Oct l) (f : Fd) (hf : rdF l = f) (ok : FdOk f) (hk : f.kind = 1) :
    Calls Tryd.prog 52 #[.agg (u8s l).toArray] w fun e w' => e = .returned (.string (txtF f l)) ∧ Below w.heap.size w w' := by
  rw [txtF_1 f l hk]
  have HC := Lib.hid (Blk.new w 52 (u8s l).toArray)
  have HF := Lib.hid hf
  have HOk := Lib.hid ok
  have a0 := ok.as0
  have a1 := ok.as1
  have n0 := ok.n0
  have n1 := ok.n1
  clear hf ok
  go_enter Tryd.func52, Tryd.ntmps52
  go_wp2_with (refine comm_fetch rfl _ rfl w.heap.size 0 l hl rfl HC.out.range ?_)
  refine (rd_isA _ l hl ho f HF.out).mono ?_
  rintro e w1 ⟨rfl, hB⟩
  have HT := Lib.hid (tx_new w w1 E l f 63 hB)
  have HN := Lib.hid (Blk.new w1 63 zfd)
  have c0 := (FdCell HT.out.var).1
  rw [hk] at c0
  clear hk hB HC HF
  have hs1 := asS_size f.form f.as_ a0 a1
  have hs2 := decS_size f.n n0 (by omega)
  have hz1 : ¬ 9223372036854775807 < 3 + (asS f.form f.as_).size := by omega
  have hz2 : ¬ 9223372036854775807 < 3 + (asS f.form f.as_).size + 1 := by omega
  have hz3 : ¬ 9223372036854775807 < 3 + (asS f.form f.as_).size + 1 + (decS f.n).size := by omega
  clear hs1 hs2
  go_wp2_with (refine fdA_store rfl _ _ rfl w1.heap.size f HOk.out.len rfl rfl 63 zfd HN.out rfl ?_)
  clear c0 HN
  generalize ((w1.alloc (.cells zfd 63)).setRow w1.heap.size (fdA f)) = w2 at *
  generalize w1.heap.size = g at *
  refine wp_region_held_drew (S := fun w' => TX w w' g 63 f l) (by kernel_rfl) (HT.out.drew) (fun hS => ?_)
  refine wpAnyH_take (i := 0) (oi := ⟨some 10, _, _, _, _, _⟩) rfl (by kernel_rfl) (by kernel_rfl) (by kernel_rfl) (fun _ _ _ h => h) (yieldsIf_load_mid (by rfl) 63 _ rfl _ _ rfl (fdc f) _ (fun wq hq => Blk.range hq.var) Tryd.underlying63 rfl (by simpa using fdc_size f HOk.out.len)) hS ?_
  try simp only [Act.put, List.setIfInBounds_toArray, List.set_cons_zero, List.set_cons_succ]
  refine wpAnyH_take (i := 4) (oi := ⟨some 14, _, _, _, _, _⟩) (v := ?_) rfl (by kernel_rfl) (by kernel_rfl) (by kernel_rfl) (fun _ _ _ h => h) (Or.inl ⟨by rfl, ?_⟩) hS ?_
  rotate_left
  · intro wq hq
    first | (go_simp; done) | (go_simp; rfl)
  try simp only [Act.put, List.setIfInBounds_toArray, List.set_cons_zero, List.set_cons_succ]
  refine wpAnyH_take (i := 5) (oi := ⟨some 15, _, _, _, _, _⟩) (v := ?_) rfl (by kernel_rfl) (by kernel_rfl) (by kernel_rfl) (fun _ _ _ h => h) (Or.inl ⟨by rfl, ?_⟩) hS ?_
  rotate_left
  · intro wq hq
    have hc := (FdCell hq.var).2.2.2.1
    first | (go_simp; done) | (go_simp; rfl)
  try simp only [Act.put, List.setIfInBounds_toArray, List.set_cons_zero, List.set_cons_succ]
  refine wpAnyH_ready (rs := [1]) (by kernel_rfl) (by simp) ?_
  refine AllReadyH.cons (o := ⟨some 11, _, _, _, _, _⟩) rfl (fun K hK => ?_) AllReadyH.nil
  rw [if_pos (by rfl)]
  go_wp2_with fail
  refine (at_is _ hS.env f HOk.out).mono ?_
  rintro e w3 ⟨rfl, hB⟩
  have hS3 := hS.below hB
  refine hK.out _ _ (hS3) (fun hS => ?_)
  clear hK K
  try simp only [Act.put, List.setIfInBounds_toArray, List.set_cons_zero, List.set_cons_succ]
  refine wpAnyH_take (i := 2) (oi := ⟨some 12, _, _, _, _, _⟩) (v := ?_) rfl (by kernel_rfl) (by kernel_rfl) (by kernel_rfl) (fun _ _ _ h => h) (Or.inl ⟨by rfl, ?_⟩) hS ?_
  rotate_left
  · intro wq hq
    first | (go_simp; done) | (go_simp; rfl)
  try simp only [Act.put, List.setIfInBounds_toArray, List.set_cons_zero, List.set_cons_succ]
  refine wpAnyH_take (i := 3) (oi := ⟨some 13, _, _, _, _, _⟩) (v := ?_) rfl (by kernel_rfl) (by kernel_rfl) (by kernel_rfl) (fun _ _ _ h => h) (Or.inl ⟨by rfl, ?_⟩) hS ?_
  rotate_left
  · intro wq hq
    first | (go_simp; done) | (go_simp; rfl)
  try simp only [Act.put, List.setIfInBounds_toArray, List.set_cons_zero, List.set_cons_succ]
  refine wpAnyH_ready (rs := [6]) (by kernel_rfl) (by simp) ?_
  refine AllReadyH.cons (o := ⟨some 16, _, _, _, _, _⟩) rfl (fun K hK => ?_) AllReadyH.nil
  rw [if_pos (by rfl)]
  go_wp2_with fail
  refine (cdec_is _ hS3.env f.n n0 n1).mono ?_
  rintro e w4 ⟨rfl, hB⟩
  have hS4 := hS3.below hB
  refine hK.out _ _ (hS4) (fun hS => ?_)
  clear hK K
  try simp only [Act.put, List.setIfInBounds_toArray, List.set_cons_zero, List.set_cons_succ]
  refine wpAnyH_take (i := 7) (oi := ⟨some 17, _, _, _, _, _⟩) (v := ?_) rfl (by kernel_rfl) (by kernel_rfl) (by kernel_rfl) (fun _ _ _ h => h) (Or.inl ⟨by rfl, ?_⟩) hS ?_
  rotate_left
  · intro wq hq
    first | (go_simp; done) | (go_simp; rfl)
  try simp only [Act.put, List.setIfInBounds_toArray, List.set_cons_zero, List.set_cons_succ]
  refine wpAnyH_take (i := 8) (oi := ⟨some 2, _, _, _, _, _⟩) (v := ?_) rfl (by kernel_rfl) (by kernel_rfl) (by kernel_rfl) (fun _ _ _ h => h) (Or.inl ⟨by rfl, ?_⟩) hS ?_
  rotate_left
  · intro wq hq
    first | (go_simp; done) | (go_simp; rfl)
  try simp only [Act.put, List.setIfInBounds_toArray, List.set_cons_zero, List.set_cons_succ]
  refine wpAnyH_done (by kernel_rfl) ?_ _
  go_wp2
  go_ret
  exact ⟨rfl, hS4.low⟩
theorem txtF_2 (f : Fd) (l : List Int) (hk : f.kind = 2) : txtF f l = sMob ++ decS f.n ++ fgS f.flag sSti := by unfold txtF; rw [if_neg (by rw [hk]; decide)]; rw [if_pos hk]
set_option maxHeartbeats 2000000 in
set_option maxRecDepth 100000 in
theorem tx_2 (w : World) (E : Env w) (l : List Int) (hl : l.length = 8) (ho : Oct l) (f : Fd) (hf : rdF l = f) (ok : FdOk f) (hk : f.kind = 2) :
    Calls Tryd.prog 52 #[.agg (u8s l).toArray] w fun e w' => e = .returned (.string (txtF f l)) ∧ Below w.heap.size w w' := by
  rw [txtF_2 f l hk]
  have HC := Lib.hid (Blk.new w 52 (u8s l).toArray)
  have HF := Lib.hid hf
  have HOk := Lib.hid ok
  have a0 := ok.as0
  have a1 := ok.as1
  have n0 := ok.n0
  have n1 := ok.n1
  clear hf ok
  go_enter Tryd.func52, Tryd.ntmps52
  go_wp2_with (refine comm_fetch rfl _ rfl w.heap.size 0 l hl rfl HC.out.range ?_)
  refine (rd_isA _ l hl ho f HF.out).mono ?_
  rintro e w1 ⟨rfl, hB⟩
  have HT := Lib.hid (tx_new w w1 E l f 63 hB)
  have HN := Lib.hid (Blk.new w1 63 zfd)
  have c0 := (FdCell HT.out.var).1
  rw [hk] at c0
  clear hk hB HC HF
  have hs2 := decS_size f.n n0 (by omega)
  have hs1 := fgS_size f.flag sSti
  have hs3 : sSti.size = 6 := rfl
  have hz1 : ¬ 9223372036854775807 < 9 + (decS f.n).size := by omega
  have hz2 : ¬ 9223372036854775807 < 9 + (decS f.n).size + (fgS f.flag sSti).size := by omega
  clear hs1 hs2 hs3
  go_wp2_with (refine fdA_store rfl _ _ rfl w1.heap.size f HOk.out.len rfl rfl 63 zfd HN.out rfl ?_)
  clear c0 HN
  generalize ((w1.alloc (.cells zfd 63)).setRow w1.heap.size (fdA f)) = w2 at *
  generalize w1.heap.size = g at *
  refine wp_region_held_drew (S := fun w' => TX w w' g 63 f l) (by kernel_rfl) (HT.out.drew) (fun hS => ?_)
  refine wpAnyH_take (i := 0) (oi := ⟨some 20, _, _, _, _, _⟩) (v := ?_) rfl (by kernel_rfl) (by kernel_rfl) (by kernel_rfl) (fun _ _ _ h => h) (Or.inl ⟨by rfl, ?_⟩) hS ?_
  rotate_left
  · intro wq hq
    first | (go_simp; done) | (go_simp; rfl)
  try simp only [Act.put, List.setIfInBounds_toArray, List.set_cons_zero, List.set_cons_succ]
  refine wpAnyH_take (i := 1) (oi := ⟨some 21, _, _, _, _, _⟩) (v := ?_) rfl (by kernel_rfl) (by kernel_rfl) (by kernel_rfl) (fun _ _ _ h => h) (Or.inl ⟨by rfl, ?_⟩) hS ?_
  rotate_left
  · intro wq hq
    have hc := (FdCell hq.var).2.2.2.1
    first | (go_simp; done) | (go_simp; rfl)
  try simp only [Act.put, List.setIfInBounds_toArray, List.set_cons_zero, List.set_cons_succ]
  refine wpAnyH_take (i := 4) (oi := ⟨some 24, _, _, _, _, _⟩) (v := ?_) rfl (by kernel_rfl) (by kernel_rfl) (by kernel_rfl) (fun _ _ _ h => h) (Or.inl ⟨by rfl, ?_⟩) hS ?_
  rotate_left
  · intro wq hq
    first | (go_simp; done) | (go_simp; rfl)
  try simp only [Act.put, List.setIfInBounds_toArray, List.set_cons_zero, List.set_cons_succ]
  refine wpAnyH_take (i := 5) (oi := ⟨some 25, _, _, _, _, _⟩) (v := ?_) rfl (by kernel_rfl) (by kernel_rfl) (by kernel_rfl) (fun _ _ _ h => h) (Or.inl ⟨by rfl, ?_⟩) hS ?_
  rotate_left
  · intro wq hq
    have hc := (FdCell hq.var).2.2.2.2
    first | (go_simp; done) | (go_simp; rfl)
  try simp only [Act.put, List.setIfInBounds_toArray, List.set_cons_zero, List.set_cons_succ]
  refine wpAnyH_ready (rs := [2]) (by kernel_rfl) (by simp) ?_
  refine AllReadyH.cons (o := ⟨some 22, _, _, _, _, _⟩) rfl (fun K hK => ?_) AllReadyH.nil
  rw [if_pos (by rfl)]
  go_wp2_with fail
  refine (cdec_is _ hS.env f.n n0 n1).mono ?_
  rintro e w3 ⟨rfl, hB⟩
  have hS3 := hS.below hB
  refine hK.out _ _ (hS3) (fun hS => ?_)
  clear hK K
  try simp only [Act.put, List.setIfInBounds_toArray, List.set_cons_zero, List.set_cons_succ]
  refine wpAnyH_take (i := 3) (oi := ⟨some 23, _, _, _, _, _⟩) (v := ?_) rfl (by kernel_rfl) (by kernel_rfl) (by kernel_rfl) (fun _ _ _ h => h) (Or.inl ⟨by rfl, ?_⟩) hS ?_
  rotate_left
  · intro wq hq
    first | (go_simp; done) | (go_simp; rfl)
  try simp only [Act.put, List.setIfInBounds_toArray, List.set_cons_zero, List.set_cons_succ]
  refine wpAnyH_ready (rs := [6]) (by kernel_rfl) (by simp) ?_
  refine AllReadyH.cons (o := ⟨some 26, _, _, _, _, _⟩) rfl (fun K hK => ?_) AllReadyH.nil
  rw [if_pos (by rfl)]
  go_wp2_with fail
  refine (ft_is _ f.flag sSti (by decide)).mono ?_
  rintro e w4 ⟨rfl, rfl⟩
  refine hK.out _ _ (hS3) (fun hS => ?_)
  clear hK K
  try simp only [Act.put, List.setIfInBounds_toArray, List.set_cons_zero, List.set_cons_succ]
  refine wpAnyH_take (i := 7) (oi := ⟨some 27, _, _, _, _, _⟩) (v := ?_) rfl (by kernel_rfl) (by kernel_rfl) (by kernel_rfl) (fun _ _ _ h => h) (Or.inl ⟨by rfl, ?_⟩) hS ?_
  rotate_left
  · intro wq hq
    first | (go_simp; done) | (go_simp; rfl)
  try simp only [Act.put, List.setIfInBounds_toArray, List.set_cons_zero, List.set_cons_succ]
  refine wpAnyH_take (i := 8) (oi := ⟨some 2, _, _, _, _, _⟩) (v := ?_) rfl (by kernel_rfl) (by kernel_rfl) (by kernel_rfl) (fun _ _ _ h => h) (Or.inl ⟨by rfl, ?_⟩) hS ?_
  rotate_left
  · intro wq hq
    first | (go_simp; done) | (go_simp; rfl)
  try simp only [Act.put, List.setIfInBounds_toArray, List.set_cons_zero, List.set_cons_succ]
  refine wpAnyH_done (by kernel_rfl) ?_ _
  go_wp2
  go_ret
  exact ⟨rfl, hS3.low⟩
theorem txtF_3 (f : Fd) (l : List Int) (hk : f.kind = 3) : txtF f l = sLab ++ decS f.n ++ fgS f.flag sSin := by unfold txtF; rw [if_neg (by rw [hk]; decide)]; rw [if_neg (by rw [hk]; decide)]; rw [if_pos hk]
set_option maxHeartbeats 2000000 in
set_option maxRecDepth 100000 in
theorem tx_3 (w : World) (E : Env w) (l : List Int) (hl : l.length = 8) (ho : Oct l) (f : Fd) (hf : rdF l = f) (ok : FdOk f) (hk : f.kind = 3) :
    Calls Tryd.prog 52 #[.agg (u8s l).toArray] w fun e w' => e = .returned (.string (txtF f l)) ∧ Below w.heap.size w w' := by
  rw [txtF_3 f l hk]
  have HC := Lib.hid (Blk.new w 52 (u8s l).toArray)
  have HF := Lib.hid hf
  have HOk := Lib.hid ok
  have a0 := ok.as0
  have a1 := ok.as1
  have n0 := ok.n0
  have n1 := ok.n1
  clear hf ok
  go_enter Tryd.func52, Tryd.ntmps52
  go_wp2_with (refine comm_fetch rfl _ rfl w.heap.size 0 l hl rfl HC.out.range ?_)
  refine (rd_isA _ l hl ho f HF.out).mono ?_
  rintro e w1 ⟨rfl, hB⟩
  have HT := Lib.hid (tx_new w w1 E l f 63 hB)
  have HN := Lib.hid (Blk.new w1 63 zfd)
  have c0 := (FdCell HT.out.var).1
  rw [hk] at c0
  clear hk hB HC HF
  have hs2 := decS_size f.n n0 (by omega)
  have hs1 := fgS_size f.flag sSin
  have hs3 : sSin.size = 6 := rfl
  have hz1 : ¬ 9223372036854775807 < 10 + (decS f.n).size := by omega
  have hz2 : ¬ 9223372036854775807 < 10 + (decS f.n).size + (fgS f.flag sSin).size := by omega
  clear hs1 hs2 hs3
  go_wp2_with (refine fdA_store rfl _ _ rfl w1.heap.size f HOk.out.len rfl rfl 63 zfd HN.out rfl ?_)
  clear c0 HN
  generalize ((w1.alloc (.cells zfd 63)).setRow w1.heap.size (fdA f)) = w2 at *
  generalize w1.heap.size = g at *
  refine wp_region_held_drew (S := fun w' => TX w w' g 63 f l) (by kernel_rfl) (HT.out.drew) (fun hS => ?_)
  refine wpAnyH_take (i := 0) (oi := ⟨some 30, _, _, _, _, _⟩) (v := ?_) rfl (by kernel_rfl) (by kernel_rfl) (by kernel_rfl) (fun _ _ _ h => h) (Or.inl ⟨by rfl, ?_⟩) hS ?_
  rotate_left
  · intro wq hq
    first | (go_simp; done) | (go_simp; rfl)
  try simp only [Act.put, List.setIfInBounds_toArray, List.set_cons_zero, List.set_cons_succ]
  refine wpAnyH_take (i := 1) (oi := ⟨some 31, _, _, _, _, _⟩) (v := ?_) rfl (by kernel_rfl) (by kernel_rfl) (by kernel_rfl) (fun _ _ _ h => h) (Or.inl ⟨by rfl, ?_⟩) hS ?_
  rotate_left
  · intro wq hq
    have hc := (FdCell hq.var).2.2.2.1
    first | (go_simp; done) | (go_simp; rfl)
  try simp only [Act.put, List.setIfInBounds_toArray, List.set_cons_zero, List.set_cons_succ]
  refine wpAnyH_take (i := 4) (oi := ⟨some 34, _, _, _, _, _⟩) (v := ?_) rfl (by kernel_rfl) (by kernel_rfl) (by kernel_rfl) (fun _ _ _ h => h) (Or.inl ⟨by rfl, ?_⟩) hS ?_
  rotate_left
  · intro wq hq
    first | (go_simp; done) | (go_simp; rfl)
  try simp only [Act.put, List.setIfInBounds_toArray, List.set_cons_zero, List.set_cons_succ]
  refine wpAnyH_take (i := 5) (oi := ⟨some 35, _, _, _, _, _⟩) (v := ?_) rfl (by kernel_rfl) (by kernel_rfl) (by kernel_rfl) (fun _ _ _ h => h) (Or.inl ⟨by rfl, ?_⟩) hS ?_
  rotate_left
  · intro wq hq
    have hc := (FdCell hq.var).2.2.2.2
    first | (go_simp; done) | (go_simp; rfl)
  try simp only [Act.put, List.setIfInBounds_toArray, List.set_cons_zero, List.set_cons_succ]
  refine wpAnyH_ready (rs := [2]) (by kernel_rfl) (by simp) ?_
  refine AllReadyH.cons (o := ⟨some 32, _, _, _, _, _⟩) rfl (fun K hK => ?_) AllReadyH.nil
  rw [if_pos (by rfl)]
  go_wp2_with fail
  refine (cdec_is _ hS.env f.n n0 n1).mono ?_
  rintro e w3 ⟨rfl, hB⟩
  have hS3 := hS.below hB
  refine hK.out _ _ (hS3) (fun hS => ?_)
  clear hK K
  try simp only [Act.put, List.setIfInBounds_toArray, List.set_cons_zero, List.set_cons_succ]
  refine wpAnyH_take (i := 3) (oi := ⟨some 33, _, _, _, _, _⟩) (v := ?_) rfl (by kernel_rfl) (by kernel_rfl) (by kernel_rfl) (fun _ _ _ h => h) (Or.inl ⟨by rfl, ?_⟩) hS ?_
  rotate_left
  · intro wq hq
    first | (go_simp; done) | (go_simp; rfl)
  try simp only [Act.put, List.setIfInBounds_toArray, List.set_cons_zero, List.set_cons_succ]
  refine wpAnyH_ready (rs := [6]) (by kernel_rfl) (by simp) ?_
  refine AllReadyH.cons (o := ⟨some 36, _, _, _, _, _⟩) rfl (fun K hK => ?_) AllReadyH.nil
  rw [if_pos (by rfl)]
  go_wp2_with fail
  refine (ft_is _ f.flag sSin (by decide)).mono ?_
  rintro e w4 ⟨rfl, rfl⟩
  refine hK.out _ _ (hS3) (fun hS => ?_)
  clear hK K
  try simp only [Act.put, List.setIfInBounds_toArray, List.set_cons_zero, List.set_cons_succ]
  refine wpAnyH_take (i := 7) (oi := ⟨some 37, _, _, _, _, _⟩) (v := ?_) rfl (by kernel_rfl) (by kernel_rfl) (by kernel_rfl) (fun _ _ _ h => h) (Or.inl ⟨by rfl, ?_⟩) hS ?_
  rotate_left
  · intro wq hq
    first | (go_simp; done) | (go_simp; rfl)
  try simp only [Act.put, List.setIfInBounds_toArray, List.set_cons_zero, List.set_cons_succ]
  refine wpAnyH_take (i := 8) (oi := ⟨some 2, _, _, _, _, _⟩) (v := ?_) rfl (by kernel_rfl) (by kernel_rfl) (by kernel_rfl) (fun _ _ _ h => h) (Or.inl ⟨by rfl, ?_⟩) hS ?_
  rotate_left
  · intro wq hq
    first | (go_simp; done) | (go_simp; rfl)
  try simp only [Act.put, List.setIfInBounds_toArray, List.set_cons_zero, List.set_cons_succ]
  refine wpAnyH_done (by kernel_rfl) ?_ _
  go_wp2
  go_ret
  exact ⟨rfl, hS3.low⟩
theorem txtF_4 (f : Fd) (l : List Int) (hk : f.kind = 4) : txtF f l = sImp ++ strOfNums (prK f.mac 6) := by unfold txtF; rw [if_neg (by rw [hk]; decide)]; rw [if_neg (by rw [hk]; decide)]; rw [if_neg (by rw [hk]; decide)]; rw [if_pos hk]
set_option maxHeartbeats 2000000 in
set_option maxRecDepth 100000 in
theorem tx_4 (w : World) (E : Env w) (l : List Int) (hl : l.length = 8) (ho : Oct l) (f : Fd) (hf : rdF l = f) (ok : FdOk f) (hk : f.kind = 4) :
    Calls Tryd.prog 52 #[.agg (u8s l).toArray] w fun e w' => e = .returned (.string (txtF f l)) ∧ Below w.heap.size w w' := by
  rw [txtF_4 f l hk]
  have HC := Lib.hid (Blk.new w 52 (u8s l).toArray)
  have HF := Lib.hid hf
  have HOk := Lib.hid ok
  have a0 := ok.as0
  have a1 := ok.as1
  have n0 := ok.n0
  have n1 := ok.n1
  clear hf ok
  go_enter Tryd.func52, Tryd.ntmps52
  go_wp2_with (refine comm_fetch rfl _ rfl w.heap.size 0 l hl rfl HC.out.range ?_)
  refine (rd_isA _ l hl ho f HF.out).mono ?_
  rintro e w1 ⟨rfl, hB⟩
  have HT := Lib.hid (tx_new w w1 E l f 63 hB)
  have HN := Lib.hid (Blk.new w1 63 zfd)
  have c0 := (FdCell HT.out.var).1
  rw [hk] at c0
  clear hk hB HC HF
  have hs1 : (strOfNums (prK f.mac 6)).size ≤ 18 := by rw [strOfNums_size]; exact prK_len f.mac 6
  have hz1 : ¬ 9223372036854775807 < 10 + (strOfNums (prK f.mac 6)).size := by omega
  clear hs1
  go_wp2_with (first
    | (refine fdA_store rfl _ _ rfl w1.heap.size f HOk.out.len rfl rfl 63 zfd HN.out rfl ?_)
    | (refine mac6_fetch rfl _ rfl w1.heap.size 5 f.mac HOk.out.len rfl (FdMac HT.out.var) ?_))
  refine (mact_is _ f.mac HOk.out.len HOk.out.oct).mono ?_
  rintro e w3 ⟨rfl, hB⟩
  have HT3 := Lib.hid (HT.out.below hB)
  clear hB HT c0 HN
  go_wp2
  go_ret
  exact ⟨rfl, HT3.out.low⟩
theorem txtF_5 (f : Fd) (l : List Int) (hk : f.kind = 5) : txtF f l = sRtr ++ strOfNums (prK f.mac 6) := by unfold txtF; rw [if_neg (by rw [hk]; decide)]; rw [if_neg (by rw [hk]; decide)]; rw [if_neg (by rw [hk]; decide)]; rw [if_neg (by rw [hk]; decide)]; rw [if_pos hk]
set_option maxHeartbeats 2000000 in
set_option maxRecDepth 100000 in
theorem tx_5 (w : World) (E : Env w) (l : List Int) (hl : l.length = 8) (ho : Oct l) (f : Fd) (hf : rdF l = f) (ok : FdOk f) (hk : f.kind = 5) :
    Calls Tryd.prog 52 #[.agg (u8s l).toArray] w fun e w' => e = .returned (.string (txtF f l)) ∧ Below w.heap.size w w' := by
  rw [txtF_5 f l hk]
  have HC := Lib.hid (Blk.new w 52 (u8s l).toArray)
  have HF := Lib.hid hf
  have HOk := Lib.hid ok
  have a0 := ok.as0
  have a1 := ok.as1
  have n0 := ok.n0
  have n1 := ok.n1
  clear hf ok
  go_enter Tryd.func52, Tryd.ntmps52
  go_wp2_with (refine comm_fetch rfl _ rfl w.heap.size 0 l hl rfl HC.out.range ?_)
  refine (rd_isA _ l hl ho f HF.out).mono ?_
  rintro e w1 ⟨rfl, hB⟩
  have HT := Lib.hid (tx_new w w1 E l f 63 hB)
  have HN := Lib.hid (Blk.new w1 63 zfd)
  have c0 := (FdCell HT.out.var).1
  rw [hk] at c0
  clear hk hB HC HF
  have hs1 : (strOfNums (prK f.mac 6)).size ≤ 18 := by rw [strOfNums_size]; exact prK_len f.mac 6
  have hz1 : ¬ 9223372036854775807 < 7 + (strOfNums (prK f.mac 6)).size := by omega
  clear hs1
  go_wp2_with (first
    | (refine fdA_store rfl _ _ rfl w1.heap.size f HOk.out.len rfl rfl 63 zfd HN.out rfl ?_)
    | (refine mac6_fetch rfl _ rfl w1.heap.size 5 f.mac HOk.out.len rfl (FdMac HT.out.var) ?_))
  refine (mact_is _ f.mac HOk.out.len HOk.out.oct).mono ?_
  rintro e w3 ⟨rfl, hB⟩
  have HT3 := Lib.hid (HT.out.below hB)
  clear hB HT c0 HN
  go_wp2
  go_ret
  exact ⟨rfl, HT3.out.low⟩
theorem txtF_6 (f : Fd) (l : List Int) (hk : f.kind = 6) : txtF f l = sEnc ++ decS f.n := by unfold txtF; rw [if_neg (by rw [hk]; decide)]; rw [if_neg (by rw [hk]; decide)]; rw [if_neg (by rw [hk]; decide)]; rw [if_neg (by rw [hk]; decide)]; rw [if_neg (by rw [hk]; decide)]; rw [if_pos hk]
set_option maxHeartbeats 2000000 in
set_option maxRecDepth 100000 in
theorem tx_6 (w : World) (E : Env w) (l : List Int) (hl : l.length = 8) (ho : Oct l) (f : Fd) (hf : rdF l = f) (ok : FdOk f) (hk : f.kind = 6) :
    Calls Tryd.prog 52 #[.agg (u8s l).toArray] w fun e w' => e = .returned (.string (txtF f l)) ∧ Below w.heap.size w w' := by
  rw [txtF_6 f l hk]
  have HC := Lib.hid (Blk.new w 52 (u8s l).toArray)
  have HF := Lib.hid hf
  have HOk := Lib.hid ok
  have a0 := ok.as0
  have a1 := ok.as1
  have n0 := ok.n0
  have n1 := ok.n1
  clear hf ok
  go_enter Tryd.func52, Tryd.ntmps52
  go_wp2_with (refine comm_fetch rfl _ rfl w.heap.size 0 l hl rfl HC.out.range ?_)
  refine (rd_isA _ l hl ho f HF.out).mono ?_
  rintro e w1 ⟨rfl, hB⟩
  have HT := Lib.hid (tx_new w w1 E l f 63 hB)
  have HN := Lib.hid (Blk.new w1 63 zfd)
  have c0 := (FdCell HT.out.var).1
  rw [hk] at c0
  clear hk hB HC HF
  have c3 := (FdCell HT.out.var).2.2.2.1
  have hs2 := decS_size f.n n0 (by omega)
  have hz1 : ¬ 9223372036854775807 < 6 + (decS f.n).size := by omega
  clear hs2
  go_wp2_with (refine fdA_store rfl _ _ rfl w1.heap.size f HOk.out.len rfl rfl 63 zfd HN.out rfl ?_)
  refine (cdec_is _ HT.out.env f.n n0 n1).mono ?_
  rintro e w3 ⟨rfl, hB⟩
  have HT3 := Lib.hid (HT.out.below hB)
  clear hB HT c0 c3 HN
  go_wp2
  go_ret
  exact ⟨rfl, HT3.out.low⟩
theorem txtF_0 (f : Fd) (l : List Int) (hk : f.kind ≠ 1 ∧ f.kind ≠ 2 ∧ f.kind ≠ 3 ∧ f.kind ≠ 4 ∧ f.kind ≠ 5 ∧ f.kind ≠ 6) : txtF f l = sOth ++ strOfNums (hxK l 8) := by unfold txtF; rw [if_neg hk.1, if_neg hk.2.1, if_neg hk.2.2.1, if_neg hk.2.2.2.1, if_neg hk.2.2.2.2.1, if_neg hk.2.2.2.2.2]
set_option maxHeartbeats 2000000 in
set_option maxRecDepth 100000 in
theorem tx_0 (w : World) (E : Env w) (l : List Int) (hl : l.length = 8) (ho : Oct l) (f : Fd) (hf : rdF l = f) (ok : FdOk f) (hk : f.kind ≠ 1 ∧ f.kind ≠ 2 ∧ f.kind ≠ 3 ∧ f.kind ≠ 4 ∧ f.kind ≠ 5 ∧ f.kind ≠ 6) :
    Calls Tryd.prog 52 #[.agg (u8s l).toArray] w fun e w' => e = .returned (.string (txtF f l)) ∧ Below w.heap.size w w' := by
  rw [txtF_0 f l hk]
  have HC := Lib.hid (Blk.new w 52 (u8s l).toArray)
  have HF := Lib.hid hf
  have HOk := Lib.hid ok
  have a0 := ok.as0
  have a1 := ok.as1
  have n0 := ok.n0
  have n1 := ok.n1
  clear hf ok
  go_enter Tryd.func52, Tryd.ntmps52
  go_wp2_with (refine comm_fetch rfl _ rfl w.heap.size 0 l hl rfl HC.out.range ?_)
  refine (rd_isA _ l hl ho f HF.out).mono ?_
  rintro e w1 ⟨rfl, hB⟩
  have HT := Lib.hid (tx_new w w1 E l f 63 hB)
  have HN := Lib.hid (Blk.new w1 63 zfd)
  have c0 := (FdCell HT.out.var).1
  obtain ⟨k1, k2, k3, k4, k5, k6⟩ := hk
  have b1 : (f.kind == 1) = false := by simpa using k1
  have b2 : (f.kind == 2) = false := by simpa using k2
  have b3 : (f.kind == 3) = false := by simpa using k3
  have b4 : (f.kind == 4) = false := by simpa using k4
  have b5 : (f.kind == 5) = false := by simpa using k5
  have b6 : (f.kind == 6) = false := by simpa using k6
  clear k1 k2 k3 k4 k5 k6 hB HC HF
  have hs1 : (strOfNums (hxK l 8)).size = 16 := by rw [strOfNums_size]; exact hxK_len l 8
  have hz1 : ¬ 9223372036854775807 < 6 + (strOfNums (hxK l 8)).size := by omega
  clear hs1
  go_wp2_with (first
    | (refine fdA_store rfl _ _ rfl w1.heap.size f HOk.out.len rfl rfl 63 zfd HN.out rfl ?_)
    | (refine comm_fetch rfl _ rfl w.heap.size 0 l hl rfl HT.out.com.range ?_))
  refine (ht_is _ l hl ho).mono ?_
  rintro e w3 ⟨rfl, hB⟩
  have HT3 := Lib.hid (HT.out.below hB)
  clear hB HT c0 HN
  go_wp2
  go_ret
  exact ⟨rfl, HT3.out.low⟩
theorem tx_is (w : World) (E : Env w) (l : List Int) (hl : l.length = 8) (ho : Oct l) :
    Calls Tryd.prog 52 #[.agg (u8s l).toArray] w fun e w' => e = .returned (.string (txt l)) ∧ Below w.heap.size w w' := by
  have ok := rdF_ok l hl ho
  unfold txt
  rcases (show (rdF l).kind = 1 ∨ (rdF l).kind = 2 ∨ (rdF l).kind = 3 ∨ (rdF l).kind = 4 ∨ (rdF l).kind = 5 ∨ (rdF l).kind = 6 ∨ ((rdF l).kind ≠ 1 ∧ (rdF l).kind ≠ 2 ∧ (rdF l).kind ≠ 3 ∧ (rdF l).kind ≠ 4 ∧ (rdF l).kind ≠ 5 ∧ (rdF l).kind ≠ 6) by omega) with h | h | h | h | h | h | h
  · exact tx_1 w E l hl ho _ rfl ok h
  · exact tx_2 w E l hl ho _ rfl ok h
  · exact tx_3 w E l hl ho _ rfl ok h
  · exact tx_4 w E l hl ho _ rfl ok h
  · exact tx_5 w E l hl ho _ rfl ok h
  · exact tx_6 w E l hl ho _ rfl ok h
  · exact tx_0 w E l hl ho _ rfl ok h
end Go.Proofs.YtkaimdcepnhkdaaDoor
namespace Go.Proofs.YtkaimdcepnhkdaaDoor
open Go.RowKit
set_option linter.unusedSimpArgs false
set_option linter.unusedVariables false

def t1 : List Int := [0, 2, 253, 232, 0, 0, 0, 100]
def t2 : List Int := [2, 2, 0, 1, 17, 112, 0, 7]
def t3 : List Int := [6, 0, 1, 0, 0, 0, 0, 5]
theorem al1 : mtO 65000 100 = some t1 := by kernel_rfl
theorem al2 : mtO 70000 7 = some t2 := by kernel_rfl
theorem al3 : mtO 70000 70000 = none := by kernel_rfl
theorem al4 : mob true 5 = t3 := by kernel_rfl
theorem ax1 : txt t1 = ⟨#[114, 116, 32, 54, 53, 48, 48, 48, 58, 49, 48, 48]⟩ := by kernel_rfl
theorem ax2 : txt t2 = ⟨#[114, 116, 32, 55, 48, 48, 48, 48, 76, 58, 55]⟩ := by kernel_rfl
theorem ax3 : txt t3 = ⟨#[109, 111, 98, 105, 108, 105, 116, 121, 32, 53, 32, 115, 116, 105, 99, 107, 121]⟩ := by kernel_rfl
theorem ot1 : Oct t1 := by intro x h; simp [t1] at h; omega
theorem ot2 : Oct t2 := by intro x h; simp [t2] at h; omega
theorem ot3 : Oct t3 := by intro x h; simp [t3] at h; omega
theorem mt_at (w : World) (a n : Int) (a0 : 0 ≤ a) (a1 : a < 4294967296) (n0 : 0 ≤ n) (n1 : n < 4294967296) (l : List Int) (h : mtO a n = some l) :
    Calls Tryd.prog 36 #[.int .u32 a, .int .u32 n] w fun x w' => x = .returned (.tuple #[.agg (u8s l).toArray, .int .i64 0]) ∧ Below w.heap.size w w' := by
  have := mt_is w a n a0 a1 n0 n1
  rw [h] at this
  exact this
theorem mt_no (w : World) (a n : Int) (a0 : 0 ≤ a) (a1 : a < 4294967296) (n0 : 0 ≤ n) (n1 : n < 4294967296) (h : mtO a n = none) :
    Calls Tryd.prog 36 #[.int .u32 a, .int .u32 n] w fun x w' => x = .returned (.tuple #[.agg (u8s z8).toArray, .int .i64 2]) ∧ Below w.heap.size w w' := by
  have := mt_is w a n a0 a1 n0 n1
  rw [h] at this
  exact this
/-- A new variable, filled. -/
theorem new_comm {w0 w : World} (hB : Below w0.heap.size w0 w) (l : List Int) : Blk ((w.alloc (.cells zc8 52)).setRow w.heap.size (u8s l).toArray) w.heap.size 52 (u8s l).toArray ∧ Below w0.heap.size w0 ((w.alloc (.cells zc8 52)).setRow w.heap.size (u8s l).toArray) ∧ Below w.heap.size w ((w.alloc (.cells zc8 52)).setRow w.heap.size (u8s l).toArray) :=
  ⟨Blk.setRow (Blk.new w 52 zc8) _, (hB.alloc hB.size _).trans (below_setRow _ _ _ hB.size), ((Below.refl _ _).alloc (Nat.le_refl _) _).trans (below_setRow _ _ _ (Nat.le_refl _))⟩
set_option maxHeartbeats 4000000 in
set_option maxRecDepth 100000 in
theorem alive4_is (w : World) (E : Env w) : Calls Tryd.prog 48 #[] w fun e w' => e = .returned (.bool true) ∧ Below w.heap.size w w' := by
  go_enter Tryd.func48, Tryd.ntmps48
  go_wp2_with fail
  refine (mt_at _ 65000 100 (by decide) (by decide) (by decide) (by decide) t1 al1).mono ?_
  rintro e w1 ⟨rfl, hB⟩
  obtain ⟨b1, l1, -⟩ := new_comm hB t1
  have HN1 := Lib.hid (Blk.new w1 52 zc8)
  have HB1 := Lib.hid b1
  have HL1 := Lib.hid l1
  clear hB b1 l1
  go_wp2_with (refine comm_store rfl _ _ rfl w1.heap.size t1 rfl rfl rfl 52 zc8 HN1.out rfl ?_)
  refine (mt_at _ 70000 7 (by decide) (by decide) (by decide) (by decide) t2 al2).mono ?_
  rintro e w2 ⟨rfl, hB⟩
  have hB0 := HL1.out.trans (hB.mono HL1.out.size)
  obtain ⟨b2, l2, s2⟩ := new_comm hB0 t2
  have HN2 := Lib.hid (Blk.new w2 52 zc8)
  have HB12 := Lib.hid ((HB1.out.below hB HB1.out.lt).below s2 (Nat.lt_of_lt_of_le HB1.out.lt hB.size))
  have HB2 := Lib.hid b2
  have HL2 := Lib.hid l2
  clear hB hB0 b2 l2 s2 HN1 HB1 HL1
  go_wp2_with (refine comm_store rfl _ _ rfl w2.heap.size t2 rfl rfl rfl 52 zc8 HN2.out rfl ?_)
  refine (mt_no _ 70000 70000 (by decide) (by decide) (by decide) (by decide) al3).mono ?_
  rintro e w3 ⟨rfl, hB⟩
  have hB0 := HL2.out.trans (hB.mono HL2.out.size)
  obtain ⟨b3, l3, s3⟩ := new_comm hB0 z8
  have HN3 := Lib.hid (Blk.new w3 52 zc8)
  have HB13 := Lib.hid ((HB12.out.below hB HB12.out.lt).below s3 (Nat.lt_of_lt_of_le HB12.out.lt hB.size))
  have HB23 := Lib.hid ((HB2.out.below hB HB2.out.lt).below s3 (Nat.lt_of_lt_of_le HB2.out.lt hB.size))
  have HL3 := Lib.hid l3
  clear hB hB0 b3 l3 s3 HN2 HB12 HB2 HL2
  have E3 := Lib.hid (E.below HL3.out)
  go_wp2_with (first
    | (refine comm_store rfl _ _ rfl w3.heap.size z8 rfl rfl rfl 52 zc8 HN3.out rfl ?_)
    | (refine comm_fetch rfl _ rfl w1.heap.size 0 t1 rfl rfl HB13.out.range ?_))
  refine (tx_is _ E3.out t1 rfl ot1).mono ?_
  rintro e w4 ⟨rfl, hB⟩
  rw [ax1]
  have HB24 := Lib.hid (HB23.out.below hB HB23.out.lt)
  have HL4 := Lib.hid (HL3.out.trans (hB.mono HL3.out.size))
  have E4 := Lib.hid (E3.out.below hB)
  clear hB HN3 HB13 HB23 HL3 E3
  go_wp2_with (refine comm_fetch rfl _ rfl w2.heap.size 0 t2 rfl rfl HB24.out.range ?_)
  refine (tx_is _ E4.out t2 rfl ot2).mono ?_
  rintro e w5 ⟨rfl, hB⟩
  rw [ax2]
  have HL5 := Lib.hid (HL4.out.trans (hB.mono HL4.out.size))
  have E5 := Lib.hid (E4.out.below hB)
  clear hB HB24 HL4 E4
  go_wp2_with fail
  refine (mm_is _ true 5 (by decide) (by decide)).mono ?_
  rintro e w6 ⟨rfl, hB⟩
  rw [al4]
  have HL6 := Lib.hid (HL5.out.trans (hB.mono HL5.out.size))
  have E6 := Lib.hid (E5.out.below hB)
  clear hB HL5 E5
  go_wp2_with fail
  refine (tx_is _ E6.out t3 rfl ot3).mono ?_
  rintro e w7 ⟨rfl, hB⟩
  rw [ax3]
  have HL7 := Lib.hid (HL6.out.trans (hB.mono HL6.out.size))
  clear hB HL6 E6
  go_wp2
  go_ret
  exact ⟨rfl, HL7.out⟩
end Go.Proofs.YtkaimdcepnhkdaaDoor
