/-
  Layer 8: the document's Read.
-/
import Derived.Test.YtgfjjkckamppoaaDoorHrE
namespace Go.Proofs.YtgfjjkckamppoaaDoor
open Go.RowKit
set_option maxRecDepth 100000
set_option linter.unusedSimpArgs false
set_option linter.unusedVariables false

structure RbS (w W : World) (B g : Nat) (A : Option Addr) (n : Nat) (lr l : List Int) (a : Nat) : Prop where
  res : ResS w W w.heap.size
  rd : Rd W B A n lr
  cur : IsRef W g l a 0
  lo : w.heap.size + 2 ≤ B
  bg : B ≤ g
theorem RbS.step {w W W' : World} {B g n a a' : Nat} {A : Option Addr} {lr l : List Int} (k : RbS w W B g A n lr l a) (hc : IsRef W' g l a' 0) (hg : W.grownBy W' (some g)) : RbS w W' B g A n lr l a' := by
  have := k.lo
  have := k.bg
  have := k.cur.lt
  exact ⟨k.res.grown hg (by omega) (by omega) (by omega), k.rd.grown hg (by omega) (fun j e => by injection e with e; omega), hc, k.lo, k.bg⟩
theorem RbS.above {w W W' : World} {B g n a : Nat} {A : Option Addr} {lr l : List Int} (k : RbS w W B g A n lr l a) (hB : Below W.heap.size W W') : RbS w W' B g A n lr l a := by
  have := k.bg
  have := k.cur.lt
  exact ⟨k.res.below hB, k.rd.below (hB.mono (by omega)), k.cur.keep (hB.mono k.cur.lt), k.lo, k.bg⟩
set_option maxHeartbeats 4000000 in
theorem rread_is (w : World) (A : Option Addr) (n c : Nat) (l : List Int) (hr : Rd w w.heap.size A n l) (hc : n ≤ c) (hn : n ≤ 140737488355328) : Calls Tryd.prog 16 #[.slice A n c] w (ToldH w (readR l)) := by
  have hl := hr.len
  have hS := res_new w
  have HS := Lib.hid hS
  have HS2 : Hid (((w.alloc (.cells #[.int .u32 0, .int .i64 0, .int .u32 0, .bool false, .bool false, .bool false] 24)).alloc (.cells #[.int .i64 0, .int .i64 0, .slice none 0 0] 34)).heap.size = w.heap.size + 2) := Lib.hid (by simp)
  have HR := Lib.hid (hr.up hS.low)
  have HO := Lib.hid hr.oct
  clear hS hr
  by_cases h10 : n < 10
  case pos =>
    have HJ : Hid (readR l = .error (0, [])) := Lib.hid (by unfold readR; rw [if_pos (by omega)])
    have h10i : (n : Int) < 10 := by omega
    clear h10 hl
    go_enter Tryd.func16, Tryd.ntmps16
    go_wp2_with fail
    refine (wrong_is _ 0 none 0 0 [] (Rd.nil_ none) (by omega)).mono ?_
    generalize ((w.alloc (.cells #[.int .u32 0, .int .i64 0, .int .u32 0, .bool false, .bool false, .bool false] 24)).alloc (.cells #[.int .i64 0, .int .i64 0, .slice none 0 0] 34)) = w1 at *
    rintro e W ⟨hB, A9, c9, rfl, hc9, hx⟩
    have HS3 := Lib.hid (HS.out.below hB)
    have HX := Lib.hid (hx.more (w0 := w) HS.out.low.size)
    clear hB hx HS HR HS2
    simp only [List.length_nil] at hc9 ⊢
    go_wp2_with (first
      | (refine res_store HS3.out rfl _ _ rfl hl0 rfl rfl ?_)
      | (refine res_store2 HS3.out hl0 rfl _ _ rfl 2 0 A9 0 c9 rfl rfl ?_))
    try simp only [Exit.inBlock, Exit.then]
    exact res_end rfl _ w W _ HS3.out hl0 2 0 A9 0 c9 (.bool false) rfl rfl rfl rfl (fun hb => by rw [HJ.out]; exact ⟨hb, A9, 0, c9, rfl, hc9, HX.out.farR HS3.out _ _⟩)
  have hcut1 := HR.out.cut (k := 1) (m := n - 1) (c := c) (by omega) hc
  have hcut10 := HR.out.cut (k := 10) (m := n - 10) (c := c) (by omega) hc
  rw [List.take_of_length_le (by simp; omega)] at hcut1 hcut10
  obtain ⟨b0, o0, rfl, hb0, hcs⟩ := HR.out.at_ (by omega)
  have x0 := hcs 0 (by omega)
  rw [Nat.add_zero] at x0
  rw [show Option.map (fun x : Addr => x.add 1) (some ⟨b0, o0, none⟩) = some ⟨b0, o0 + 1, none⟩ by simp [Addr.add], if_neg (show ¬ c = 1 by omega)] at hcut1
  rw [show Option.map (fun x : Addr => x.add 10) (some ⟨b0, o0, none⟩) = some ⟨b0, o0 + 10, none⟩ by simp [Addr.add]] at hcut10
  obtain ⟨A10, hA10⟩ : ∃ X : Option Addr, (if c = 10 then (some ⟨b0, o0, none⟩ : Option Addr) else some ⟨b0, o0 + 10, none⟩) = X := ⟨_, rfl⟩
  rw [hA10] at hcut10
  have HC1 := Lib.hid hcut1
  have HC10 := Lib.hid hcut10
  have h10i : ¬ (n : Int) < 10 := by omega
  clear hcut1 hcut10 hcs hb0
  by_cases h4 : l.getD 0 0 = 4
  case neg =>
    have HJ : Hid (readR l = .error (1, [0, 4])) := Lib.hid (by unfold readR; rw [if_neg (by omega), if_pos h4])
    have hd0 : ∀ W : World, Byt (W.alloc (.cells #[.int .u8 0, .int .u8 4] 5)) W.heap.size 5 [0, 4] := fun W => Blk.new W 5 #[.int .u8 0, .int .u8 4]
    have HD0 := Lib.hid hd0
    generalize l.getD 0 0 = q0 at *
    have e0 : (q0 != 4) = true := by simpa using h4
    clear h4 h10 hl hd0
    go_enter Tryd.func16, Tryd.ntmps16
    go_wp2_with fail
    have hB1 := HS.out.low.trans ((below_one8 _ (.cells #[.int .u8 0, .int .u8 4] 5)).mono HS.out.low.size)
    have hS1 := HS.out.below (below_one8 _ (.cells #[.int .u8 0, .int .u8 4] 5))
    have hd := HD0.out ((w.alloc (.cells #[.int .u32 0, .int .i64 0, .int .u32 0, .bool false, .bool false, .bool false] 24)).alloc (.cells #[.int .i64 0, .int .i64 0, .slice none 0 0] 34))
    rw [HS2.out] at hd
    refine (wrong_is _ 1 _ 2 2 [0, 4] (hd.rd_all (by intro x hx; simp at hx; omega) hd.lt) (by omega)).mono ?_
    generalize (((w.alloc (.cells #[.int .u32 0, .int .i64 0, .int .u32 0, .bool false, .bool false, .bool false] 24)).alloc (.cells #[.int .i64 0, .int .i64 0, .slice none 0 0] 34)).alloc (.cells #[.int .u8 0, .int .u8 4] 5)) = w1 at *
    rintro e W ⟨hB, A9, c9, rfl, hc9, hx⟩
    have HS3 := Lib.hid (hS1.below hB)
    have HX := Lib.hid (hx.more (w0 := w) hS1.low.size)
    clear hB hx HS HR HS2 hB1 hS1 hd HD0 HC1 HC10 x0
    simp only [List.length_cons, List.length_nil, Nat.zero_add, Nat.reduceAdd] at hc9 ⊢
    go_wp2_with (first
      | (refine res_store HS3.out rfl _ _ rfl hl0 rfl rfl ?_)
      | (refine res_store2 HS3.out hl0 rfl _ _ rfl 2 1 A9 2 c9 rfl rfl ?_))
    try simp only [Exit.inBlock, Exit.then]
    exact res_end rfl _ w W _ HS3.out hl0 2 1 A9 2 c9 (.bool false) rfl rfl rfl rfl (fun hb => by rw [HJ.out]; exact ⟨hb, A9, 2, c9, rfl, hc9, HX.out.farR HS3.out _ _⟩)
  have e0 : (l.getD 0 0 != 4) = false := by simpa using h4
  have HL1 : Hid ((l.drop 1).length = n - 1) := Lib.hid (by simp; omega)
  have p1 : numVal (l.drop 1) 0 0 2 = numOf ((l.drop 1).take 2) ∧ numAt (l.drop 1) 0 0 2 = 2 ∧ numErr (l.drop 1) 0 0 2 = 0 := num_ok8 (l.drop 1) 0 2 (by omega) (by omega) (by rw [HL1.out]; omega)
  have p2 : numVal (l.drop 1) 2 0 2 = numOf (((l.drop 1).drop 2).take 2) ∧ numAt (l.drop 1) 2 0 2 = 4 ∧ numErr (l.drop 1) 2 0 2 = 0 := num_ok8 (l.drop 1) 2 2 (by omega) (by omega) (by rw [HL1.out]; omega)
  have p3 : numVal (l.drop 1) 4 0 4 = numOf (((l.drop 1).drop 4).take 4) ∧ numAt (l.drop 1) 4 0 4 = 8 ∧ numErr (l.drop 1) 4 0 4 = 0 := num_ok8 (l.drop 1) 4 4 (by omega) (by omega) (by rw [HL1.out]; omega)
  obtain ⟨r1, r2, r3⟩ := num1_ok (l.drop 1) 8 (by rw [HL1.out]; omega)
  rw [List.drop_drop] at p2 p3
  have r1' : numVal (l.drop 1) 8 0 1 = l.getD 9 0 := by rw [r1]; simp [List.getD]
  have r2' : numAt (l.drop 1) 8 0 1 = 9 := r2
  have HP := Lib.hid (And.intro p1 (And.intro p2 (And.intro p3 (And.intro r1' (And.intro r2' r3)))))
  have HHd : Hid (headR l = ⟨numOf ((l.drop 1).take 2), numOf ((l.drop 3).take 2), numOf ((l.drop 5).take 4), false, false, false⟩) := Lib.hid rfl
  have n1 := numOf_bd4 (oct_dt HO.out 1 2) (by simp; omega)
  have n2 := numOf_bd4 (oct_dt HO.out 3 2) (by simp; omega)
  have n3 := numOf_bd4 (oct_dt HO.out 5 4) (by simp; omega)
  have n9 := HO.out.getD 9
  have HPa := Lib.hid (parsR_parts (l.drop 10).length (headR l) (l.drop 10) (Nat.le_refl _))
  have HRe : Hid (readR l = if (l.length : Int) - 10 ≠ l.getD 9 0 then .error (0, []) else match parsR (headR l) (l.drop 10) with
    | .error s => .error (s, [])
    | .ok h => judgeR h) := Lib.hid (by unfold readR; rw [if_neg (by omega), if_neg (by simpa using h4)]; cases parsR (headR l) (l.drop 10) <;> rfl)
  have HVl := Lib.hid (partsF_vals (l.drop 10).length (l.drop 10) (fun x hx => HO.out x (List.mem_of_mem_drop hx)))
  have HPl := Lib.hid (partsR_len (l.drop 10))
  have HL10 : Hid ((l.drop 10).length = n - 10) := Lib.hid (by simp; omega)
  rw [hl] at HRe
  generalize l.getD 0 0 = q0 at *
  generalize l.getD 9 0 = q9 at *
  generalize headR l = hd at *
  generalize numOf ((l.drop 1).take 2) = a at *
  generalize numOf ((l.drop 3).take 2) = o at *
  generalize numOf ((l.drop 5).take 4) = i at *
  clear p1 p2 p3 r1 r2 r3 r1' r2' h4
  have HK : Hid (HlOk ⟨a, o, i, false, false, false⟩) := Lib.hid ⟨n1, (show -9223372036854775808 ≤ o ∧ o < 9223372036854775808 from by omega), n3⟩
  have u1 : IntKind.u32.wrap a = a := by rw [IntKind.wrap_u32]; omega
  have u2 : IntKind.i64.wrap o = o := by rw [IntKind.wrap_i64]; omega
  have u3 : IntKind.u32.wrap i = i := by rw [IntKind.wrap_u32]; omega
  have u4 : IntKind.i64.wrap q9 = q9 := by rw [IntKind.wrap_i64]; omega
  have n1c : 1 ≤ c := by omega
  have n10c : 10 ≤ c := by omega
  have n1n : (1 : Int) ≤ (n : Int) := by omega
  have n10n : (10 : Int) ≤ (n : Int) := by omega
  go_enter Tryd.func16, Tryd.ntmps16
  go_wp2_with fail
  generalize ((w.alloc (.cells #[.int .u32 0, .int .i64 0, .int .u32 0, .bool false, .bool false, .bool false] 24)).alloc (.cells #[.int .i64 0, .int .i64 0, .slice none 0 0] 34)) = w1 at *
  refine (rnew_is w1 (some ⟨b0, o0 + 1, none⟩) (n - 1) (c - 1) (l.drop 1) HC1.out (by omega)).mono ?_
  rintro e w2 ⟨g, rfl, hg, hcur, hB⟩
  have hb2 : RbS w w2 w1.heap.size g A10 (n - 10) (l.drop 10) (l.drop 1) 0 := ⟨HS.out.below hB, HC10.out.below hB, hcur, by rw [HS2.out]; exact Nat.le_refl _, hg⟩
  have H2 := Lib.hid hb2
  clear hb2 hcur hB HS HR HC1 HC10 x0 HS2 hg
  go_wp2_with fail
  refine (rnum_is w2 g (l.drop 1) 0 0 2 H2.out.cur).mono ?_
  rintro e w3 ⟨rfl, hc3, hg3⟩
  rw [HP.out.1.1]
  rw [HP.out.1.2.1, HP.out.1.2.2] at hc3
  have H3 := Lib.hid (H2.out.step hc3 hg3)
  clear hc3 hg3 H2
  go_wp2_with fail
  refine (rnum_is w3 g (l.drop 1) 2 0 2 H3.out.cur).mono ?_
  rintro e w4 ⟨rfl, hc3, hg3⟩
  rw [HP.out.2.1.1]
  rw [HP.out.2.1.2.1, HP.out.2.1.2.2] at hc3
  have H4 := Lib.hid (H3.out.step hc3 hg3)
  clear hc3 hg3 H3
  go_wp2_with fail
  refine (rnum_is w4 g (l.drop 1) 4 0 4 H4.out.cur).mono ?_
  rintro e w5 ⟨rfl, hc3, hg3⟩
  rw [HP.out.2.2.1.1]
  rw [HP.out.2.2.1.2.1, HP.out.2.2.1.2.2] at hc3
  have H5 := Lib.hid (H4.out.step hc3 hg3)
  clear hc3 hg3 H4
  have hbz := Blk.new w5 24 #[.int .u32 0, .int .i64 0, .int .u32 0, .bool false, .bool false, .bool false]
  have hst := (below_one8 w5 (.cells #[.int .u32 0, .int .i64 0, .int .u32 0, .bool false, .bool false, .bool false] 24)).trans (below_setRow _ w5.heap.size (hlc ⟨a, o, i, false, false, false⟩).toArray (Nat.le_refl _))
  have HZ := Lib.hid hbz
  have H6 := Lib.hid (H5.out.above hst)
  have HB6 := Lib.hid (Blk.setRow hbz (hlc ⟨a, o, i, false, false, false⟩).toArray)
  have HLb := Lib.hid H5.out.cur.lt
  clear hbz hst H5
  go_wp2_with (refine h_store rfl _ _ rfl w5.heap.size ⟨a, o, i, false, false, false⟩ rfl rfl 24 _ HZ.out rfl ?_)
  clear HZ
  refine (rnum_is _ g (l.drop 1) 8 0 1 H6.out.cur).mono ?_
  generalize ((w5.alloc (.cells #[.int .u32 0, .int .i64 0, .int .u32 0, .bool false, .bool false, .bool false] 24)).setRow w5.heap.size (hlc ⟨a, o, i, false, false, false⟩).toArray) = w6 at *
  generalize w5.heap.size = hb at *
  rintro e w7 ⟨rfl, hc3, hg3⟩
  rw [HP.out.2.2.2.1]
  rw [HP.out.2.2.2.2.1, HP.out.2.2.2.2.2] at hc3
  have H7 := Lib.hid (H6.out.step hc3 hg3)
  have HB7 := Lib.hid (HB6.out.grown hg3 (fun e => by injection e with e; have := HLb.out; omega))
  clear hc3 hg3 H6 HB6
  go_wp2_with fail
  refine (rleft_is w7 g (l.drop 1) 9 0 H7.out.cur).mono ?_
  rintro e w8 ⟨rfl, kd, rfl⟩
  rw [show ((l.drop 1).length : Int) - ((9 : Nat) : Int) = (n : Int) - 10 by rw [HL1.out]; omega]
  have H8 := Lib.hid (H7.out.above (below_drewN (Below.refl _ _) kd))
  have HB8 := Lib.hid (HB7.out.below (below_drewN (Below.refl _ _) kd) HB7.out.lt)
  clear H7 HB7
  generalize w7.drewN kd = w8 at *
  by_cases h9 : (n : Int) - 10 = q9
  case neg =>
    have HJ : Hid (readR l = .error (0, [])) := Lib.hid (by rw [HRe.out, if_pos h9])
    have e9 : (q9 != (n : Int) - 10) = true := by simp; omega
    have HS8 := Lib.hid H8.out.res
    clear h9 H8 HB8
    go_wp2_with fail
    refine (wrong_is w8 0 none 0 0 [] (Rd.nil_ none) (by omega)).mono ?_
    rintro e W ⟨hB, A9, c9, rfl, hc9, hx⟩
    have HS3 := Lib.hid (HS8.out.below hB)
    have HX := Lib.hid (hx.more (w0 := w) HS8.out.low.size)
    clear hB hx HS8
    simp only [List.length_nil] at hc9 ⊢
    go_wp2_with (first
      | (refine res_store HS3.out rfl _ _ rfl hl0 rfl rfl ?_)
      | (refine res_store2 HS3.out hl0 rfl _ _ rfl 2 0 A9 0 c9 rfl rfl ?_))
    try simp only [Exit.inBlock, Exit.then]
    exact res_end rfl _ w W _ HS3.out hl0 2 0 A9 0 c9 (.bool false) rfl rfl rfl rfl (fun hb => by rw [HJ.out]; exact ⟨hb, A9, 0, c9, rfl, hc9, HX.out.farR HS3.out _ _⟩)
  have e9 : (q9 != (n : Int) - 10) = false := by simp; omega
  have hn265 : n ≤ 265 := by omega
  have HRe2 := HRe.out
  rw [if_neg (fun k => k h9), HPa.out, HHd.out] at HRe2
  have hpl := HPl.out
  rw [HL10.out] at hpl
  have hvl : ∀ x ∈ (partsR (l.drop 10)).1, x.2.2.length ≤ 255 := HVl.out
  have HPR := Lib.hid (And.intro HRe2 (And.intro hpl hvl))
  clear HRe2 h9 HRe HPa hpl hvl HPl HVl HHd HP
  go_wp2_with fail
  refine (rparts_is w8 A10 (n - 10) (c - 10) (l.drop 10) (H8.out.rd.more (by have := H8.out.bg; have := H8.out.cur.lt; omega)) (by omega)).mono ?_
  rintro e w9 ⟨hB9, v, rfl, hown⟩
  obtain ⟨A2, c2, rfl, _⟩ := hown.rd
  have hlb : w.heap.size + 1 < hb := by have := H8.out.bg; have := H8.out.lo; have := HLb.out; omega
  have HOw := Lib.hid hown
  have HRs := Lib.hid (H8.out.res.below hB9)
  have HBx := Lib.hid (HB8.out.below hB9 HB8.out.lt)
  have HZ9 := Lib.hid (And.intro HB8.out.lt hB9.size)
  clear hown hB9 H8 HB8
  generalize partsR (l.drop 10) = pr at *
  obtain ⟨rs, okp⟩ := pr
  have HRr : Hid (readR l = match (match parsL ⟨a, o, i, false, false, false⟩ rs with
    | .error s => .error s
    | .ok h' => if okp then .ok h' else .error 0 : Except Int Hl) with
    | .error s => .error (s, [])
    | .ok h => judgeR h) := Lib.hid (by rw [HPR.out.1]; cases parsL ⟨a, o, i, false, false, false⟩ rs <;> cases okp <;> rfl)
  have HVl : Hid (∀ x ∈ rs, x.2.2.length ≤ 255) := Lib.hid HPR.out.2.2
  have hNb0 : rs.length ≤ n - 10 := HPR.out.2.1
  simp only
  have HS : Hid (RpS w w9 ⟨a, o, i, false, false, false⟩ hb w8.heap.size (.slice A2 rs.length c2) rs) := Lib.hid ⟨HRs.out, HBx.out, HOw.out, hlb, HZ9.out.1, HZ9.out.2⟩
  clear HRs HBx HOw HZ9 HPR
  generalize w8.heap.size = lo at *
  obtain ⟨h0, hh0⟩ : ∃ h0 : Hl, h0 = ⟨a, o, i, false, false, false⟩ := ⟨_, rfl⟩
  rw [← hh0] at HS HRr HK
  clear hh0
  obtain ⟨N, hN⟩ : ∃ N, N = rs.length := ⟨_, rfl⟩
  rw [← hN] at HS ⊢ hNb0
  have hNb : N ≤ 300 := by omega
  have HN := Lib.hid hN
  clear hN hNb0 HL10 HL1 n1 n2 n3 n9 u1 u2 u3 u4 e0 e9 hA10 n1c n10c n1n n10n h10 h10i hn265 hn hl hc HO hlb HLb
  go_wp2
  go_loopw [60] (fun ix wr => ∃ m : Nat, ∃ h', m ≤ N ∧ ix = .int .i64 m ∧ RpS w wr h' hb lo (.slice A2 N c2) rs ∧ parsL h0 rs = parsL h' (rs.drop m) ∧ HlOk h') (fun ix _ => N - (intOf ix).toNat)
  case atStart => exact ⟨0, h0, Nat.zero_le _, rfl, HS.out, rfl, HK.out⟩
  case round =>
    obtain ⟨m, h', hmN, rfl, hS, hcap, hok⟩ := hrel
    have HSr := Lib.hid hS
    have HCap := Lib.hid hcap
    have HOk := Lib.hid hok
    clear hS hcap hok HS
    by_cases hlt : m < N
    · have hlt2 : m < rs.length := by rw [← HN.out]; exact hlt
      obtain ⟨A3, c3, hA3, hrd⟩ := HSr.out.own.rd
      injection hA3 with hA3 hq1 hq2
      subst hA3
      clear hq1 hq2
      obtain ⟨b, off, A1, n1, c1, rfl, hbb, x0, x1, x2, hr1⟩ := hrd.get hlt2
      obtain ⟨r, hrr⟩ : ∃ r, r = rs[m] := ⟨_, rfl⟩
      have hv255 : rs[m].2.2.length ≤ 255 := HVl.out _ (List.getElem_mem hlt2)
      rw [← hrr] at x0 x1 hr1 hv255
      obtain ⟨f, k, bd⟩ := r
      simp only at x0 x1 hr1 hv255
      have hn1 : n1 ≤ 255 := by rw [← hr1.len]; exact hv255
      have HC := Lib.hid (HCap.out.trans (parsL_step hlt2 h' hrr.symm))
      have hal := below_one8 wr (.cells #[.int .i64 0, .int .i64 0, .slice none 0 0] 77)
      have hbz := Blk.new wr 77 #[.int .i64 0, .int .i64 0, .slice none 0 0]
      have hst := hal.trans (below_setRow _ wr.heap.size #[.int .i64 f, .int .i64 k, .slice A1 n1 c1] (Nat.le_refl _))
      have HZ := Lib.hid hbz
      have HS2 := Lib.hid (HSr.out.below hst)
      have HV2 := Lib.hid (hr1.up hst)
      have HB2 := Lib.hid (Blk.setRow hbz #[.int .i64 f, .int .i64 k, .slice A1 n1 c1])
      have hX := Lib.hid (And.intro x0 (And.intro x1 x2))
      have dd : ∀ W, W = ((wr.alloc (.cells #[.int .i64 0, .int .i64 0, .slice none 0 0] 77)).setRow wr.heap.size #[.int .i64 f, .int .i64 k, .slice A1 n1 c1]) → W.cell? ⟨wr.heap.size, 1, none⟩ = some (.int .i64 k) ∧ W.cell? ⟨wr.heap.size, 2, none⟩ = some (.slice A1 n1 c1) := by
        rintro W rfl
        exact ⟨HB2.out.cell 1, HB2.out.cell 2⟩
      obtain ⟨d1, d2⟩ := dd _ rfl
      clear hal hbz hst hr1 hrd HSr HCap hrr x0 x1 x2 hv255 dd
      by_cases h2 : k = 2
      · subst h2
        go_wp2_with (first
          | (refine raw_fetch rfl _ rfl b (off + m * 3) f 2 A1 n1 c1 rfl hX.out.1 hX.out.2.1 hX.out.2.2 ?_)
          | (refine raw_store rfl _ _ rfl wr.heap.size f 2 A1 n1 c1 rfl rfl 77 _ HZ.out rfl ?_)
          | (refine h_fetch rfl _ rfl hb h' 24 rfl HS2.out.box ?_))
        clear HZ hX
        generalize ((wr.alloc (.cells #[.int .i64 0, .int .i64 0, .slice none 0 0] 77)).setRow wr.heap.size #[.int .i64 f, .int .i64 2, .slice A1 n1 c1]) = W2 at *
        generalize wr.heap.size = g2 at *
        refine (rcaps_is W2 h' HOk.out A1 n1 c1 bd HV2.out (by omega)).mono ?_
        rintro e W3 ⟨hB, h2, hok2, rfl, hcap2⟩
        have HS3 := Lib.hid (HS2.out.below hB)
        have HOk2 := Lib.hid hok2
        have hz3 := Blk.new W3 24 #[.int .u32 0, .int .i64 0, .int .u32 0, .bool false, .bool false, .bool false]
        have hst := (below_one8 W3 (.cells #[.int .u32 0, .int .i64 0, .int .u32 0, .bool false, .bool false, .bool false] 24)).trans (below_setRow _ W3.heap.size (hlc h2).toArray (Nat.le_refl _))
        have HZ3 := Lib.hid hz3
        have HG4 := Lib.hid (Blk.setRow hz3 (hlc h2).toArray)
        have HS4 := Lib.hid (HS3.out.below hst)
        have HC2 := HC.out
        rw [if_pos trivial] at HC2
        clear hB hok2 hz3 hst HS2 HV2 HB2 d1 d2 HS3
        cases hcr : capsR h' bd with
        | none =>
          rw [hcr] at HC2
          have HJ : Hid (readR l = .error (0, [])) := Lib.hid (by rw [HRr.out, HC2])
          clear HC2 hcap2 hcr HC HRr
          simp only [Option.isSome]
          go_wp2_with (refine h_store rfl _ _ rfl W3.heap.size h2 rfl rfl 24 _ HZ3.out rfl ?_)
          generalize ((W3.alloc (.cells #[.int .u32 0, .int .i64 0, .int .u32 0, .bool false, .bool false, .bool false] 24)).setRow W3.heap.size (hlc h2).toArray) = W4 at *
          go_wp2_with fail
          refine (wrong_is W4 0 none 0 0 [] (Rd.nil_ none) (by omega)).mono ?_
          rintro e W ⟨hB, A9, c9, rfl, hc9, hx⟩
          have HS9 := Lib.hid (ResS.below HS4.out.res hB)
          have HX := Lib.hid (hx.more (w0 := w) (ResS.low HS4.out.res).size)
          clear hB hx
          simp only [List.length_nil] at hc9 ⊢
          go_wp2_with (first
            | (refine res_store HS9.out rfl _ _ rfl hl0 rfl rfl ?_)
            | (refine res_store2 HS9.out hl0 rfl _ _ rfl 2 0 A9 0 c9 rfl rfl ?_))
          try simp only [Exit.inBlock, Exit.then]
          exact res_end rfl _ w W _ HS9.out hl0 2 0 A9 0 c9 (.bool false) rfl rfl rfl rfl (fun hb => by rw [HJ.out]; exact ⟨hb, A9, 0, c9, rfl, hc9, HX.out.farR HS9.out _ _⟩)
        | some h3 =>
          rw [hcr] at HC2
          obtain rfl := hcap2 h3 hcr
          have HC3 := Lib.hid HC2
          have HRow := Lib.hid (HS4.out.row h2)
          clear HC2 hcap2 hcr HC
          simp only [Option.isSome]
          go_wp2_with (first
            | (refine h_store rfl _ _ rfl W3.heap.size h2 rfl rfl 24 _ HZ3.out rfl ?_)
            | (refine h_fetch rfl _ rfl W3.heap.size h2 24 rfl HG4.out ?_)
            | (refine h_store rfl _ _ rfl hb h2 rfl rfl 24 _ HS4.out.box rfl ?_))
          exact ⟨⟨m + 1, _, by omega, by go_num, HRow.out, HC3.out, HOk2.out⟩, by simp [intOf]; omega⟩
      · have e2 : (k != 2) = true := by simpa using h2
        have HJ : Hid (readR l = .error (4, [])) := Lib.hid (by rw [HRr.out, HC.out, if_neg h2])
        clear h2 HC HRr
        go_wp2_with (first
          | (refine raw_fetch rfl _ rfl b (off + m * 3) f k A1 n1 c1 rfl hX.out.1 hX.out.2.1 hX.out.2.2 ?_)
          | (refine raw_store rfl _ _ rfl wr.heap.size f k A1 n1 c1 rfl rfl 77 _ HZ.out rfl ?_))
        clear HZ hX d1 d2
        generalize ((wr.alloc (.cells #[.int .i64 0, .int .i64 0, .slice none 0 0] 77)).setRow wr.heap.size #[.int .i64 f, .int .i64 k, .slice A1 n1 c1]) = W2 at *
        generalize wr.heap.size = g2 at *
        refine (wrong_is W2 4 none 0 0 [] (Rd.nil_ none) (by omega)).mono ?_
        rintro e W ⟨hB, A9, c9, rfl, hc9, hx⟩
        have HS9 := Lib.hid (ResS.below HS2.out.res hB)
        have HX := Lib.hid (hx.more (w0 := w) (ResS.low HS2.out.res).size)
        clear hB hx
        simp only [List.length_nil] at hc9 ⊢
        go_wp2_with (first
          | (refine res_store HS9.out rfl _ _ rfl hl0 rfl rfl ?_)
          | (refine res_store2 HS9.out hl0 rfl _ _ rfl 2 4 A9 0 c9 rfl rfl ?_))
        try simp only [Exit.inBlock, Exit.then]
        exact res_end rfl _ w W _ HS9.out hl0 2 4 A9 0 c9 (.bool false) rfl rfl rfl rfl (fun hb => by rw [HJ.out]; exact ⟨hb, A9, 0, c9, rfl, hc9, HX.out.farR HS9.out _ _⟩)
    · obtain rfl : N = m := by omega
      have HE : Hid (parsL h0 rs = .ok h') := Lib.hid (by rw [HCap.out, List.drop_of_length_le (by rw [← HN.out]; exact Nat.le_refl _)]; rfl)
      cases okp with
      | false =>
        have HJ : Hid (readR l = .error (0, [])) := Lib.hid (by rw [HRr.out, HE.out]; rfl)
        clear HRr HE HCap
        go_wp2_with fail
        refine (wrong_is wr 0 none 0 0 [] (Rd.nil_ none) (by omega)).mono ?_
        rintro e W ⟨hB, A9, c9, rfl, hc9, hx⟩
        have HS9 := Lib.hid (ResS.below HSr.out.res hB)
        have HX := Lib.hid (hx.more (w0 := w) (ResS.low HSr.out.res).size)
        clear hB hx
        simp only [List.length_nil] at hc9 ⊢
        go_wp2_with (first
          | (refine res_store HS9.out rfl _ _ rfl hl0 rfl rfl ?_)
          | (refine res_store2 HS9.out hl0 rfl _ _ rfl 2 0 A9 0 c9 rfl rfl ?_))
        try simp only [Exit.inBlock, Exit.then]
        exact res_end rfl _ w W _ HS9.out hl0 2 0 A9 0 c9 (.bool false) rfl rfl rfl rfl (fun hb => by rw [HJ.out]; exact ⟨hb, A9, 0, c9, rfl, hc9, HX.out.farR HS9.out _ _⟩)
      | true =>
        have HJ0 : Hid (readR l = judgeR h') := Lib.hid (by rw [HRr.out, HE.out]; rfl)
        have c0 : wr.cell? ⟨hb, 0, none⟩ = some (.int .u32 h'.as_) := HSr.out.box.cell 0
        have c1 : wr.cell? ⟨hb, 1, none⟩ = some (.int .i64 h'.hold) := HSr.out.box.cell 1
        have c2' : wr.cell? ⟨hb, 2, none⟩ = some (.int .u32 h'.id_) := HSr.out.box.cell 2
        clear HRr HE HCap
        by_cases ha : h'.as_ = 0
        · have HJ : Hid (readR l = .error (2, [])) := Lib.hid (by rw [HJ0.out]; unfold judgeR; rw [if_pos ha])
          have ea : (h'.as_ == 0) = true := by simpa using ha
          clear HJ0 ha
          go_wp2_with fail
          refine (wrong_is wr 2 none 0 0 [] (Rd.nil_ none) (by omega)).mono ?_
          rintro e W ⟨hB, A9, c9, rfl, hc9, hx⟩
          have HS9 := Lib.hid (ResS.below HSr.out.res hB)
          have HX := Lib.hid (hx.more (w0 := w) (ResS.low HSr.out.res).size)
          clear hB hx
          simp only [List.length_nil] at hc9 ⊢
          go_wp2_with (first
            | (refine res_store HS9.out rfl _ _ rfl hl0 rfl rfl ?_)
            | (refine res_store2 HS9.out hl0 rfl _ _ rfl 2 2 A9 0 c9 rfl rfl ?_))
          try simp only [Exit.inBlock, Exit.then]
          exact res_end rfl _ w W _ HS9.out hl0 2 2 A9 0 c9 (.bool false) rfl rfl rfl rfl (fun hb => by rw [HJ.out]; exact ⟨hb, A9, 0, c9, rfl, hc9, HX.out.farR HS9.out _ _⟩)
        have ea : (h'.as_ == 0) = false := by simpa using ha
        by_cases hi : h'.id_ = 0
        · have HJ : Hid (readR l = .error (3, [])) := Lib.hid (by rw [HJ0.out]; unfold judgeR; rw [if_neg ha, if_pos hi])
          have ei : (h'.id_ == 0) = true := by simpa using hi
          clear HJ0 ha hi
          go_wp2_with fail
          refine (wrong_is wr 3 none 0 0 [] (Rd.nil_ none) (by omega)).mono ?_
          rintro e W ⟨hB, A9, c9, rfl, hc9, hx⟩
          have HS9 := Lib.hid (ResS.below HSr.out.res hB)
          have HX := Lib.hid (hx.more (w0 := w) (ResS.low HSr.out.res).size)
          clear hB hx
          simp only [List.length_nil] at hc9 ⊢
          go_wp2_with (first
            | (refine res_store HS9.out rfl _ _ rfl hl0 rfl rfl ?_)
            | (refine res_store2 HS9.out hl0 rfl _ _ rfl 2 3 A9 0 c9 rfl rfl ?_))
          try simp only [Exit.inBlock, Exit.then]
          exact res_end rfl _ w W _ HS9.out hl0 2 3 A9 0 c9 (.bool false) rfl rfl rfl rfl (fun hb => by rw [HJ.out]; exact ⟨hb, A9, 0, c9, rfl, hc9, HX.out.farR HS9.out _ _⟩)
        have ei : (h'.id_ == 0) = false := by simpa using hi
        by_cases h1 : h'.hold = 1
        · have HJ : Hid (readR l = .error (6, [])) := Lib.hid (by rw [HJ0.out]; unfold judgeR; rw [if_neg ha, if_neg hi, if_pos (by omega)])
          have e1 : (h'.hold == 1) = true := by simpa using h1
          clear HJ0 ha hi h1
          go_wp2_with fail
          refine (wrong_is wr 6 none 0 0 [] (Rd.nil_ none) (by omega)).mono ?_
          rintro e W ⟨hB, A9, c9, rfl, hc9, hx⟩
          have HS9 := Lib.hid (ResS.below HSr.out.res hB)
          have HX := Lib.hid (hx.more (w0 := w) (ResS.low HSr.out.res).size)
          clear hB hx
          simp only [List.length_nil] at hc9 ⊢
          go_wp2_with (first
            | (refine res_store HS9.out rfl _ _ rfl hl0 rfl rfl ?_)
            | (refine res_store2 HS9.out hl0 rfl _ _ rfl 2 6 A9 0 c9 rfl rfl ?_))
          try simp only [Exit.inBlock, Exit.then]
          exact res_end rfl _ w W _ HS9.out hl0 2 6 A9 0 c9 (.bool false) rfl rfl rfl rfl (fun hb => by rw [HJ.out]; exact ⟨hb, A9, 0, c9, rfl, hc9, HX.out.farR HS9.out _ _⟩)
        have e1 : (h'.hold == 1) = false := by simpa using h1
        by_cases h2 : h'.hold = 2
        · have HJ : Hid (readR l = .error (6, [])) := Lib.hid (by rw [HJ0.out]; unfold judgeR; rw [if_neg ha, if_neg hi, if_pos (by omega)])
          have e2 : (h'.hold == 2) = true := by simpa using h2
          clear HJ0 ha hi h1 h2
          go_wp2_with fail
          refine (wrong_is wr 6 none 0 0 [] (Rd.nil_ none) (by omega)).mono ?_
          rintro e W ⟨hB, A9, c9, rfl, hc9, hx⟩
          have HS9 := Lib.hid (ResS.below HSr.out.res hB)
          have HX := Lib.hid (hx.more (w0 := w) (ResS.low HSr.out.res).size)
          clear hB hx
          simp only [List.length_nil] at hc9 ⊢
          go_wp2_with (first
            | (refine res_store HS9.out rfl _ _ rfl hl0 rfl rfl ?_)
            | (refine res_store2 HS9.out hl0 rfl _ _ rfl 2 6 A9 0 c9 rfl rfl ?_))
          try simp only [Exit.inBlock, Exit.then]
          exact res_end rfl _ w W _ HS9.out hl0 2 6 A9 0 c9 (.bool false) rfl rfl rfl rfl (fun hb => by rw [HJ.out]; exact ⟨hb, A9, 0, c9, rfl, hc9, HX.out.farR HS9.out _ _⟩)
        have e2 : (h'.hold == 2) = false := by simpa using h2
        have HJ : Hid (readR l = .ok h') := Lib.hid (by rw [HJ0.out]; unfold judgeR; rw [if_neg ha, if_neg hi, if_neg (by omega)])
        clear HJ0 ha hi h1 h2
        go_wp2_with (first
          | (refine h_fetch rfl _ rfl hb h' 24 rfl HSr.out.box ?_)
          | (refine res_store HSr.out.res rfl _ _ rfl h' rfl rfl ?_)
          | (refine res_store2 HSr.out.res h' rfl _ _ rfl 0 0 none 0 0 rfl rfl ?_))
        try simp only [Exit.inBlock, Exit.then]
        exact res_end rfl _ w wr _ HSr.out.res h' 0 0 none 0 0 (.bool true) rfl rfl rfl rfl (fun hb => by rw [HJ.out]; exact ⟨hb, rfl⟩)
end Go.Proofs.YtgfjjkckamppoaaDoor
