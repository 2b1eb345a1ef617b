/-
  HelloFaults' walk.
-/
import Derived.Test.YtgfjjkckamppoaaDoorHeW
namespace Go.Proofs.YtgfjjkckamppoaaDoor
open Go.RowKit
set_option maxRecDepth 100000
set_option linter.unusedSimpArgs false
set_option linter.unusedVariables false

set_option maxHeartbeats 4000000 in
theorem helloFaults_walk (w : World) (E : EnvF w) (c s : Int) (A : Option Addr) (n k : Nat) (l : List Int) (A1 : Option Addr) (n1 k1 : Nat) (l1 : List Int) (hr : Rd w w.heap.size A n l) (hsz : n ≤ 140737488351232) (hr1 : Rd w w.heap.size A1 n1 l1) (hsz1 : n1 ≤ 140737488351232) (hk1 : n1 ≤ k1) :
    Calls Tryd.prog 6 #[.agg #[.int .i64 c, .int .i64 s, .slice A n k], .slice A1 n1 k1] w (AliveP w) := by
  have hal := below_one8 w (.cells #[.int .i64 c, .int .i64 s, .slice A n k] 34)
  have HF0 := Lib.hid (Blk.new w 34 #[.int .i64 c, .int .i64 s, .slice A n k])
  have HB0 := Lib.hid hal
  have HE0 := Lib.hid (E.below hal)
  have HR0 := Lib.hid (hr.up hal)
  have HQ0 := Lib.hid (hr1.up hal)
  have HL0 := Lib.hid (hr1.below hal)
  have HLn := Lib.hid hr1.len
  clear hal E hr hr1
  go_enter Tryd.func6, Tryd.ntmps6
  go_wp2_with fail
  refine (lent_is _ A1 n1 k1 l1 HQ0.out (by omega)).mono ?_
  generalize (w.alloc (.cells #[.int .i64 c, .int .i64 s, .slice A n k] 34)) = W1 at *
  rintro e W2 ⟨rfl, hb, hB⟩
  have hS2 : FaS w W1.heap.size A1 n1 l1 W2 := ⟨HB0.out.trans (hB.mono HB0.out.size), HE0.out.below hB, hb, HB0.out.size, HL0.out.below (hB.mono HB0.out.size)⟩
  have HS2 := Lib.hid hS2
  have HF2 := Lib.hid (HF0.out.below hB HF0.out.lt)
  have HR2 := Lib.hid (HR0.out.up hB)
  clear hB hb hS2 HF0 HR0 HQ0 HL0 HB0 HE0
  generalize W1.heap.size = g at *
  go_wp2_with (refine f_fetch rfl _ rfl w.heap.size c s A n k 34 rfl HF2.out ?_)
  refine (putf_is W2 c s A n k l HR2.out).mono ?_
  intro e W3 ⟨Ax, nx, kx, he, hnx, hkx, hrx, hB⟩
  subst he
  have HS3 := Lib.hid (HS2.out.next hB)
  have HF3 := Lib.hid (HF2.out.below hB HF2.out.lt)
  have HR3 := Lib.hid (HR2.out.up hB)
  have HX3 := Lib.hid hrx
  clear hB hrx hnx hkx HS2 HF2 HR2
  go_wp2_with (refine f_fetch rfl _ rfl w.heap.size c s A n k 34 rfl HF3.out ?_)
  refine (rputf_is W3 c s A n k l HR3.out).mono ?_
  intro e W4 ⟨Ay, ny, ky, he, hny, hky, hry, hB⟩
  subst he
  generalize pfE c s l = pe at *
  generalize pfB c s l = pb at *
  have HS4 := Lib.hid (HS3.out.next hB)
  have HX4 := Lib.hid (HX3.out.up hB)
  have HY4 := Lib.hid hry
  clear hB hry hny hky HS3 HF3 HR3 HX3
  go_wp2_with fail
  refine (readf_is W4 (some ⟨g, 0, none⟩) n1 (n1 + 2) l1 HS4.out.own (by omega) (by omega)).mono ?_
  rintro e W5 ⟨hB, Ak, nk, kk, rfl, hxk, hnk, hkk⟩
  obtain ⟨q0, hq0⟩ : ∃ q, q = (if l1.length < 2 then 0 else l1.getD 0 0) := ⟨_, rfl⟩
  obtain ⟨q1, hq1⟩ : ∃ q, q = (if l1.length < 2 then 0 else l1.getD 1 0) := ⟨_, rfl⟩
  obtain ⟨q2, hq2⟩ : ∃ q : Int, q = (if l1.length < 2 then 3 else 0) := ⟨_, rfl⟩
  have HQq := Lib.hid (And.intro hq0 (And.intro hq1 hq2))
  rw [← hq0, ← hq1, ← hq2]
  clear hq0 hq1 hq2
  obtain ⟨ld, hld⟩ : ∃ ld, ld = l1.drop 2 := ⟨_, rfl⟩
  rw [← hld] at hxk hnk
  have hlb : nk ≤ 140737488355328 := by have := HLn.out; rw [hnk, hld]; simp; omega
  have HLd := Lib.hid hld
  have HNk := Lib.hid hnk
  have HG4 := Lib.hid HS4.out.lt
  have HZ5 := Lib.hid hB.size
  have HS5 := Lib.hid (HS4.out.next hB)
  have HX5 := Lib.hid (HX4.out.up hB)
  have HY5 := Lib.hid (HY4.out.up hB)
  have HK5 := Lib.hid hxk
  clear hB hxk hnk hld HS4 HX4 HY4
  obtain ⟨h1, h2⟩ := one_ft2 W5 q0 q1 Ak nk kk
  have H50 := Lib.hid (Blk.new W5 34 #[.int .i64 0, .int .i64 0, .slice none 0 0])
  have HA6 := Lib.hid h1
  have HZ6 := Lib.hid (Nat.le_trans HZ5.out h2.size)
  have HS6 := Lib.hid (HS5.out.next h2)
  have HX6 := Lib.hid (HX5.out.up h2)
  have HY6 := Lib.hid (HY5.out.up h2)
  have HK6 := Lib.hid (HK5.out.below h2)
  clear h1 h2 HS5 HX5 HY5 HK5 HZ5
  go_wp2_with (refine f_store rfl _ _ rfl W5.heap.size q0 q1 Ak nk kk rfl rfl 34 _ H50.out rfl ?_)
  refine (rreadf_is _ A1 n1 k1 l1 HS6.out.rd hk1 (by omega)).mono ?_
  clear H50
  generalize ((W5.alloc (.cells #[.int .i64 0, .int .i64 0, .slice none 0 0] 34)).setRow W5.heap.size #[.int .i64 q0, .int .i64 q1, .slice Ak nk kk]) = W6 at *
  generalize W5.heap.size = gk at *
  rintro e W7 ⟨hB, Al, nl, kl, rfl, hxl, hnl, hkl⟩
  rw [← HQq.out.1, ← HQq.out.2.1, ← HQq.out.2.2]
  rw [← HLd.out] at hxl hnl
  have HNl := Lib.hid hnl
  have HZ7 := Lib.hid (Nat.le_trans HZ6.out hB.size)
  have HS7 := Lib.hid (HS6.out.next hB)
  have HX7 := Lib.hid (HX6.out.up hB)
  have HY7 := Lib.hid (HY6.out.up hB)
  have HK7 := Lib.hid (HK6.out.below hB)
  have HA7 := Lib.hid (HA6.out.below hB HA6.out.lt)
  have HM7 := Lib.hid hxl
  clear hB hxl hnl HS6 HX6 HY6 HK6 HZ6 HA6
  obtain ⟨h1, h2⟩ := one_ft2 W7 q0 q1 Al nl kl
  have H70 := Lib.hid (Blk.new W7 34 #[.int .i64 0, .int .i64 0, .slice none 0 0])
  have HC8 := Lib.hid h1
  have HZ8 := Lib.hid (Nat.le_trans HZ7.out h2.size)
  have HS8 := Lib.hid (HS7.out.next h2)
  have HX8 := Lib.hid (HX7.out.up h2)
  have HY8 := Lib.hid (HY7.out.up h2)
  have HK8 := Lib.hid (HK7.out.below h2)
  have HM8 := Lib.hid (HM7.out.below h2)
  have HA8 := Lib.hid (HA7.out.below h2 HA7.out.lt)
  have e1 : (pe != pe) = false := by simp
  have e2 : (q2 != q2) = false := by simp
  clear h1 h2 HS7 HX7 HY7 HK7 HZ7 HA7 HM7
  go_wp2_with (refine f_store rfl _ _ rfl W7.heap.size q0 q1 Al nl kl rfl rfl 34 _ H70.out rfl ?_)
  refine (same_is _ _ Ax Ay nx ny kx ky _ _ HX8.out HY8.out true (by simp)).mono ?_
  clear H70 HX8 HY8
  generalize ((W7.alloc (.cells #[.int .i64 0, .int .i64 0, .slice none 0 0] 34)).setRow W7.heap.size #[.int .i64 q0, .int .i64 q1, .slice Al nl kl]) = W8 at *
  generalize W7.heap.size = gl at *
  rintro e W9 ⟨rfl, rfl⟩
  go_wp2_with (first
    | (refine f_fetch rfl _ rfl gk q0 q1 Ak nk kk 34 rfl HA8.out ?_)
    | (refine f_fetch rfl _ rfl gl q0 q1 Al nl kl 34 rfl HC8.out ?_))
  have hrk := HK8.out.rd
  have hrl := HM8.out.rd
  rw [← HNk.out] at hrk
  rw [← HNl.out] at hrl
  refine (alike_is W8 q0 q1 q0 q1 Ak Al nk nl kk kl ld ld hrk hrl true (by simp)).mono ?_
  rintro e W9 ⟨rfl, hB⟩
  have HZ9 := Lib.hid (Nat.le_trans HZ8.out hB.size)
  have HS9 := Lib.hid (HS8.out.next hB)
  have HK9 := Lib.hid (HK8.out.below hB)
  have HA9 := Lib.hid (HA8.out.below hB HA8.out.lt)
  clear hB hrk hrl HZ8 HS8 HK8 HA8 HM8 HC8
  go_wp2_with fail
  refine (readr_is W9 HS9.out.2.1 (some ⟨g, 0, none⟩) n1 (n1 + 2) l1 HS9.out.own).mono ?_
  rintro e Wa ⟨rfl, hB⟩
  have HZa := Lib.hid (Nat.le_trans HZ9.out hB.size)
  have HSa := Lib.hid (HS9.out.next hB)
  have HKa := Lib.hid (HK9.out.below hB)
  have HAa := Lib.hid (HA9.out.below hB HA9.out.lt)
  clear hB HZ9 HS9 HK9 HA9
  go_wp2_with fail
  refine (rreadr_is Wa A1 n1 k1 l1 HSa.out.rd).mono ?_
  rintro e Wb ⟨rfl, rfl⟩
  have e3 : (refB l1 != refB l1) = false := by simp
  have ca : Wa.cell? ⟨gk, 2, none⟩ = some (.slice Ak nk kk) := HAa.out.cell 2
  go_wp2_with fail
  refine (spoil_body W4 Wa Ak nk kk ld HKa.out HNk.out (by omega) HZa.out).mono ?_
  rintro e Wb ⟨rfl, hB⟩
  have HSb := Lib.hid (HSa.out.step hB HG4.out)
  clear hB ca HSa HKa HAa HZa
  go_wp2_with fail
  refine (putr_is Wb HSb.out.2.1).mono ?_
  rintro e Wc ⟨rfl, hb, hB⟩
  have HSc := Lib.hid (HSb.out.next hB)
  have HGb := Lib.hid HSb.out.lt
  have Hb := Lib.hid hb
  have Hz := Lib.hid hB.size
  clear hB hb HSb
  go_wp2_with fail
  refine (spoil_byt Wc Wb.heap.size 85 fam 4 Hb.out (by unfold Oct; decide) (by decide) Wb.heap.size Hz.out (Nat.le_refl _)).mono ?_
  rintro e Wd ⟨rfl, hB⟩
  have HSd := Lib.hid (HSc.out.step hB HGb.out)
  clear hB Hb Hz HGb HSc
  go_wp2_with fail
  refine (putr_is Wd HSd.out.2.1).mono ?_
  rintro e We ⟨rfl, hb, hB⟩
  have HSe := Lib.hid (HSd.out.next hB)
  have Hb := Lib.hid (hb.rd_all (by unfold Oct; decide) hb.lt)
  clear hB hb HSd
  go_wp2_with fail
  refine (rputr_is We).mono ?_
  rintro e Wf ⟨rfl, hb, hB⟩
  have HSf := Lib.hid (HSe.out.next hB)
  have Hbf := Lib.hid (Hb.out.up hB)
  have Hcf := Lib.hid (hb.rd_all (by unfold Oct; decide) hb.lt)
  clear hB hb HSe Hb
  go_wp2_with fail
  refine (same_is Wf _ _ _ 4 4 4 4 fam fam Hbf.out Hcf.out true (by simp)).mono ?_
  rintro e Wg ⟨rfl, rfl⟩
  clear Hbf Hcf
  go_wp2_with fail
  refine (putr_is Wf HSf.out.2.1).mono ?_
  rintro e Wg ⟨rfl, hb, hB⟩
  have HSg := Lib.hid (HSf.out.next hB)
  have Hb := Lib.hid (hb.rd_all (by unfold Oct; decide) hb.lt)
  clear hB hb HSf
  go_wp2_with fail
  refine (readr_is Wg HSg.out.2.1 _ 4 4 fam Hb.out).mono ?_
  rw [show refB fam = true by decide]
  rintro e Wh ⟨rfl, hB⟩
  have HSh := Lib.hid (HSg.out.next hB)
  clear hB HSg Hb
  go_wp2_with fail
  refine (kept_is Wh g _ A1 n1 k1 l1 HSh.out.2.2.1 HSh.out.rd (by omega)).mono ?_
  rintro e Wi ⟨rfl, rfl⟩
  go_wp2_with fail
  refine (alive_is Wh HSh.out.2.1).mono ?_
  rintro e Wi ⟨rfl, hB⟩
  have HBf := Lib.hid (HSh.out.next hB).1
  clear hB HSh
  go_wp2
  go_ret
  exact ⟨rfl, HBf.out⟩
end Go.Proofs.YtgfjjkckamppoaaDoor
