/-
  Put together: NlJ NlK NlL.
-/
import Derived.Test.YtdgoeibfggjbmaaGreatDoorMNG
namespace Go.Proofs.YtdgoeibfggjbmaaGreatDoor
open Go.RowKit
set_option maxRecDepth 100000
set_option linter.unusedSimpArgs false
set_option linter.unusedVariables false

section
variable {A0 : Option Addr} {c0 : Nat} {w w' : World} {b g : Nat} {r : Rt} {l : List Int} {s s' : CS}
theorem RtAt.fr (h : RtAt w b r) (o : Nat) (ho : o < 63) : w.frozen? ⟨b, o, none⟩ = false := (h.thereAt o 1 (by omega) 0 (by omega)).2
theorem RS.drewN (h : RS A0 c0 w b g r l s) (k : Nat) : RS A0 c0 (w.drewN k) b g r l s := h.above (below_drewN (Below.refl _ _) k)
theorem RS.setTg (h : RS A0 c0 w b g r l s) (n : Int) (hn : U32 n) : RS A0 c0 (w.setCell ⟨b, 19, none⟩ (.int .u32 n)) b g { r with tg := n } l s := h.set (new := [.int .u32 n]) (rtc_tg r) (rtc_tg _) (preTg_len h.ok) rfl { h.ok with tg := hn }
theorem RS.setPn (h : RS A0 c0 w b g r l s) (n : Int) (hn : I64 n) : RS A0 c0 (w.setCell ⟨b, 43, none⟩ (.int .i64 n)) b g { r with pn := n } l s := h.set (new := [.int .i64 n]) (rtc_pn r) (rtc_pn _) (prePn_len h.ok) rfl { h.ok with pn := hn }
theorem RS.setLb (h : RS A0 c0 w b g r l s) (n : Int) (hn : U32 n) : RS A0 c0 (w.setCell ⟨b, 61, none⟩ (.int .u32 n)) b g { r with lb := n } l s := h.set (new := [.int .u32 n]) (rtc_lb r) (rtc_lb _) (preLb_len h.ok) rfl { h.ok with lb := hn }
theorem RS.setL2 (h : RS A0 c0 w b g r l s) (n : Int) (hn : U32 n) : RS A0 c0 (w.setCell ⟨b, 62, none⟩ (.int .u32 n)) b g { r with l2 := n } l s := h.set (new := [.int .u32 n]) (rtc_l2 r) (rtc_l2 _) (preL2_len h.ok) rfl { h.ok with l2 := hn }
theorem RS.setPf (h : RS A0 c0 w b g r l s) (v : Bool) (xs : List Int) (n : Int) (hl : xs.length = 16) (ho : Oct xs) (hn : I64 n) : RS A0 c0 (w.setCells b 26 (pfc v xs n)) b g { r with v6 := v, pl := xs, pn := n } l s := h.set (rtc_pf r) (rtc_pf _) (prePf_len h.ok) (by rw [pfc_len, pfc_len, hl, h.ok.pl]) { h.ok with pl := hl, opl := ho, pn := hn }
theorem RS.setIp (h : RS A0 c0 w b g r l s) (v : Bool) (xs : List Int) (hl : xs.length = 16) (ho : Oct xs) : RS A0 c0 (w.setCells b 26 (ipc v xs)) b g { r with v6 := v, pl := xs } l s := h.set (rtc_ip r) (rtc_ip _) (prePf_len h.ok) (by rw [ipc_len, ipc_len, hl, h.ok.pl]) { h.ok with pl := hl, opl := ho }
theorem RS.setGw (h : RS A0 c0 w b g r l s) (v : Bool) (xs : List Int) (hl : xs.length = 16) (ho : Oct xs) : RS A0 c0 (w.setCells b 44 (ipc v xs)) b g { r with gv := v, gl := xs } l s := h.set (rtc_gw r) (rtc_gw _) (preGw_len h.ok) (by rw [ipc_len, ipc_len, hl, h.ok.gl]) { h.ok with gl := hl, ogl := ho }
end
theorem u32_nV3 {l : List Int} (h : Oct l) (s : CS) : U32 (nV l s 3) := by
  have : 0 ≤ nV l s 3 ∧ nV l s 3 < 16777216 := nV_bd h s 3
  exact ⟨this.1, by omega⟩
theorem u32_nV4 {l : List Int} (h : Oct l) (s : CS) : U32 (nV l s 4) := nV_bd h s 4
theorem byte_nV1 {l : List Int} (h : Oct l) (s : CS) : 0 ≤ nV l s 1 ∧ nV l s 1 < 256 := nV_bd h s 1
theorem ipP_len (l : List Int) (s : CS) (v : Bool) : (pad (tV l s (nb v))).length = 16 := pad_len (Nat.le_trans (took_le _ _ _ _) (nb_le v))
theorem ipP_oct {l : List Int} (h : Oct l) (s : CS) (v : Bool) : Oct (pad (tV l s (nb v))) := pad_oct (took_oct h _ _ _)
theorem wholeV_ok {l : List Int} (h : Oct l) (s : CS) : (wholeV l s).2.1.length = 16 ∧ Oct (wholeV l s).2.1 ∧ I64 (wholeV l s).2.2 := by
  have hb := byte_nV1 h s
  have hi : I64 (nV l s 1) := ⟨by omega, by omega⟩
  unfold wholeV
  split
  · exact ⟨ipP_len _ _ _, ipP_oct h _ _, hi⟩
  · split
    · exact ⟨ipP_len _ _ _, ipP_oct h _ _, hi⟩
    · exact ⟨rfl, oct_zeros 16, hi⟩
theorem pf_part_to {ops : Array Oper} {rest : List Oper} {o : Oper} {a : Act} {w : World} {Q : Exit → Act → World → Prop} (hgd : o.guard = none) (x y : Operand) (ho : o.op = .store 51 x y) (g off : Nat) (v : Bool) (l : List Int) (n : Int) (hl : l.length = 16)
    (hx : a.eval x = .pointer (some ⟨g, off, none⟩)) (hy : a.eval y = .agg (pfc v l n).toArray) (ht : w.there g off 18) (I : World → Prop) (hI : I (w.setCells g off (pfc v l n)))
    (h : ∀ W, I W → wpList Tryz.prog ops Q rest (a.put o.dst undef) W) : wpList Tryz.prog ops Q (o :: rest) a w :=
  part_store hgd 51 x y ho g off (pfc v l n) hx hy (by rw [pfc_len, hl]; exact ht) (by rw [pfc_len, hl]; kernel_rfl) (one_pfc v l n) (h _ hI)

/-! readPrefix -/
def preR (six : Bool) (r : Rt) (l : List Int) (s : CS) : Rt :=
  { r with pn := nV l s 1, v6 := six, pl := pad (tV l (nS l s 1) (nb six)), gv := six, gl := pad (tV l (tS l (nS l s 1) (nb six)) (nb six)), lb := nV l (tS l (tS l (nS l s 1) (nb six)) (nb six)) 3 }
def preS (six : Bool) (l : List Int) (s : CS) : CS := nS l (tS l (tS l (nS l s 1) (nb six)) (nb six)) 3
section
variable {A0 : Option Addr} {c0 : Nat}
set_option maxHeartbeats 1000000 in
theorem rpre_is (w : World) (b g : Nat) (r : Rt) (l : List Int) (s : CS) (six : Bool) (h : RS A0 c0 w b g r l s) :
    Calls Tryz.prog 239 #[.pointer (some ⟨g, 0, none⟩), .pointer (some ⟨b, 0, none⟩), .bool six] w fun e w' => e = .returned (.tuple #[]) ∧ RS A0 c0 w' b g (preR six r l s) l (preS six l s) ∧ Below b w w' := by
  have HO := Lib.hid h.cu.oct
  have HS0 := Lib.hid h
  obtain ⟨hx0, hx1⟩ := byte_nV1 h.cu.oct s
  have HN := Lib.hid (numS w g l s 1 h.cu)
  have HR : Hid (preR six r l s = { r with pn := nV l s 1, v6 := six, pl := pad (tV l (nS l s 1) (nb six)), gv := six, gl := pad (tV l (tS l (nS l s 1) (nb six)) (nb six)), lb := nV l (tS l (tS l (nS l s 1) (nb six)) (nb six)) 3 } ∧ preS six l s = nS l (tS l (tS l (nS l s 1) (nb six)) (nb six)) 3) := Lib.hid ⟨rfl, rfl⟩
  clear h
  generalize nV l s 1 = n at *
  generalize nS l s 1 = s1 at *
  generalize preR six r l s = rr at *
  generalize preS six l s = ss at *
  go_enter Tryz.func239, Tryz.ntmps239
  go_wp2_with fail
  refine HN.out.mono ?_
  rintro e w1 ⟨rfl, hC, hG⟩
  have hs1 := HS0.out.step hC hG
  have hcell := hs1.rt.cPn hs1.ok
  have hfr := hs1.rt.fr 43 (by omega)
  have HS1 := Lib.hid (hs1.setPn n ⟨by omega, by omega⟩)
  have HB1 := Lib.hid ((HS0.out.low hG).trans (low_cells w1 b 43 [.int .i64 n]))
  change Hid (Below b w (w1.setCell ⟨b, 43, none⟩ (.int .i64 n))) at HB1
  clear hC hG hs1 HN
  go_wp2_with fail
  generalize w1.setCell ⟨b, 43, none⟩ (.int .i64 n) = W1 at *
  refine (rip_is _ g l _ six HS1.out.cu).mono ?_
  rintro e w2 ⟨rfl, hC2, hG2⟩
  have hs2 := HS1.out.step hC2 hG2
  have hth := hs2.rt.thereAt 26 17 (by omega)
  have HL1 := Lib.hid (ipP_len l s1 six)
  have HP1 := Lib.hid (ipP_oct HO.out s1 six)
  generalize pad (tV l s1 (nb six)) = x1 at *
  have HS2 := Lib.hid (hs2.setIp six x1 HL1.out HP1.out)
  have HB2 := Lib.hid ((HB1.out.trans (HS1.out.low hG2)).trans (low_cells w2 b 26 (ipc six x1)))
  clear hC2 hG2 hs2 HS1 HB1
  go_wp2_with (first
    | (refine ip_part_to rfl _ _ rfl b 26 six x1 HL1.out rfl rfl hth (fun W => RS A0 c0 W b g _ l _ ∧ Below b w W) ⟨HS2.out, HB2.out⟩ ?_; intro W2 hW2; have HW2 := Lib.hid hW2; clear hW2)
    | fail)
  clear HS2 HB2
  refine (rip_is _ g l _ six HW2.out.1.cu).mono ?_
  rintro e w3 ⟨rfl, hC3, hG3⟩
  have hs3 := HW2.out.1.step hC3 hG3
  have hth2 := hs3.rt.thereAt 44 17 (by omega)
  have HL2 := Lib.hid (ipP_len l (tS l s1 (nb six)) six)
  have HP2 := Lib.hid (ipP_oct HO.out (tS l s1 (nb six)) six)
  generalize pad (tV l (tS l s1 (nb six)) (nb six)) = x2 at *
  generalize tS l (tS l s1 (nb six)) (nb six) = s3 at *
  have HS3 := Lib.hid (hs3.setGw six x2 HL2.out HP2.out)
  have HB3 := Lib.hid ((HW2.out.2.trans (HW2.out.1.low hG3)).trans (low_cells w3 b 44 (ipc six x2)))
  clear hC3 hG3 hs3 HW2 hth
  go_wp2_with (first
    | (refine ip_part_to rfl _ _ rfl b 44 six x2 HL2.out rfl rfl hth2 (fun W => RS A0 c0 W b g _ l s3 ∧ Below b w W) ⟨HS3.out, HB3.out⟩ ?_; intro W3 hW3; have HW3 := Lib.hid hW3; clear hW3)
    | fail)
  clear HS3 HB3 hth2
  refine (label_is _ g l _ HW3.out.1.cu).mono ?_
  rintro e w4 ⟨rfl, hC4, hG4⟩
  have hs4 := HW3.out.1.step hC4 hG4
  have hu := u32_nV3 HO.out s3
  have hcell4 := hs4.rt.cLb hs4.ok
  have hfr4 := hs4.rt.fr 61 (by omega)
  have HS4 := Lib.hid (hs4.setLb _ hu)
  have HB4 := Lib.hid ((HW3.out.2.trans (HW3.out.1.low hG4)).trans (low_cells w4 b 61 [.int .u32 (nV l s3 3)]))
  change Hid (Below b w (w4.setCell ⟨b, 61, none⟩ (.int .u32 (nV l s3 3)))) at HB4
  clear hC4 hG4 hs4 HW3 hu
  go_wp2
  go_end0
  exact ⟨rfl, by rw [HR.out.1, HR.out.2]; exact HS4.out, HB4.out⟩
end

/-! readMac -/
def macR (r : Rt) (l : List Int) (s : CS) : Rt :=
  { r with mc := fillV l (nS l s 1) 6, v6 := (wholeV l (fillS l (nS l s 1) 6)).1, pl := (wholeV l (fillS l (nS l s 1) 6)).2.1, pn := (wholeV l (fillS l (nS l s 1) 6)).2.2, lb := nV l (wholeS l (fillS l (nS l s 1) 6)) 3, l2 := if (nS l (wholeS l (fillS l (nS l s 1) 6)) 3).1 < l.length then nV l (nS l (wholeS l (fillS l (nS l s 1) 6)) 3) 3 else r.l2 }
def macS (l : List Int) (s : CS) : CS :=
  if (nS l (wholeS l (fillS l (nS l s 1) 6)) 3).1 < l.length then nS l (nS l (wholeS l (fillS l (nS l s 1) 6)) 3) 3 else nS l (wholeS l (fillS l (nS l s 1) 6)) 3
section
variable {A0 : Option Addr} {c0 : Nat}
set_option maxHeartbeats 2000000 in
theorem rmac_is (w : World) (b g : Nat) (r : Rt) (l : List Int) (s : CS) (h : RS A0 c0 w b g r l s) :
    Calls Tryz.prog 237 #[.pointer (some ⟨g, 0, none⟩), .pointer (some ⟨b, 0, none⟩)] w fun e w' => e = .returned (.bool (decide (nV l s 1 = 48))) ∧ RS A0 c0 w' b g (macR r l s) l (macS l s) ∧ Below b w w' := by
  have HO := Lib.hid h.cu.oct
  have HS0 := Lib.hid h
  obtain ⟨hx0, hx1⟩ := byte_nV1 h.cu.oct s
  have HN := Lib.hid (numS w g l s 1 h.cu)
  have HR : Hid (macR r l s = { r with mc := fillV l (nS l s 1) 6, v6 := (wholeV l (fillS l (nS l s 1) 6)).1, pl := (wholeV l (fillS l (nS l s 1) 6)).2.1, pn := (wholeV l (fillS l (nS l s 1) 6)).2.2, lb := nV l (wholeS l (fillS l (nS l s 1) 6)) 3, l2 := if (nS l (wholeS l (fillS l (nS l s 1) 6)) 3).1 < l.length then nV l (nS l (wholeS l (fillS l (nS l s 1) 6)) 3) 3 else r.l2 } ∧
    macS l s = if (nS l (wholeS l (fillS l (nS l s 1) 6)) 3).1 < l.length then nS l (nS l (wholeS l (fillS l (nS l s 1) 6)) 3) 3 else nS l (wholeS l (fillS l (nS l s 1) 6)) 3) := Lib.hid ⟨rfl, rfl⟩
  have hs6 : ∀ W, (Instr.sliceAt 49 (.pointer (some ⟨b, 20, none⟩)) none none none).run Tryz.prog W = .ok (.slice (some ⟨b, 20, none⟩) 6 6) W := fun W => by go_simp
  clear h
  generalize nS l s 1 = s1 at *
  generalize macR r l s = rr at *
  generalize macS l s = ss at *
  generalize nV l s 1 = bt at *
  go_enter Tryz.func237, Tryz.ntmps237
  go_wp2_with fail
  refine HN.out.mono ?_
  rintro e w1 ⟨rfl, hC, hG⟩
  have HS1 := Lib.hid (HS0.out.step hC hG)
  have HB1 := Lib.hid (HS0.out.low hG)
  clear hC hG HN HS0
  go_wp2_with fail
  refine (fill_is _ b g 20 6 6 (fun xs => { r with mc := xs }) (preMc r) (postMc r) (fun xs => rtc_mc _) (preMc_len HS1.out.ok) (fun xs hl ho => { HS1.out.ok with mc := hl, omc := ho }) r.mc HS1.out.ok.mc HS1.out.ok.omc (by omega) l s1 HS1.out).mono ?_
  rintro e w2 ⟨rfl, hS2, hB2⟩
  have HS2 := Lib.hid hS2
  have HB2 := Lib.hid (HB1.out.trans hB2)
  clear hS2 hB2 HS1 HB1 hs6
  generalize fillV l s1 6 = mc at *
  generalize fillS l s1 6 = s2 at *
  go_wp2_with fail
  refine (whole_at _ g l s2 HS2.out.cu).mono ?_
  rintro e w3 ⟨rfl, hC3, hG3⟩
  have hs3 := HS2.out.step hC3 hG3
  have hth := hs3.rt.thereAt 26 18 (by omega)
  obtain ⟨hl3, ho3, hn3⟩ := wholeV_ok HO.out s2
  have HL3 := Lib.hid hl3
  generalize wholeV l s2 = pv at *
  obtain ⟨v6, xs, n⟩ := pv
  simp only at hl3 ho3 hn3 HL3
  generalize wholeS l s2 = s3 at *
  have HS3 := Lib.hid (hs3.setPf v6 xs n hl3 ho3 hn3)
  have HB3 := Lib.hid ((HB2.out.trans (HS2.out.low hG3)).trans (low_cells w3 b 26 (pfc v6 xs n)))
  clear hC3 hG3 hs3 HS2 HB2 hl3 ho3 hn3
  go_wp2_with (first
    | (refine pf_part_to rfl _ _ rfl b 26 v6 xs n HL3.out rfl rfl hth (fun W => RS A0 c0 W b g _ l s3 ∧ Below b w W) ⟨HS3.out, HB3.out⟩ ?_; intro W3 hW3; have HW3 := Lib.hid hW3; clear hW3)
    | fail)
  clear HS3 HB3 hth
  refine (label_is _ g l _ HW3.out.1.cu).mono ?_
  rintro e w4 ⟨rfl, hC4, hG4⟩
  have hs4 := HW3.out.1.step hC4 hG4
  have hu := u32_nV3 HO.out s3
  have hcell4 := hs4.rt.cLb hs4.ok
  have hfr4 := hs4.rt.fr 61 (by omega)
  have HS4 := Lib.hid (hs4.setLb _ hu)
  have HB4 := Lib.hid ((HW3.out.2.trans (HW3.out.1.low hG4)).trans (low_cells w4 b 61 [.int .u32 (nV l s3 3)]))
  change Hid (Below b w (w4.setCell ⟨b, 61, none⟩ (.int .u32 (nV l s3 3)))) at HB4
  clear hC4 hG4 hs4 HW3 hu
  generalize nV l s3 3 = lb at *
  generalize nS l s3 3 = s4 at *
  go_wp2_with fail
  generalize w4.setCell ⟨b, 61, none⟩ (.int .u32 lb) = W4 at *
  clear hcell4 hfr4
  refine (leftC_is _ g l _ _ HS4.out.cu.toIsCurT).mono ?_
  rintro e w5 ⟨rfl, k5, rfl⟩
  have HS5 := Lib.hid (HS4.out.drewN k5)
  have HB5 := Lib.hid (below_drewN HB4.out k5)
  have hle4 := HS4.out.cu.le
  clear HS4 HB4
  by_cases hlt : s4.1 < l.length
  · simp only [if_pos hlt] at HR
    go_wp2_with fail
    generalize W4.drewN k5 = W5 at *
    refine (label_is _ g l _ HS5.out.cu).mono ?_
    rintro e w6 ⟨rfl, hC6, hG6⟩
    have hs6 := HS5.out.step hC6 hG6
    have hu := u32_nV3 HO.out s4
    have hcell6 := hs6.rt.cL2 hs6.ok
    have hfr6 := hs6.rt.fr 62 (by omega)
    have HS6 := Lib.hid (hs6.setL2 _ hu)
    have HB6 := Lib.hid ((HB5.out.trans (HS5.out.low hG6)).trans (low_cells w6 b 62 [.int .u32 (nV l s4 3)]))
    change Hid (Below b w (w6.setCell ⟨b, 62, none⟩ (.int .u32 (nV l s4 3)))) at HB6
    clear hC6 hG6 hs6 HS5 HB5 hu
    go_wp2
    go_ret
    refine ⟨by congr 2, by rw [HR.out.1, HR.out.2]; exact HS6.out, HB6.out⟩
  · simp only [if_neg hlt] at HR
    go_wp2
    go_ret
    refine ⟨by congr 2, by rw [HR.out.1, HR.out.2]; exact HS5.out, HB5.out⟩
end
end Go.Proofs.YtdgoeibfggjbmaaGreatDoor
namespace Go.Proofs.YtdgoeibfggjbmaaGreatDoor
open Go.RowKit
set_option maxRecDepth 100000
set_option linter.unusedSimpArgs false
set_option linter.unusedVariables false

def fs1 (l : List Int) : CS := fillS l (0, 0) 8
def fs2 (l : List Int) (k : Int) : CS := if k = 3 then fs1 l else fillS l (fs1 l) 10
def fs3 (l : List Int) (k : Int) : CS := if k = 4 then fs2 l k else nS l (fs2 l k) 4
def hdR (r : Rt) (l : List Int) : Rt :=
  { r with rd := fillV l (0, 0) 8, es := if r.k = 3 then r.es else fillV l (fs1 l) 10, tg := if r.k = 4 then r.tg else nV l (fs2 l r.k) 4 }
def fdR (r : Rt) (l : List Int) : Rt :=
  if r.k = 1 then { hdR r l with lb := nV l (fs3 l r.k) 3 }
  else if r.k = 2 then macR (hdR r l) l (fs3 l r.k)
  else if r.k = 5 then preR (decide (l.length = 58)) (hdR r l) l (fs3 l r.k)
  else { hdR r l with v6 := (wholeV l (fs3 l r.k)).1, pl := (wholeV l (fs3 l r.k)).2.1, pn := (wholeV l (fs3 l r.k)).2.2 }
def fdS (k : Int) (l : List Int) : CS :=
  if k = 1 then nS l (fs3 l k) 3
  else if k = 2 then macS l (fs3 l k)
  else if k = 5 then preS (decide (l.length = 58)) l (fs3 l k)
  else wholeS l (fs3 l k)
def fdB (k : Int) (l : List Int) : Bool := if k = 2 then decide (nV l (fs3 l k) 1 = 48) else true
section
variable {A0 : Option Addr} {c0 : Nat}
set_option maxHeartbeats 2000000 in
theorem fields_1 (w : World) (b g : Nat) (r : Rt) (l : List Int) (h : RS A0 c0 w b g r l (0, 0)) (hk : r.k = 1) :
    Calls Tryz.prog 231 #[.pointer (some ⟨g, 0, none⟩), .pointer (some ⟨b, 0, none⟩)] w fun e w' => e = .returned (.bool (fdB r.k l)) ∧ RS A0 c0 w' b g (fdR r l) l (fdS r.k l) ∧ Below b w w' := by
  have HO := Lib.hid h.cu.oct
  have HS0 := Lib.hid h
  have HK := Lib.hid hk
  have hs8 : ∀ W, (Instr.sliceAt 45 (.pointer (some ⟨b, 1, none⟩)) none none none).run Tryz.prog W = .ok (.slice (some ⟨b, 1, none⟩) 8 8) W := fun W => by go_simp
  have hs10 : ∀ W, (Instr.sliceAt 47 (.pointer (some ⟨b, 9, none⟩)) none none none).run Tryz.prog W = .ok (.slice (some ⟨b, 9, none⟩) 10 10) W := fun W => by go_simp
  have HF : Hid (fdR r l = { r with rd := fillV l (0, 0) 8, es := fillV l (fs1 l) 10, tg := nV l (fillS l (fs1 l) 10) 4, lb := nV l (nS l (fillS l (fs1 l) 10) 4) 3 } ∧ fdS r.k l = nS l (nS l (fillS l (fs1 l) 10) 4) 3 ∧ fdB r.k l = true) := Lib.hid (by
    unfold fdR fdS fdB hdR fs3 fs2
    simp [hk])
  clear h hk
  go_enter Tryz.func231, Tryz.ntmps231
  go_wp2_with fail
  refine (leftC_is _ g l _ _ HS0.out.cu.toIsCurT).mono ?_
  rintro e w1 ⟨rfl, k1, rfl⟩
  have HS1 := Lib.hid (HS0.out.drewN k1)
  have HB1 := Lib.hid (below_drewN (Below.refl b w) k1)
  clear HS0
  generalize w.drewN k1 = W1 at *
  go_wp2_with fail
  refine (fill_is _ b g 1 8 8 (fun xs => { r with rd := xs }) [.int .i64 r.k] (postRd r) (fun xs => rtc_rd _) rfl (fun xs hl ho => { HS1.out.ok with rd := hl, ord := ho }) r.rd HS1.out.ok.rd HS1.out.ok.ord (by omega) l (0, 0) HS1.out).mono ?_
  rintro e w2 ⟨rfl, hS2, hB2⟩
  have HS2 := Lib.hid hS2
  have HB2 := Lib.hid (HB1.out.trans hB2)
  have hck2 := hS2.rt.cK
  simp only [HK.out] at hck2
  clear hS2 hB2 HS1 HB1
  change Hid (RS A0 c0 w2 b g _ l (fs1 l)) at HS2
  generalize fillV l (0, 0) 8 = v1 at *
  generalize fs1 l = s1 at *
  go_wp2_with fail
  refine (fill_is _ b g 9 10 10 (fun xs => { r with rd := v1, es := xs }) (preEs { r with rd := v1 }) (postEs r) (fun xs => rtc_es _) (preEs_len HS2.out.ok) (fun xs hl ho => { HS2.out.ok with es := hl, oes := ho }) r.es HS2.out.ok.es HS2.out.ok.oes (by omega) l s1 HS2.out).mono ?_
  rintro e w3 ⟨rfl, hS3, hB3⟩
  have HS3 := Lib.hid hS3
  have HB3 := Lib.hid (HB2.out.trans hB3)
  have hck3 := hS3.rt.cK
  simp only [HK.out] at hck3
  clear hS3 hB3 HS2 HB2 hck2
  generalize fillV l s1 10 = v2 at *
  generalize fillS l s1 10 = s2 at *
  go_wp2_with fail
  refine (numS _ g l s2 4 HS3.out.cu).mono ?_
  rintro e w4 ⟨rfl, hC4, hG4⟩
  have hs4 := HS3.out.step hC4 hG4
  have hu4 := u32_nV4 HO.out s2
  have hcell4 := hs4.rt.cTg hs4.ok
  have hfr4 := hs4.rt.fr 19 (by omega)
  generalize nV l s2 4 = tg at *
  generalize nS l s2 4 = s3 at *
  obtain ⟨hu4a, hu4b⟩ := hu4
  have HS4 := Lib.hid (hs4.setTg tg ⟨hu4a, hu4b⟩)
  have HB4 := Lib.hid ((HB3.out.trans (HS3.out.low hG4)).trans (low_cells w4 b 19 [.int .u32 tg]))
  change Hid (Below b w (w4.setCell ⟨b, 19, none⟩ (.int .u32 tg))) at HB4
  have hck4 := HS4.out.rt.cK
  simp only [HK.out] at hck4
  clear hC4 hG4 hs4 HS3 HB3 hck3
  go_wp2_with fail
  generalize w4.setCell ⟨b, 19, none⟩ (.int .u32 tg) = W4 at *
  clear hcell4 hfr4
  refine (label_is _ g l _ HS4.out.cu).mono ?_
  rintro e w5 ⟨rfl, hC5, hG5⟩
  have hs5 := HS4.out.step hC5 hG5
  have hu := u32_nV3 HO.out s3
  have hcell5 := hs5.rt.cLb hs5.ok
  have hfr5 := hs5.rt.fr 61 (by omega)
  have HS5 := Lib.hid (hs5.setLb _ hu)
  have HB5 := Lib.hid ((HB4.out.trans (HS4.out.low hG5)).trans (low_cells w5 b 61 [.int .u32 (nV l s3 3)]))
  change Hid (Below b w (w5.setCell ⟨b, 61, none⟩ (.int .u32 (nV l s3 3)))) at HB5
  clear hC5 hG5 hs5 HS4 HB4 hck4 hu
  go_wp2
  go_ret
  exact ⟨by rw [HF.out.2.2]; rfl, by rw [HF.out.1, HF.out.2.1]; exact HS5.out, HB5.out⟩
set_option maxHeartbeats 2000000 in
theorem fields_2 (w : World) (b g : Nat) (r : Rt) (l : List Int) (h : RS A0 c0 w b g r l (0, 0)) (hk : r.k = 2) :
    Calls Tryz.prog 231 #[.pointer (some ⟨g, 0, none⟩), .pointer (some ⟨b, 0, none⟩)] w fun e w' => e = .returned (.bool (fdB r.k l)) ∧ RS A0 c0 w' b g (fdR r l) l (fdS r.k l) ∧ Below b w w' := by
  have HO := Lib.hid h.cu.oct
  have HS0 := Lib.hid h
  have HK := Lib.hid hk
  have hs8 : ∀ W, (Instr.sliceAt 45 (.pointer (some ⟨b, 1, none⟩)) none none none).run Tryz.prog W = .ok (.slice (some ⟨b, 1, none⟩) 8 8) W := fun W => by go_simp
  have hs10 : ∀ W, (Instr.sliceAt 47 (.pointer (some ⟨b, 9, none⟩)) none none none).run Tryz.prog W = .ok (.slice (some ⟨b, 9, none⟩) 10 10) W := fun W => by go_simp
  have HF : Hid (fdR r l = macR { r with rd := fillV l (0, 0) 8, es := fillV l (fs1 l) 10, tg := nV l (fillS l (fs1 l) 10) 4 } l (nS l (fillS l (fs1 l) 10) 4) ∧ fdS r.k l = macS l (nS l (fillS l (fs1 l) 10) 4) ∧ fdB r.k l = decide (nV l (nS l (fillS l (fs1 l) 10) 4) 1 = 48)) := Lib.hid (by
    unfold fdR fdS fdB hdR fs3 fs2
    simp [hk])
  clear h hk
  go_enter Tryz.func231, Tryz.ntmps231
  go_wp2_with fail
  refine (leftC_is _ g l _ _ HS0.out.cu.toIsCurT).mono ?_
  rintro e w1 ⟨rfl, k1, rfl⟩
  have HS1 := Lib.hid (HS0.out.drewN k1)
  have HB1 := Lib.hid (below_drewN (Below.refl b w) k1)
  clear HS0
  generalize w.drewN k1 = W1 at *
  go_wp2_with fail
  refine (fill_is _ b g 1 8 8 (fun xs => { r with rd := xs }) [.int .i64 r.k] (postRd r) (fun xs => rtc_rd _) rfl (fun xs hl ho => { HS1.out.ok with rd := hl, ord := ho }) r.rd HS1.out.ok.rd HS1.out.ok.ord (by omega) l (0, 0) HS1.out).mono ?_
  rintro e w2 ⟨rfl, hS2, hB2⟩
  have HS2 := Lib.hid hS2
  have HB2 := Lib.hid (HB1.out.trans hB2)
  have hck2 := hS2.rt.cK
  simp only [HK.out] at hck2
  clear hS2 hB2 HS1 HB1
  change Hid (RS A0 c0 w2 b g _ l (fs1 l)) at HS2
  generalize fillV l (0, 0) 8 = v1 at *
  generalize fs1 l = s1 at *
  go_wp2_with fail
  refine (fill_is _ b g 9 10 10 (fun xs => { r with rd := v1, es := xs }) (preEs { r with rd := v1 }) (postEs r) (fun xs => rtc_es _) (preEs_len HS2.out.ok) (fun xs hl ho => { HS2.out.ok with es := hl, oes := ho }) r.es HS2.out.ok.es HS2.out.ok.oes (by omega) l s1 HS2.out).mono ?_
  rintro e w3 ⟨rfl, hS3, hB3⟩
  have HS3 := Lib.hid hS3
  have HB3 := Lib.hid (HB2.out.trans hB3)
  have hck3 := hS3.rt.cK
  simp only [HK.out] at hck3
  clear hS3 hB3 HS2 HB2 hck2
  generalize fillV l s1 10 = v2 at *
  generalize fillS l s1 10 = s2 at *
  go_wp2_with fail
  refine (numS _ g l s2 4 HS3.out.cu).mono ?_
  rintro e w4 ⟨rfl, hC4, hG4⟩
  have hs4 := HS3.out.step hC4 hG4
  have hu4 := u32_nV4 HO.out s2
  have hcell4 := hs4.rt.cTg hs4.ok
  have hfr4 := hs4.rt.fr 19 (by omega)
  generalize nV l s2 4 = tg at *
  generalize nS l s2 4 = s3 at *
  obtain ⟨hu4a, hu4b⟩ := hu4
  have HS4 := Lib.hid (hs4.setTg tg ⟨hu4a, hu4b⟩)
  have HB4 := Lib.hid ((HB3.out.trans (HS3.out.low hG4)).trans (low_cells w4 b 19 [.int .u32 tg]))
  change Hid (Below b w (w4.setCell ⟨b, 19, none⟩ (.int .u32 tg))) at HB4
  have hck4 := HS4.out.rt.cK
  simp only [HK.out] at hck4
  clear hC4 hG4 hs4 HS3 HB3 hck3
  go_wp2_with fail
  generalize w4.setCell ⟨b, 19, none⟩ (.int .u32 tg) = W4 at *
  clear hcell4 hfr4
  refine (rmac_is _ b g _ l _ HS4.out).mono ?_
  rintro e w5 ⟨rfl, hS5, hB5⟩
  have HS5 := Lib.hid hS5
  have HB5 := Lib.hid (HB4.out.trans hB5)
  clear hS5 hB5 HS4 HB4 hck4
  go_wp2
  go_ret
  exact ⟨by rw [HF.out.2.2]; rfl, by rw [HF.out.1, HF.out.2.1]; exact HS5.out, HB5.out⟩
set_option maxHeartbeats 2000000 in
theorem fields_3 (w : World) (b g : Nat) (r : Rt) (l : List Int) (h : RS A0 c0 w b g r l (0, 0)) (hk : r.k = 3) :
    Calls Tryz.prog 231 #[.pointer (some ⟨g, 0, none⟩), .pointer (some ⟨b, 0, none⟩)] w fun e w' => e = .returned (.bool (fdB r.k l)) ∧ RS A0 c0 w' b g (fdR r l) l (fdS r.k l) ∧ Below b w w' := by
  have HO := Lib.hid h.cu.oct
  have HS0 := Lib.hid h
  have HK := Lib.hid hk
  have hs8 : ∀ W, (Instr.sliceAt 45 (.pointer (some ⟨b, 1, none⟩)) none none none).run Tryz.prog W = .ok (.slice (some ⟨b, 1, none⟩) 8 8) W := fun W => by go_simp
  have hs10 : ∀ W, (Instr.sliceAt 47 (.pointer (some ⟨b, 9, none⟩)) none none none).run Tryz.prog W = .ok (.slice (some ⟨b, 9, none⟩) 10 10) W := fun W => by go_simp
  have HF : Hid (fdR r l = { r with rd := fillV l (0, 0) 8, tg := nV l (fs1 l) 4, v6 := (wholeV l (nS l (fs1 l) 4)).1, pl := (wholeV l (nS l (fs1 l) 4)).2.1, pn := (wholeV l (nS l (fs1 l) 4)).2.2 } ∧ fdS r.k l = wholeS l (nS l (fs1 l) 4) ∧ fdB r.k l = true) := Lib.hid (by
    unfold fdR fdS fdB hdR fs3 fs2
    simp [hk])
  clear h hk
  go_enter Tryz.func231, Tryz.ntmps231
  go_wp2_with fail
  refine (leftC_is _ g l _ _ HS0.out.cu.toIsCurT).mono ?_
  rintro e w1 ⟨rfl, k1, rfl⟩
  have HS1 := Lib.hid (HS0.out.drewN k1)
  have HB1 := Lib.hid (below_drewN (Below.refl b w) k1)
  clear HS0
  generalize w.drewN k1 = W1 at *
  go_wp2_with fail
  refine (fill_is _ b g 1 8 8 (fun xs => { r with rd := xs }) [.int .i64 r.k] (postRd r) (fun xs => rtc_rd _) rfl (fun xs hl ho => { HS1.out.ok with rd := hl, ord := ho }) r.rd HS1.out.ok.rd HS1.out.ok.ord (by omega) l (0, 0) HS1.out).mono ?_
  rintro e w2 ⟨rfl, hS2, hB2⟩
  have HS2 := Lib.hid hS2
  have HB2 := Lib.hid (HB1.out.trans hB2)
  have hck2 := hS2.rt.cK
  simp only [HK.out] at hck2
  clear hS2 hB2 HS1 HB1
  change Hid (RS A0 c0 w2 b g _ l (fs1 l)) at HS2
  generalize fillV l (0, 0) 8 = v1 at *
  generalize fs1 l = s1 at *
  go_wp2_with fail
  refine (numS _ g l s1 4 HS2.out.cu).mono ?_
  rintro e w4 ⟨rfl, hC4, hG4⟩
  have hs4 := HS2.out.step hC4 hG4
  have hu4 := u32_nV4 HO.out s1
  have hcell4 := hs4.rt.cTg hs4.ok
  have hfr4 := hs4.rt.fr 19 (by omega)
  generalize nV l s1 4 = tg at *
  generalize nS l s1 4 = s3 at *
  obtain ⟨hu4a, hu4b⟩ := hu4
  have HS4 := Lib.hid (hs4.setTg tg ⟨hu4a, hu4b⟩)
  have HB4 := Lib.hid ((HB2.out.trans (HS2.out.low hG4)).trans (low_cells w4 b 19 [.int .u32 tg]))
  change Hid (Below b w (w4.setCell ⟨b, 19, none⟩ (.int .u32 tg))) at HB4
  have hck4 := HS4.out.rt.cK
  simp only [HK.out] at hck4
  clear hC4 hG4 hs4 HS2 HB2 hck2
  go_wp2_with fail
  generalize w4.setCell ⟨b, 19, none⟩ (.int .u32 tg) = W4 at *
  clear hcell4 hfr4
  refine (whole_at _ g l _ HS4.out.cu).mono ?_
  rintro e w5 ⟨rfl, hC5, hG5⟩
  have hs5 := HS4.out.step hC5 hG5
  have hth := hs5.rt.thereAt 26 18 (by omega)
  obtain ⟨hl5, ho5, hn5⟩ := wholeV_ok HO.out s3
  have HL5 := Lib.hid hl5
  generalize wholeV l s3 = pv at *
  obtain ⟨v6, xs, n⟩ := pv
  simp only at hl5 ho5 hn5 HL5
  generalize wholeS l s3 = s5 at *
  have HS5 := Lib.hid (hs5.setPf v6 xs n hl5 ho5 hn5)
  have HB5 := Lib.hid ((HB4.out.trans (HS4.out.low hG5)).trans (low_cells w5 b 26 (pfc v6 xs n)))
  clear hC5 hG5 hs5 HS4 HB4 hck4 hl5 ho5 hn5
  go_wp2_with (first
    | (refine pf_part_to rfl _ _ rfl b 26 v6 xs n HL5.out rfl rfl hth (fun W => RS A0 c0 W b g _ l s5 ∧ Below b w W) ⟨HS5.out, HB5.out⟩ ?_; intro W5 hW5; have HW5 := Lib.hid hW5; clear hW5)
    | fail)
  go_ret
  exact ⟨by rw [HF.out.2.2]; rfl, by rw [HF.out.1, HF.out.2.1]; exact HW5.out.1, HW5.out.2⟩
set_option maxHeartbeats 2000000 in
theorem fields_4 (w : World) (b g : Nat) (r : Rt) (l : List Int) (h : RS A0 c0 w b g r l (0, 0)) (hk : r.k = 4) :
    Calls Tryz.prog 231 #[.pointer (some ⟨g, 0, none⟩), .pointer (some ⟨b, 0, none⟩)] w fun e w' => e = .returned (.bool (fdB r.k l)) ∧ RS A0 c0 w' b g (fdR r l) l (fdS r.k l) ∧ Below b w w' := by
  have HO := Lib.hid h.cu.oct
  have HS0 := Lib.hid h
  have HK := Lib.hid hk
  have hs8 : ∀ W, (Instr.sliceAt 45 (.pointer (some ⟨b, 1, none⟩)) none none none).run Tryz.prog W = .ok (.slice (some ⟨b, 1, none⟩) 8 8) W := fun W => by go_simp
  have hs10 : ∀ W, (Instr.sliceAt 47 (.pointer (some ⟨b, 9, none⟩)) none none none).run Tryz.prog W = .ok (.slice (some ⟨b, 9, none⟩) 10 10) W := fun W => by go_simp
  have HF : Hid (fdR r l = { r with rd := fillV l (0, 0) 8, es := fillV l (fs1 l) 10, v6 := (wholeV l (fillS l (fs1 l) 10)).1, pl := (wholeV l (fillS l (fs1 l) 10)).2.1, pn := (wholeV l (fillS l (fs1 l) 10)).2.2 } ∧ fdS r.k l = wholeS l (fillS l (fs1 l) 10) ∧ fdB r.k l = true) := Lib.hid (by
    unfold fdR fdS fdB hdR fs3 fs2
    simp [hk])
  clear h hk
  go_enter Tryz.func231, Tryz.ntmps231
  go_wp2_with fail
  refine (leftC_is _ g l _ _ HS0.out.cu.toIsCurT).mono ?_
  rintro e w1 ⟨rfl, k1, rfl⟩
  have HS1 := Lib.hid (HS0.out.drewN k1)
  have HB1 := Lib.hid (below_drewN (Below.refl b w) k1)
  clear HS0
  generalize w.drewN k1 = W1 at *
  go_wp2_with fail
  refine (fill_is _ b g 1 8 8 (fun xs => { r with rd := xs }) [.int .i64 r.k] (postRd r) (fun xs => rtc_rd _) rfl (fun xs hl ho => { HS1.out.ok with rd := hl, ord := ho }) r.rd HS1.out.ok.rd HS1.out.ok.ord (by omega) l (0, 0) HS1.out).mono ?_
  rintro e w2 ⟨rfl, hS2, hB2⟩
  have HS2 := Lib.hid hS2
  have HB2 := Lib.hid (HB1.out.trans hB2)
  have hck2 := hS2.rt.cK
  simp only [HK.out] at hck2
  clear hS2 hB2 HS1 HB1
  change Hid (RS A0 c0 w2 b g _ l (fs1 l)) at HS2
  generalize fillV l (0, 0) 8 = v1 at *
  generalize fs1 l = s1 at *
  go_wp2_with fail
  refine (fill_is _ b g 9 10 10 (fun xs => { r with rd := v1, es := xs }) (preEs { r with rd := v1 }) (postEs r) (fun xs => rtc_es _) (preEs_len HS2.out.ok) (fun xs hl ho => { HS2.out.ok with es := hl, oes := ho }) r.es HS2.out.ok.es HS2.out.ok.oes (by omega) l s1 HS2.out).mono ?_
  rintro e w3 ⟨rfl, hS3, hB3⟩
  have HS3 := Lib.hid hS3
  have HB3 := Lib.hid (HB2.out.trans hB3)
  have hck3 := hS3.rt.cK
  simp only [HK.out] at hck3
  clear hS3 hB3 HS2 HB2 hck2
  generalize fillV l s1 10 = v2 at *
  generalize fillS l s1 10 = s2 at *
  go_wp2_with fail
  refine (whole_at _ g l _ HS3.out.cu).mono ?_
  rintro e w5 ⟨rfl, hC5, hG5⟩
  have hs5 := HS3.out.step hC5 hG5
  have hth := hs5.rt.thereAt 26 18 (by omega)
  obtain ⟨hl5, ho5, hn5⟩ := wholeV_ok HO.out s2
  have HL5 := Lib.hid hl5
  generalize wholeV l s2 = pv at *
  obtain ⟨v6, xs, n⟩ := pv
  simp only at hl5 ho5 hn5 HL5
  generalize wholeS l s2 = s5 at *
  have HS5 := Lib.hid (hs5.setPf v6 xs n hl5 ho5 hn5)
  have HB5 := Lib.hid ((HB3.out.trans (HS3.out.low hG5)).trans (low_cells w5 b 26 (pfc v6 xs n)))
  clear hC5 hG5 hs5 HS3 HB3 hck3 hl5 ho5 hn5
  go_wp2_with (first
    | (refine pf_part_to rfl _ _ rfl b 26 v6 xs n HL5.out rfl rfl hth (fun W => RS A0 c0 W b g _ l s5 ∧ Below b w W) ⟨HS5.out, HB5.out⟩ ?_; intro W5 hW5; have HW5 := Lib.hid hW5; clear hW5)
    | fail)
  go_ret
  exact ⟨by rw [HF.out.2.2]; rfl, by rw [HF.out.1, HF.out.2.1]; exact HW5.out.1, HW5.out.2⟩
set_option maxHeartbeats 2000000 in
theorem fields_5 (w : World) (b g : Nat) (r : Rt) (l : List Int) (h : RS A0 c0 w b g r l (0, 0)) (hk : r.k = 5) :
    Calls Tryz.prog 231 #[.pointer (some ⟨g, 0, none⟩), .pointer (some ⟨b, 0, none⟩)] w fun e w' => e = .returned (.bool (fdB r.k l)) ∧ RS A0 c0 w' b g (fdR r l) l (fdS r.k l) ∧ Below b w w' := by
  have HO := Lib.hid h.cu.oct
  have HS0 := Lib.hid h
  have HK := Lib.hid hk
  have hs8 : ∀ W, (Instr.sliceAt 45 (.pointer (some ⟨b, 1, none⟩)) none none none).run Tryz.prog W = .ok (.slice (some ⟨b, 1, none⟩) 8 8) W := fun W => by go_simp
  have hs10 : ∀ W, (Instr.sliceAt 47 (.pointer (some ⟨b, 9, none⟩)) none none none).run Tryz.prog W = .ok (.slice (some ⟨b, 9, none⟩) 10 10) W := fun W => by go_simp
  have HF : Hid (fdR r l = preR (decide (l.length = 58)) { r with rd := fillV l (0, 0) 8, es := fillV l (fs1 l) 10, tg := nV l (fillS l (fs1 l) 10) 4 } l (nS l (fillS l (fs1 l) 10) 4) ∧ fdS r.k l = preS (decide (l.length = 58)) l (nS l (fillS l (fs1 l) 10) 4) ∧ fdB r.k l = true) := Lib.hid (by
    unfold fdR fdS fdB hdR fs3 fs2
    simp [hk])
  generalize h58 : decide (l.length = 58) = six at *
  have e58 : ((l.length : Int) == 58) = six := by rw [← h58, Bool.eq_iff_iff, beq_iff_eq, decide_eq_true_iff]; omega
  clear h58
  clear h hk
  go_enter Tryz.func231, Tryz.ntmps231
  go_wp2_with fail
  refine (leftC_is _ g l _ _ HS0.out.cu.toIsCurT).mono ?_
  rintro e w1 ⟨rfl, k1, rfl⟩
  have HS1 := Lib.hid (HS0.out.drewN k1)
  have HB1 := Lib.hid (below_drewN (Below.refl b w) k1)
  clear HS0
  generalize w.drewN k1 = W1 at *
  go_wp2_with fail
  refine (fill_is _ b g 1 8 8 (fun xs => { r with rd := xs }) [.int .i64 r.k] (postRd r) (fun xs => rtc_rd _) rfl (fun xs hl ho => { HS1.out.ok with rd := hl, ord := ho }) r.rd HS1.out.ok.rd HS1.out.ok.ord (by omega) l (0, 0) HS1.out).mono ?_
  rintro e w2 ⟨rfl, hS2, hB2⟩
  have HS2 := Lib.hid hS2
  have HB2 := Lib.hid (HB1.out.trans hB2)
  have hck2 := hS2.rt.cK
  simp only [HK.out] at hck2
  clear hS2 hB2 HS1 HB1
  change Hid (RS A0 c0 w2 b g _ l (fs1 l)) at HS2
  generalize fillV l (0, 0) 8 = v1 at *
  generalize fs1 l = s1 at *
  go_wp2_with fail
  refine (fill_is _ b g 9 10 10 (fun xs => { r with rd := v1, es := xs }) (preEs { r with rd := v1 }) (postEs r) (fun xs => rtc_es _) (preEs_len HS2.out.ok) (fun xs hl ho => { HS2.out.ok with es := hl, oes := ho }) r.es HS2.out.ok.es HS2.out.ok.oes (by omega) l s1 HS2.out).mono ?_
  rintro e w3 ⟨rfl, hS3, hB3⟩
  have HS3 := Lib.hid hS3
  have HB3 := Lib.hid (HB2.out.trans hB3)
  have hck3 := hS3.rt.cK
  simp only [HK.out] at hck3
  clear hS3 hB3 HS2 HB2 hck2
  generalize fillV l s1 10 = v2 at *
  generalize fillS l s1 10 = s2 at *
  go_wp2_with fail
  refine (numS _ g l s2 4 HS3.out.cu).mono ?_
  rintro e w4 ⟨rfl, hC4, hG4⟩
  have hs4 := HS3.out.step hC4 hG4
  have hu4 := u32_nV4 HO.out s2
  have hcell4 := hs4.rt.cTg hs4.ok
  have hfr4 := hs4.rt.fr 19 (by omega)
  generalize nV l s2 4 = tg at *
  generalize nS l s2 4 = s3 at *
  obtain ⟨hu4a, hu4b⟩ := hu4
  have HS4 := Lib.hid (hs4.setTg tg ⟨hu4a, hu4b⟩)
  have HB4 := Lib.hid ((HB3.out.trans (HS3.out.low hG4)).trans (low_cells w4 b 19 [.int .u32 tg]))
  change Hid (Below b w (w4.setCell ⟨b, 19, none⟩ (.int .u32 tg))) at HB4
  have hck4 := HS4.out.rt.cK
  simp only [HK.out] at hck4
  clear hC4 hG4 hs4 HS3 HB3 hck3
  go_wp2_with fail
  generalize w4.setCell ⟨b, 19, none⟩ (.int .u32 tg) = W4 at *
  clear hcell4 hfr4
  refine (rpre_is _ b g _ l _ _ HS4.out).mono ?_
  rintro e w5 ⟨rfl, hS5, hB5⟩
  have HS5 := Lib.hid hS5
  have HB5 := Lib.hid (HB4.out.trans hB5)
  clear hS5 hB5 HS4 HB4 hck4
  go_wp2
  go_ret
  exact ⟨by rw [HF.out.2.2]; rfl, by rw [HF.out.1, HF.out.2.1]; exact HS5.out, HB5.out⟩
theorem fields_is (w : World) (b g : Nat) (r : Rt) (l : List Int) (h : RS A0 c0 w b g r l (0, 0)) (hk : 1 ≤ r.k ∧ r.k ≤ 5) :
    Calls Tryz.prog 231 #[.pointer (some ⟨g, 0, none⟩), .pointer (some ⟨b, 0, none⟩)] w fun e w' => e = .returned (.bool (fdB r.k l)) ∧ RS A0 c0 w' b g (fdR r l) l (fdS r.k l) ∧ Below b w w' := by
  have : r.k = 1 ∨ r.k = 2 ∨ r.k = 3 ∨ r.k = 4 ∨ r.k = 5 := by omega
  rcases this with e | e | e | e | e
  · exact fields_1 w b g r l h e
  · exact fields_2 w b g r l h e
  · exact fields_3 w b g r l h e
  · exact fields_4 w b g r l h e
  · exact fields_5 w b g r l h e
end
end Go.Proofs.YtdgoeibfggjbmaaGreatDoor
namespace Go.Proofs.YtdgoeibfggjbmaaGreatDoor
open Go.RowKit
set_option maxRecDepth 100000
set_option linter.unusedSimpArgs false
set_option linter.unusedVariables false

def z8 : List Int := List.replicate 8 0
def oneR (k : Int) (l : List Int) : Option Rt :=
  if fdB k l = true ∧ (fdS k l).2 = 0 ∧ ¬ (fdS k l).1 < l.length ∧ rightR (fdR (rtZ k z8) l) = true then some (fdR (rtZ k z8) l) else none
def oneT (o : Option Rt) : Value := match o with
  | some r => .tuple #[.agg (rtc r).toArray, .bool true]
  | none => .tuple #[.agg (rtc (rtZ 0 z8)).toArray, .bool false]
theorem z8_ok (k : Int) (hk : I64 k) : RtOk (rtZ k z8) := rtZ_ok k z8 hk rfl (oct_zeros 8)
theorem built_kz (k : Int) : Tryz.prog.built 53 [(0, .int .i64 k)] = some (rtc (rtZ k z8)).toArray := built_k k
theorem built_0z : Tryz.prog.built 53 [] = some (rtc (rtZ 0 z8)).toArray := built_0

theorem fieldsK {A0 : Option Addr} {c0 : Nat} (w : World) (b g : Nat) (k : Int) (l : List Int) (h : RS A0 c0 w b g (rtZ k z8) l (0, 0)) (hk : 1 ≤ k ∧ k ≤ 5) :
    Calls Tryz.prog 231 #[.pointer (some ⟨g, 0, none⟩), .pointer (some ⟨b, 0, none⟩)] w fun e w' => e = .returned (.bool (fdB k l)) ∧ RS A0 c0 w' b g (fdR (rtZ k z8) l) l (fdS k l) ∧ Below b w w' := fields_is w b g (rtZ k z8) l h hk
structure RoW (w W : World) (k : Int) : Prop where
  res : ∃ Z, Blk W w.heap.size 53 Z ∧ Z.size = 63
  rt : RtAt W (w.heap.size + 1) (rtZ k z8)
  low : Below w.heap.size w W
structure EndW (w W : World) (r : Rt) : Prop where
  res : Blk W w.heap.size 53 (rtc r).toArray
  low : Below w.heap.size w W
set_option maxHeartbeats 400000 in
set_option maxRecDepth 100000 in
theorem rroute_is (w : World) (k : Int) (A : Option Addr) (n c : Nat) (l : List Int) (hk : 1 ≤ k ∧ k ≤ 5) (hr : Rd w w.heap.size A n l) (hm : n ≤ 281474976710656) :
    Calls Tryz.prog 214 #[.int .i64 k, .slice A n c] w fun e w' => e = .returned (oneT (oneR k l)) ∧ Below w.heap.size w w' := by
  have hz := z8_ok k ⟨by omega, by omega⟩
  have HZ := Lib.hid hz
  have HZ0 := Lib.hid (z8_ok 0 i64_0)
  have HR := Lib.hid hr
  have HK := Lib.hid hk
  have HB3 : Hid (∀ Z Z', Blk ((w.alloc (.cells Z 53)).alloc (.cells Z' 53)) (w.heap.size + 1) 53 Z') := Lib.hid (fun Z Z' => by
    have := Blk.new (w.alloc (.cells Z 53)) 53 Z'
    simpa using this)
  have HI : Hid (∀ Z Z', Z.size = 63 → RoW w (((w.alloc (.cells Z 53)).alloc (.cells Z' 53)).setRow (w.heap.size + 1) (rtc (rtZ k z8)).toArray) k) := Lib.hid (fun Z Z' hs => by
    refine ⟨⟨Z, (setRow_other _ _ _ _ (by omega)).trans ((Blk.new w 53 Z).alloc _), hs⟩, RtAt.row (HB3.out Z Z') hz, ?_⟩
    exact (((Below.refl w.heap.size w).alloc (Nat.le_refl _) _).alloc (by simp) _).trans (below_setRow _ _ _ (by omega)))
  clear hz hr hk
  go_enter Tryz.func214, Tryz.ntmps214
  go_wp2_with (first
    | (refine rt_build rfl _ rfl [(0, .int .i64 k)] (by simp only [List.map_toArray, List.map_cons, List.map_nil]; rfl) (rtZ k z8) (built_kz k) ?_)
    | (refine rt_store_to rfl _ _ rfl (w.heap.size + 1) (rtZ k z8) HZ.out rfl rfl 53 _ (HB3.out _ _) rfl (fun W => RoW w W k) (HI.out _ _ rfl) ?_; intro W hW; have HW := Lib.hid hW; clear hW)
    | fail)
  have hs1 := HW.out.rt.lt
  refine (new_isX _ A n c l ((HR.out.below HW.out.low).more HW.out.low.size) hm).mono ?_
  rintro e w2 ⟨g, A0, c0, rfl, hg, hcx, hfar, hB2⟩
  have HS2 : Hid (RS A0 c0 w2 (w.heap.size + 1) g (rtZ k z8) l (0, 0)) := Lib.hid ⟨HW.out.rt.below hB2 hs1, HZ.out, hcx, by omega, fun hp a ha => by have := hfar hp a ha; omega⟩
  have HR0 : Hid (∃ Z, Blk w2 w.heap.size 53 Z ∧ Z.size = 63) := Lib.hid (by
    obtain ⟨Z, hZ, hs⟩ := HW.out.res
    exact ⟨Z, hZ.below hB2 (by omega), hs⟩)
  have HB2 := Lib.hid (HW.out.low.trans (hB2.mono (by omega)))
  clear hcx hfar hB2 HW HI HB3
  go_wp2_with fail
  refine (fieldsK _ (w.heap.size + 1) g k l HS2.out HK.out).mono ?_
  rintro e w3 ⟨rfl, hS3, hB3⟩
  have HS3 := Lib.hid hS3
  have HR3 : Hid (∃ Z, Blk w3 w.heap.size 53 Z ∧ Z.size = 63) := Lib.hid (by
    obtain ⟨Z, hZ, hs⟩ := HR0.out
    exact ⟨Z, hZ.below hB3 (by omega), hs⟩)
  have HB3 := Lib.hid (HB2.out.trans (hB3.mono (by omega)))
  clear hS3 hB3 HS2 HR0 HB2
  have HOne : Hid (oneR k l = if fdB k l = true ∧ (fdS k l).2 = 0 ∧ ¬ (fdS k l).1 < l.length ∧ rightR (fdR (rtZ k z8) l) = true then some (fdR (rtZ k z8) l) else none) := Lib.hid rfl
  generalize hoo : oneR k l = oo at *
  have HOO := Lib.hid hoo
  clear hoo
  generalize fdB k l = bb at *
  generalize fdS k l = s3 at *
  generalize fdR (rtZ k z8) l = r3 at *
  cases bb
  · have HOn : Hid (oo = none) := Lib.hid (by rw [HOne.out]; simp)
    obtain ⟨Z, hZ, hZs⟩ := HR3.out
    have HZZ := Lib.hid hZ
    have HZs := Lib.hid hZs
    clear hZ hZs
    have HE := Lib.hid (fun W (hB : Below w.heap.size w W) (hZ : Blk W w.heap.size 53 Z) => (⟨hZ.setRow _, hB.trans (below_setRow _ _ _ (Nat.le_refl _))⟩ : EndW w (W.setRow w.heap.size (rtc (rtZ 0 z8)).toArray) (rtZ 0 z8)))
    go_wp2_with (first
      | (refine rt_build rfl _ rfl [] (by rfl) (rtZ 0 z8) built_0z ?_)
      | (refine rt_store_to rfl _ _ rfl w.heap.size (rtZ 0 z8) HZ0.out rfl rfl 53 Z HZZ.out HZs.out (fun W => EndW w W (rtZ 0 z8)) (HE.out _ HB3.out HZZ.out) ?_; intro W9 hW9; have HW9 := Lib.hid hW9; clear hW9)
      | fail)
    refine bodyPost_ret (v := oneT oo) ?_ rfl ⟨by rw [HOO.out], HW9.out.low⟩
    rw [HOn.out]
    exact results_cell_slot rfl _ _ w.heap.size 53 _ _ _ rfl rfl HW9.out.res Tryz.underlying53 rfl (by rw [rt_size]; simp [rtc_len HZ0.out])
  by_cases he : s3.2 = 0
  · have e0 : (s3.2 != 0) = false := by rw [bne_eq_false_iff_eq]; exact he
    go_wp2_with fail
    refine (err_is _ g l _ _ HS3.out.cu.toIsCurT).mono ?_
    rintro e w4 ⟨rfl, rfl⟩
    go_wp2_with fail
    refine (leftC_is _ g l _ _ HS3.out.cu.toIsCurT).mono ?_
    rintro e w4 ⟨rfl, k4, rfl⟩
    have hle := HS3.out.cu.le
    by_cases hl : s3.1 < l.length
    · have HOn : Hid (oo = none) := Lib.hid (by rw [HOne.out]; simp [hl])
      obtain ⟨Z, hZ, hZs⟩ := HR3.out
      have HZZ := Lib.hid hZ
      have HZs := Lib.hid hZs
      clear hZ hZs
      have HE := Lib.hid (fun W (hB : Below w.heap.size w W) (hZ : Blk W w.heap.size 53 Z) => (⟨hZ.setRow _, hB.trans (below_setRow _ _ _ (Nat.le_refl _))⟩ : EndW w (W.setRow w.heap.size (rtc (rtZ 0 z8)).toArray) (rtZ 0 z8)))
      go_wp2_with (first
        | (refine rt_build rfl _ rfl [] (by rfl) (rtZ 0 z8) built_0z ?_)
        | (refine rt_store_to rfl _ _ rfl w.heap.size (rtZ 0 z8) HZ0.out rfl rfl 53 Z (HZZ.out.below (below_drewN (Below.refl w3.heap.size _) k4) HZZ.out.lt) HZs.out (fun W => EndW w W (rtZ 0 z8)) (HE.out _ (below_drewN HB3.out k4) (HZZ.out.below (below_drewN (Below.refl w3.heap.size _) k4) HZZ.out.lt)) ?_; intro W9 hW9; have HW9 := Lib.hid hW9; clear hW9)
        | fail)
      refine bodyPost_ret (v := oneT oo) ?_ rfl ⟨by rw [HOO.out], HW9.out.low⟩
      rw [HOn.out]
      exact results_cell_slot rfl _ _ w.heap.size 53 _ _ _ rfl rfl HW9.out.res Tryz.underlying53 rfl (by rw [rt_size]; simp [rtc_len HZ0.out])
    · have HS4 := Lib.hid (HS3.out.drewN k4)
      have HB4 := Lib.hid (below_drewN HB3.out k4)
      have HR4 : Hid (∃ Z, Blk (w3.drewN k4) w.heap.size 53 Z ∧ Z.size = 63) := HR3
      clear HS3 HB3 HR3
      generalize w3.drewN k4 = w4 at *
      go_wp2_with (first | (refine rt_fetch rfl _ rfl (w.heap.size + 1) r3 HS4.out.ok rfl HS4.out.rt ?_) | fail)
      refine (rightRt_is _ r3 HS4.out.ok).mono ?_
      rintro e w5 ⟨rfl, hB5⟩
      have HS5 := Lib.hid (HS4.out.above hB5)
      have HR3 : Hid (∃ Z, Blk w5 w.heap.size 53 Z ∧ Z.size = 63) := Lib.hid (by
        obtain ⟨Z, hZ, hs⟩ := HR4.out
        exact ⟨Z, hZ.below hB5 hZ.lt, hs⟩)
      have HB5 := Lib.hid (HB4.out.trans (hB5.mono HB4.out.size))
      clear hB5 HS4 HR4 HB4
      unfold errR
      cases hrr : rightR r3
      · have HOn : Hid (oo = none) := Lib.hid (by rw [HOne.out]; simp [hrr])
        simp only [Bool.false_eq_true, if_false]
        obtain ⟨Z, hZ, hZs⟩ := HR3.out
        have HZZ := Lib.hid hZ
        have HZs := Lib.hid hZs
        clear hZ hZs
        have HE := Lib.hid (fun W (hB : Below w.heap.size w W) (hZ : Blk W w.heap.size 53 Z) => (⟨hZ.setRow _, hB.trans (below_setRow _ _ _ (Nat.le_refl _))⟩ : EndW w (W.setRow w.heap.size (rtc (rtZ 0 z8)).toArray) (rtZ 0 z8)))
        go_wp2_with (first
          | (refine rt_build rfl _ rfl [] (by rfl) (rtZ 0 z8) built_0z ?_)
          | (refine rt_store_to rfl _ _ rfl w.heap.size (rtZ 0 z8) HZ0.out rfl rfl 53 Z HZZ.out HZs.out (fun W => EndW w W (rtZ 0 z8)) (HE.out _ HB5.out HZZ.out) ?_; intro W9 hW9; have HW9 := Lib.hid hW9; clear hW9)
          | fail)
        refine bodyPost_ret (v := oneT oo) ?_ rfl ⟨by rw [HOO.out], HW9.out.low⟩
        rw [HOn.out]
        exact results_cell_slot rfl _ _ w.heap.size 53 _ _ _ rfl rfl HW9.out.res Tryz.underlying53 rfl (by rw [rt_size]; simp [rtc_len HZ0.out])
      · have HOn : Hid (oo = some r3) := Lib.hid (by rw [HOne.out]; simp [hrr, he, hl])
        simp only [if_true]
        obtain ⟨Z, hZ, hZs⟩ := HR3.out
        have HZZ := Lib.hid hZ
        have HZs := Lib.hid hZs
        clear hZ hZs
        have HE := Lib.hid (fun W (hB : Below w.heap.size w W) (hZ : Blk W w.heap.size 53 Z) => (⟨hZ.setRow _, hB.trans (below_setRow _ _ _ (Nat.le_refl _))⟩ : EndW w (W.setRow w.heap.size (rtc r3).toArray) r3))
        go_wp2_with (first
          | (refine rt_fetch rfl _ rfl (w.heap.size + 1) r3 HS5.out.ok rfl HS5.out.rt ?_)
          | (refine rt_store_to rfl _ _ rfl w.heap.size r3 HS5.out.ok rfl rfl 53 Z HZZ.out HZs.out (fun W => EndW w W r3) (HE.out _ HB5.out HZZ.out) ?_; intro W9 hW9; have HW9 := Lib.hid hW9; clear hW9)
          | fail)
        refine bodyPost_ret (v := oneT oo) ?_ rfl ⟨by rw [HOO.out], HW9.out.low⟩
        rw [HOn.out]
        exact results_cell_slot rfl _ _ w.heap.size 53 _ _ _ rfl rfl HW9.out.res Tryz.underlying53 rfl (by rw [rt_size]; simp [rtc_len HS5.out.ok])
  · have e0 : (s3.2 != 0) = true := by rw [bne_iff_ne]; exact he
    have HOn : Hid (oo = none) := Lib.hid (by rw [HOne.out]; simp [he])
    go_wp2_with fail
    refine (err_is _ g l _ _ HS3.out.cu.toIsCurT).mono ?_
    rintro e w4 ⟨rfl, rfl⟩
    obtain ⟨Z, hZ, hZs⟩ := HR3.out
    have HZZ := Lib.hid hZ
    have HZs := Lib.hid hZs
    clear hZ hZs
    have HE := Lib.hid (fun W (hB : Below w.heap.size w W) (hZ : Blk W w.heap.size 53 Z) => (⟨hZ.setRow _, hB.trans (below_setRow _ _ _ (Nat.le_refl _))⟩ : EndW w (W.setRow w.heap.size (rtc (rtZ 0 z8)).toArray) (rtZ 0 z8)))
    go_wp2_with (first
      | (refine rt_build rfl _ rfl [] (by rfl) (rtZ 0 z8) built_0z ?_)
      | (refine rt_store_to rfl _ _ rfl w.heap.size (rtZ 0 z8) HZ0.out rfl rfl 53 Z HZZ.out HZs.out (fun W => EndW w W (rtZ 0 z8)) (HE.out _ HB3.out HZZ.out) ?_; intro W9 hW9; have HW9 := Lib.hid hW9; clear hW9)
      | fail)
    refine bodyPost_ret (v := oneT oo) ?_ rfl ⟨by rw [HOO.out], HW9.out.low⟩
    rw [HOn.out]
    exact results_cell_slot rfl _ _ w.heap.size 53 _ _ _ rfl rfl HW9.out.res Tryz.underlying53 rfl (by rw [rt_size]; simp [rtc_len HZ0.out])
end Go.Proofs.YtdgoeibfggjbmaaGreatDoor
