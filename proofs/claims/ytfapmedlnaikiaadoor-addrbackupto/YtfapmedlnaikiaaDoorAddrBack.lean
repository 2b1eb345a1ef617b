/-
  AddrBack: the walk.
-/
import Derived.Test.YtfapmedlnaikiaaDoorBackD
import Derived.Test.YtfapmedlnaikiaaDoorAddrRds
namespace Go.Proofs.YtfapmedlnaikiaaDoor
open Go.RowKit
set_option linter.unusedSimpArgs false
set_option linter.unusedVariables false

theorem rd_parts2 (s : ByteArray) : ∃ l err, rdE (rdRd s) = .tuple #[.agg (u8s l).toArray, .int .i64 err] ∧ l.length = 8 ∧ Oct l ∧ ((err = 0 ∧ rdRd s = some l) ∨ err = 4) := by
  cases h : rdRd s with
  | none => exact ⟨List.replicate 8 0, 4, rfl, rfl, oct8, .inr rfl⟩
  | some l => exact ⟨l, 0, rfl, (rdRd_bd h).1, (rdRd_bd h).2, .inl ⟨rfl, rfl⟩⟩
theorem ip_parts2 (s : ByteArray) : ∃ v l err, ipE (rdIp s) = .tuple #[.agg (ipc v l).toArray, .int .i64 err] ∧ l.length = 16 ∧ Oct l ∧ ((err = 0 ∧ rightB v l = true) ∨ err = 4) := by
  cases h : rdIp s with
  | none => exact ⟨false, List.replicate 16 0, 4, rfl, rfl, (fun x hx => by have := (List.mem_replicate.1 hx).2; omega), .inr rfl⟩
  | some x =>
    obtain ⟨v, l⟩ := x
    have hb := rdIp_bd h
    exact ⟨v, l, 0, rfl, hb.1, hb.2.1, .inl ⟨rfl, hb.2.2⟩⟩
/-- Where the arguments lie. -/
structure StK (w wx : World) (m x : List Int) (v : Bool) (l : List Int) (n : Int) : Prop where
  m : Blk wx w.heap.size 23 (u8s m).toArray
  x : Blk wx (w.heap.size + 1) 25 (u8s x).toArray
  p : Blk wx (w.heap.size + 2) 51 (pfc v l n).toArray
  low : Below w.heap.size w wx
theorem StK.on {w wx wy : World} {m x : List Int} {v : Bool} {l : List Int} {n : Int} (h : StK w wx m x v l n) (hb : Below wx.heap.size wx wy) : StK w wy m x v l n :=
  ⟨h.m.below hb h.m.lt, h.x.below hb h.x.lt, h.p.below hb h.p.lt, h.low.trans (hb.mono h.low.size)⟩
theorem laid (w : World) (t : TypeId) (old new : Array Value) : Below w.heap.size w ((w.alloc (.cells old t)).setRow w.heap.size new) := ((Below.refl _ w).alloc (Nat.le_refl _) _).trans (below_setRow _ _ _ (Nat.le_refl _))
theorem stk_new (w : World) (m x : List Int) (v : Bool) (l : List Int) (n : Int) : StK w (((w.alloc (.cells (u8s m).toArray 23)).alloc (.cells (u8s x).toArray 25)).alloc (.cells (pfc v l n).toArray 51)) m x v l n := by
  have hX := Blk.new (w.alloc (.cells (u8s m).toArray 23)) 25 (u8s x).toArray
  rw [show (w.alloc (.cells (u8s m).toArray 23)).heap.size = w.heap.size + 1 by simp] at hX
  have hP := Blk.new ((w.alloc (.cells (u8s m).toArray 23)).alloc (.cells (u8s x).toArray 25)) 51 (pfc v l n).toArray
  rw [show ((w.alloc (.cells (u8s m).toArray 23)).alloc (.cells (u8s x).toArray 25)).heap.size = w.heap.size + 2 by simp] at hP
  exact ⟨((Blk.new w 23 (u8s m).toArray).alloc _).alloc _, hX.alloc _, hP, (((Below.refl w.heap.size w).alloc (Nat.le_refl _) _).alloc (by simp) _).alloc (by simp; omega) _⟩
set_option maxHeartbeats 16000000 in
set_option maxRecDepth 100000 in
theorem addrBack_walk (w : World) (E : Env w) (m x : List Int) (pv : Bool) (pl : List Int) (pn : Int) (s : ByteArray) (hm : m.length = 6) (om : Oct m) (hx : x.length = 10) (ox : Oct x) (hpl : pl.length = 16) (opl : Oct pl) (ipn : I64 pn) (hs : s.size ≤ 1048576) :
    Calls Tryd.prog 7 #[.agg (u8s m).toArray, .agg (u8s x).toArray, .agg (pfc pv pl pn).toArray, .string s] w fun e w' => e = .returned (.bool true) ∧ Below w.heap.size w w' := by
  have M1 := Lib.hid (fun w => mact_is w m hm om)
  have M2 : Hid (∀ w, Calls Tryd.prog 10 #[.string (strOfNums (prK m 6))] w fun e w' => e = .returned (.tuple #[.agg (u8s m).toArray, .int .i64 0]) ∧ Below w.heap.size w w') := Lib.hid (fun w => (pmac_is w _).mono fun e w' h => by have := h.1; rw [pr_back m 6 (by omega) hm om] at this; exact ⟨this, h.2⟩)
  have X1 := Lib.hid (fun w => esit_is w x hx ox)
  have X2 : Hid (∀ w, Calls Tryd.prog 12 #[.string (strOfNums (prK x 10))] w fun e w' => e = .returned (.tuple #[.agg (u8s x).toArray, .int .i64 0]) ∧ Below w.heap.size w w') := Lib.hid (fun w => (pesi_is w _).mono fun e w' h => by have := h.1; rw [pr_back x 10 (by omega) hx ox] at this; exact ⟨this, h.2⟩)
  generalize strOfNums (prK m 6) = sm at *
  generalize strOfNums (prK x 10) = sx at *
  have PF : Hid (∃ t e, (∀ w, Env w → Calls Tryd.prog 35 #[.agg (pfc pv pl pn).toArray] w fun r w' => r = .returned (.tuple #[.string t, .int .i64 e]) ∧ Below w.heap.size w w') ∧ ((e = 0 ∧ ∀ w, Env w → Calls Tryd.prog 37 #[.string t] w fun r w' => r = .returned (.tuple #[.agg (pfc pv pl pn).toArray, .int .i64 0]) ∧ Below w.heap.size w w') ∨ e = 2)) := Lib.hid (by
    cases hr : rightPfB pv pl pn
    · exact ⟨⟨#[]⟩, 2, fun w E => (pftext_is w E pv pl pn hpl opl ipn).mono fun e w' h => ⟨by have := h.2; rw [hr] at this; exact this, h.1⟩, .inr rfl⟩
    · refine ⟨pfS pv pl pn, 0, fun w E => (pftext_is w E pv pl pn hpl opl ipn).mono fun e w' h => ⟨by have := h.2; rw [hr] at this; exact this, h.1⟩, .inl ⟨rfl, fun w E => (ppf_is w E _ ?_).mono fun e w' h => ?_⟩⟩
      · have h1 := ip_len pv pl hpl opl
        have h2 := rightPf_bd hr
        have h3 := decS_size pn h2.2.1 (by omega)
        unfold pfS
        rw [ByteArray.size_append, ByteArray.size_append]
        have h4 : (⟨#[47]⟩ : ByteArray).size = 1 := rfl
        omega
      · have := h.1
        rw [pf_back pv pl pn hpl opl hr] at this
        exact ⟨this, h.2⟩)
  have IP : Hid (∃ v l e, (∀ w, Env w → Calls Tryd.prog 21 #[.string s] w fun r w' => r = .returned (.tuple #[.agg (ipc v l).toArray, .int .i64 e]) ∧ Below w.heap.size w w') ∧ l.length = 16 ∧ Oct l ∧ ((e = 0 ∧ ∃ t : ByteArray, t.size ≤ 39 ∧ (∀ w, Env w → Calls Tryd.prog 19 #[.agg (ipc v l).toArray] w fun r w' => r = .returned (.tuple #[.string t, .int .i64 0]) ∧ Below w.heap.size w w') ∧ (∀ w, Env w → Calls Tryd.prog 21 #[.string t] w fun r w' => r = .returned (.tuple #[.agg (ipc v l).toArray, .int .i64 0]) ∧ Below w.heap.size w w')) ∨ e = 4)) := Lib.hid (by
    obtain ⟨v, l, e, he, hl, ho, hor⟩ := ip_parts2 s
    refine ⟨v, l, e, fun w E => (pip_is w E s (by omega)).mono fun r w' h => ?_, hl, ho, ?_⟩
    · have := h.1; rw [he] at this; exact ⟨this, h.2⟩
    · rcases hor with ⟨he0, hr⟩ | he4
      · have h39 := ip_len v l hl ho
        refine .inl ⟨he0, ipS v l, h39, fun w E => (iptext_is w E v l hl ho).mono fun e w' h => ⟨by have := h.2; rw [hr] at this; exact this, h.1⟩, fun w E => (pip_is w E _ (by omega)).mono fun e w' h => ?_⟩
        have := h.1
        rw [ip_back v l hl ho hr] at this
        exact ⟨this, h.2⟩
      · exact .inr he4)
  have RD : Hid (∃ l e, (∀ w, Env w → Calls Tryd.prog 45 #[.string s] w fun r w' => r = .returned (.tuple #[.agg (u8s l).toArray, .int .i64 e]) ∧ Below w.heap.size w w') ∧ l.length = 8 ∧ ((e = 0 ∧ (∀ w, Env w → Calls Tryd.prog 43 #[.agg (u8s l).toArray] w fun r w' => r = .returned (.tuple #[.string s, .int .i64 0]) ∧ Below w.heap.size w w')) ∨ e = 4)) := Lib.hid (by
    obtain ⟨l, e, he, hl, ho, hor⟩ := rd_parts2 s
    refine ⟨l, e, fun w E => (prd_is w E s (by omega)).mono fun r w' h => ?_, hl, ?_⟩
    · have := h.1; rw [he] at this; exact ⟨this, h.2⟩
    · rcases hor with ⟨he0, hr⟩ | he4
      · refine .inl ⟨he0, fun w E => (rdtext_is w E l hl ho).mono fun e w' h => ?_⟩
        have := h.1
        rw [rd_back hr] at this
        exact ⟨this, h.2⟩
      · exact .inr he4)
  have q1 : ∀ W, (binOp .neq 23 (.agg (u8s m).toArray) (.agg (u8s m).toArray)).run Tryd.prog W = .ok (.bool false) W := fun W => run_neq_u8s (P := Tryd.prog) (t := 23) (e := 5) (n := 6) (by kernel_rfl) Tryd.underlying23 Tryd.underlying5 (by kernel_rfl) (by kernel_rfl) m m hm hm om om false (by simp) W
  have q2 : ∀ W, (binOp .neq 25 (.agg (u8s x).toArray) (.agg (u8s x).toArray)).run Tryd.prog W = .ok (.bool false) W := fun W => run_neq_u8s (P := Tryd.prog) (t := 25) (e := 5) (n := 10) (by kernel_rfl) Tryd.underlying25 Tryd.underlying5 (by kernel_rfl) (by kernel_rfl) x x hx hx ox ox false (by simp) W
  have q3 : ∀ W, (binOp .neq 51 (.agg (pfc pv pl pn).toArray) (.agg (pfc pv pl pn).toArray)).run Tryd.prog W = .ok (.bool false) W := fun W => pf_neq pv pv pl pl pn pn hpl hpl opl opl ipn ipn false (by simp) W
  obtain ⟨pt, pe, PT, hpor⟩ := PF.out
  obtain ⟨iv, il, ie, IP1, hil, oil, hior⟩ := IP.out
  obtain ⟨rl, re, RD1, hrl, hror⟩ := RD.out
  have q4 : ∀ W, (binOp .neq 37 (.agg (ipc iv il).toArray) (.agg (ipc iv il).toArray)).run Tryd.prog W = .ok (.bool false) W := fun W => ip_neq iv iv il il hil hil oil oil false (by simp) W
  have HPT := Lib.hid PT
  have HI1 := Lib.hid IP1
  have HR1 := Lib.hid RD1
  have HPor := Lib.hid hpor
  have HIor := Lib.hid hior
  have HRor := Lib.hid hror
  clear PF IP RD PT IP1 RD1 hpor hior hror
  have HS := Lib.hid (stk_new w m x pv pl pn)
  go_enter Tryd.func7, Tryd.ntmps7
  go_wp2_with (refine mac_fetch rfl _ rfl w.heap.size m hm rfl HS.out.m.range ?_)
  refine (M1.out _).mono ?_
  rintro e v1 ⟨rfl, hB⟩
  have HS1 := Lib.hid (HS.out.on hB)
  clear hB HS M1
  go_wp2_with fail
  refine (M2.out _).mono ?_
  rintro e v2 ⟨rfl, hB⟩
  have hS2 := HS1.out.on hB
  have HS2 := Lib.hid (hS2.on (laid v2 23 zmac (u8s m).toArray))
  have HA2 := Lib.hid (Blk.setRow (Blk.new v2 23 zmac) (u8s m).toArray)
  clear hB HS1 M2 hS2
  go_wp2_with (first
    | (refine mac_store rfl _ _ rfl v2.heap.size m hm rfl rfl 23 zmac (Blk.new v2 23 zmac) rfl ?_)
    | (refine esi_fetch rfl _ rfl (w.heap.size + 1) x hx rfl HS2.out.x.range ?_))
  refine (X1.out _).mono ?_
  rintro e v3 ⟨rfl, hB⟩
  have HS3 := Lib.hid (HS2.out.on hB)
  have HA3 := Lib.hid (HA2.out.below hB HA2.out.lt)
  clear hB HS2 HA2 X1
  go_wp2_with fail
  refine (X2.out _).mono ?_
  rintro e v4 ⟨rfl, hB⟩
  have hS4 := HS3.out.on hB
  have hA4 := HA3.out.below hB HA3.out.lt
  have HS4 := Lib.hid (hS4.on (laid v4 25 zesi (u8s x).toArray))
  have HA4 := Lib.hid (hA4.below (laid v4 25 zesi (u8s x).toArray) hA4.lt)
  have HB4 := Lib.hid (Blk.setRow (Blk.new v4 25 zesi) (u8s x).toArray)
  clear hB HS3 HA3 X2 hS4 hA4
  go_wp2_with (first
    | (refine esi_store rfl _ _ rfl v4.heap.size x hx rfl rfl 25 zesi (Blk.new v4 25 zesi) rfl ?_)
    | (refine mac_fetch rfl _ rfl v2.heap.size m hm rfl HA4.out.range ?_)
    | (refine mac_fetch rfl _ rfl w.heap.size m hm rfl HS4.out.m.range ?_)
    | (refine esi_fetch rfl _ rfl v4.heap.size x hx rfl HB4.out.range ?_)
    | (refine esi_fetch rfl _ rfl (w.heap.size + 1) x hx rfl HS4.out.x.range ?_)
    | (refine pf_fetch rfl _ rfl (w.heap.size + 2) pv pl pn hpl rfl HS4.out.p.range ?_))
  refine (HPT.out _ (E.below HS4.out.low)).mono ?_
  rintro e v5 ⟨rfl, hB⟩
  have HS5 := Lib.hid (HS4.out.on hB)
  clear hB HS4 HA4 HB4 HPT q1 q2

  rcases HPor.out with ⟨rfl, PB⟩ | rfl
  · have HPB := Lib.hid PB
    clear PB HPor
    go_wp2_with fail
    refine (HPB.out _ (E.below HS5.out.low)).mono ?_
    rintro e v51 ⟨rfl, hB⟩
    have hS51 := HS5.out.on hB
    have HS51 := Lib.hid (hS51.on (laid v51 51 noPf.toArray (pfc pv pl pn).toArray))
    have HQ51 := Lib.hid (Blk.setRow (Blk.new v51 51 noPf.toArray) (pfc pv pl pn).toArray)
    have HL51 := Lib.hid HS51.out.low
    clear hB HS5 hS51
    go_wp2_with (first
      | (refine pf_store rfl _ _ rfl v51.heap.size pv pl pn hpl rfl rfl 51 noPf.toArray (Blk.new v51 51 noPf.toArray) rfl ?_)
      | (refine pf_fetch rfl _ rfl v51.heap.size pv pl pn hpl rfl HQ51.out.range ?_)
      | (refine pf_fetch rfl _ rfl (w.heap.size + 2) pv pl pn hpl rfl HS51.out.p.range ?_))
    refine (HI1.out _ (E.below HL51.out)).mono ?_
    rintro e v6 ⟨rfl, hB⟩
    have HL6 := Lib.hid ((HL51.out.trans (hB.mono HL51.out.size)).trans ((laid v6 37 zip16 (ipc iv il).toArray).mono (HL51.out.trans (hB.mono HL51.out.size)).size))
    have HC6 := Lib.hid (Blk.setRow (Blk.new v6 37 zip16) (ipc iv il).toArray)
    clear hB
    rcases HIor.out with ⟨rfl, t, h39, IT, IB⟩ | rfl
    · have HIT := Lib.hid IT
      have HIB := Lib.hid IB
      have h39' : ¬ ((t.size : Int) > 39) := by omega
      clear IT IB HIor
      go_wp2_with (first
        | (refine ip_store rfl _ _ rfl v6.heap.size iv il hil rfl rfl 37 zip16 (Blk.new v6 37 zip16) rfl ?_)
        | (refine ip_fetch rfl _ rfl v6.heap.size 0 iv il hil rfl HC6.out.range ?_))
      refine (HIT.out _ (E.below HL6.out)).mono ?_
      rintro e v61 ⟨rfl, hB⟩
      have HL61 := Lib.hid (HL6.out.trans (hB.mono HL6.out.size))
      have HC61 := Lib.hid (HC6.out.below hB HC6.out.lt)
      clear hB HL6 HC6
      go_wp2_with fail
      refine (HIB.out _ (E.below HL61.out)).mono ?_
      rintro e v62 ⟨rfl, hB⟩
      have hL62 := HL61.out.trans (hB.mono HL61.out.size)
      have hC62 := HC61.out.below hB HC61.out.lt
      have HL62 := Lib.hid (hL62.trans ((laid v62 37 zip16 (ipc iv il).toArray).mono hL62.size))
      have HC62 := Lib.hid (hC62.below (laid v62 37 zip16 (ipc iv il).toArray) hC62.lt)
      have HD62 := Lib.hid (Blk.setRow (Blk.new v62 37 zip16) (ipc iv il).toArray)
      clear hB HL61 HC61 hL62 hC62
      go_wp2_with (first
              | (refine ip_store rfl _ _ rfl v62.heap.size iv il hil rfl rfl 37 zip16 (Blk.new v62 37 zip16) rfl ?_)
              | (refine ip_fetch rfl _ rfl v62.heap.size 0 iv il hil rfl HD62.out.range ?_)
              | (refine ip_fetch rfl _ rfl v6.heap.size 0 iv il hil rfl HC62.out.range ?_))
      refine (HR1.out _ (E.below HL62.out)).mono ?_
      rintro e v7 ⟨rfl, hB⟩
      have HL7 := Lib.hid ((HL62.out.trans (hB.mono HL62.out.size)).trans ((laid v7 60 zr8 (u8s rl).toArray).mono (HL62.out.trans (hB.mono HL62.out.size)).size))
      have HC7 := Lib.hid (Blk.setRow (Blk.new v7 60 zr8) (u8s rl).toArray)
      clear hB
      rcases HRor.out with ⟨rfl, RT⟩ | rfl
      · have HRT := Lib.hid RT
        clear RT HRor
        go_wp2_with (first
          | (refine rd_store rfl _ _ rfl v7.heap.size rl hrl rfl rfl 60 zr8 (Blk.new v7 60 zr8) rfl ?_)
          | (refine rd_fetch rfl _ rfl v7.heap.size rl hrl rfl HC7.out.range ?_))
        refine (HRT.out _ (E.below HL7.out)).mono ?_
        rintro e v8 ⟨rfl, hB⟩
        have HL8 := Lib.hid (HL7.out.trans (hB.mono HL7.out.size))
        clear hB HL7 HC7
        go_wp2_with fail
        refine (alive_is _ (E.below HL8.out)).mono ?_
        rintro e v9 ⟨rfl, hB⟩
        have HL9 := Lib.hid (HL8.out.trans (hB.mono HL8.out.size))
        clear hB HL8
        go_wp2
        go_ret
        exact ⟨rfl, HL9.out⟩
      · clear HRor HC7
        go_wp2_with (refine rd_store rfl _ _ rfl v7.heap.size rl hrl rfl rfl 60 zr8 (Blk.new v7 60 zr8) rfl ?_)
        refine (alive_is _ (E.below HL7.out)).mono ?_
        rintro e v9 ⟨rfl, hB⟩
        have HL9 := Lib.hid (HL7.out.trans (hB.mono HL7.out.size))
        clear hB HL7
        go_wp2
        go_ret
        exact ⟨rfl, HL9.out⟩
    · clear HIor HC6
      go_wp2_with (refine ip_store rfl _ _ rfl v6.heap.size iv il hil rfl rfl 37 zip16 (Blk.new v6 37 zip16) rfl ?_)
      refine (HR1.out _ (E.below HL6.out)).mono ?_
      rintro e v7 ⟨rfl, hB⟩
      have HL7 := Lib.hid ((HL6.out.trans (hB.mono HL6.out.size)).trans ((laid v7 60 zr8 (u8s rl).toArray).mono (HL6.out.trans (hB.mono HL6.out.size)).size))
      have HC7 := Lib.hid (Blk.setRow (Blk.new v7 60 zr8) (u8s rl).toArray)
      clear hB
      rcases HRor.out with ⟨rfl, RT⟩ | rfl
      · have HRT := Lib.hid RT
        clear RT HRor
        go_wp2_with (first
          | (refine rd_store rfl _ _ rfl v7.heap.size rl hrl rfl rfl 60 zr8 (Blk.new v7 60 zr8) rfl ?_)
          | (refine rd_fetch rfl _ rfl v7.heap.size rl hrl rfl HC7.out.range ?_))
        refine (HRT.out _ (E.below HL7.out)).mono ?_
        rintro e v8 ⟨rfl, hB⟩
        have HL8 := Lib.hid (HL7.out.trans (hB.mono HL7.out.size))
        clear hB HL7 HC7
        go_wp2_with fail
        refine (alive_is _ (E.below HL8.out)).mono ?_
        rintro e v9 ⟨rfl, hB⟩
        have HL9 := Lib.hid (HL8.out.trans (hB.mono HL8.out.size))
        clear hB HL8
        go_wp2
        go_ret
        exact ⟨rfl, HL9.out⟩
      · clear HRor HC7
        go_wp2_with (refine rd_store rfl _ _ rfl v7.heap.size rl hrl rfl rfl 60 zr8 (Blk.new v7 60 zr8) rfl ?_)
        refine (alive_is _ (E.below HL7.out)).mono ?_
        rintro e v9 ⟨rfl, hB⟩
        have HL9 := Lib.hid (HL7.out.trans (hB.mono HL7.out.size))
        clear hB HL7
        go_wp2
        go_ret
        exact ⟨rfl, HL9.out⟩
  · have HL5 := Lib.hid HS5.out.low
    clear HPor HS5
    go_wp2_with fail
    refine (HI1.out _ (E.below HL5.out)).mono ?_
    rintro e v6 ⟨rfl, hB⟩
    have HL6 := Lib.hid ((HL5.out.trans (hB.mono HL5.out.size)).trans ((laid v6 37 zip16 (ipc iv il).toArray).mono (HL5.out.trans (hB.mono HL5.out.size)).size))
    have HC6 := Lib.hid (Blk.setRow (Blk.new v6 37 zip16) (ipc iv il).toArray)
    clear hB
    rcases HIor.out with ⟨rfl, t, h39, IT, IB⟩ | rfl
    · have HIT := Lib.hid IT
      have HIB := Lib.hid IB
      have h39' : ¬ ((t.size : Int) > 39) := by omega
      clear IT IB HIor
      go_wp2_with (first
        | (refine ip_store rfl _ _ rfl v6.heap.size iv il hil rfl rfl 37 zip16 (Blk.new v6 37 zip16) rfl ?_)
        | (refine ip_fetch rfl _ rfl v6.heap.size 0 iv il hil rfl HC6.out.range ?_))
      refine (HIT.out _ (E.below HL6.out)).mono ?_
      rintro e v61 ⟨rfl, hB⟩
      have HL61 := Lib.hid (HL6.out.trans (hB.mono HL6.out.size))
      have HC61 := Lib.hid (HC6.out.below hB HC6.out.lt)
      clear hB HL6 HC6
      go_wp2_with fail
      refine (HIB.out _ (E.below HL61.out)).mono ?_
      rintro e v62 ⟨rfl, hB⟩
      have hL62 := HL61.out.trans (hB.mono HL61.out.size)
      have hC62 := HC61.out.below hB HC61.out.lt
      have HL62 := Lib.hid (hL62.trans ((laid v62 37 zip16 (ipc iv il).toArray).mono hL62.size))
      have HC62 := Lib.hid (hC62.below (laid v62 37 zip16 (ipc iv il).toArray) hC62.lt)
      have HD62 := Lib.hid (Blk.setRow (Blk.new v62 37 zip16) (ipc iv il).toArray)
      clear hB HL61 HC61 hL62 hC62
      go_wp2_with (first
              | (refine ip_store rfl _ _ rfl v62.heap.size iv il hil rfl rfl 37 zip16 (Blk.new v62 37 zip16) rfl ?_)
              | (refine ip_fetch rfl _ rfl v62.heap.size 0 iv il hil rfl HD62.out.range ?_)
              | (refine ip_fetch rfl _ rfl v6.heap.size 0 iv il hil rfl HC62.out.range ?_))
      refine (HR1.out _ (E.below HL62.out)).mono ?_
      rintro e v7 ⟨rfl, hB⟩
      have HL7 := Lib.hid ((HL62.out.trans (hB.mono HL62.out.size)).trans ((laid v7 60 zr8 (u8s rl).toArray).mono (HL62.out.trans (hB.mono HL62.out.size)).size))
      have HC7 := Lib.hid (Blk.setRow (Blk.new v7 60 zr8) (u8s rl).toArray)
      clear hB
      rcases HRor.out with ⟨rfl, RT⟩ | rfl
      · have HRT := Lib.hid RT
        clear RT HRor
        go_wp2_with (first
          | (refine rd_store rfl _ _ rfl v7.heap.size rl hrl rfl rfl 60 zr8 (Blk.new v7 60 zr8) rfl ?_)
          | (refine rd_fetch rfl _ rfl v7.heap.size rl hrl rfl HC7.out.range ?_))
        refine (HRT.out _ (E.below HL7.out)).mono ?_
        rintro e v8 ⟨rfl, hB⟩
        have HL8 := Lib.hid (HL7.out.trans (hB.mono HL7.out.size))
        clear hB HL7 HC7
        go_wp2_with fail
        refine (alive_is _ (E.below HL8.out)).mono ?_
        rintro e v9 ⟨rfl, hB⟩
        have HL9 := Lib.hid (HL8.out.trans (hB.mono HL8.out.size))
        clear hB HL8
        go_wp2
        go_ret
        exact ⟨rfl, HL9.out⟩
      · clear HRor HC7
        go_wp2_with (refine rd_store rfl _ _ rfl v7.heap.size rl hrl rfl rfl 60 zr8 (Blk.new v7 60 zr8) rfl ?_)
        refine (alive_is _ (E.below HL7.out)).mono ?_
        rintro e v9 ⟨rfl, hB⟩
        have HL9 := Lib.hid (HL7.out.trans (hB.mono HL7.out.size))
        clear hB HL7
        go_wp2
        go_ret
        exact ⟨rfl, HL9.out⟩
    · clear HIor HC6
      go_wp2_with (refine ip_store rfl _ _ rfl v6.heap.size iv il hil rfl rfl 37 zip16 (Blk.new v6 37 zip16) rfl ?_)
      refine (HR1.out _ (E.below HL6.out)).mono ?_
      rintro e v7 ⟨rfl, hB⟩
      have HL7 := Lib.hid ((HL6.out.trans (hB.mono HL6.out.size)).trans ((laid v7 60 zr8 (u8s rl).toArray).mono (HL6.out.trans (hB.mono HL6.out.size)).size))
      have HC7 := Lib.hid (Blk.setRow (Blk.new v7 60 zr8) (u8s rl).toArray)
      clear hB
      rcases HRor.out with ⟨rfl, RT⟩ | rfl
      · have HRT := Lib.hid RT
        clear RT HRor
        go_wp2_with (first
          | (refine rd_store rfl _ _ rfl v7.heap.size rl hrl rfl rfl 60 zr8 (Blk.new v7 60 zr8) rfl ?_)
          | (refine rd_fetch rfl _ rfl v7.heap.size rl hrl rfl HC7.out.range ?_))
        refine (HRT.out _ (E.below HL7.out)).mono ?_
        rintro e v8 ⟨rfl, hB⟩
        have HL8 := Lib.hid (HL7.out.trans (hB.mono HL7.out.size))
        clear hB HL7 HC7
        go_wp2_with fail
        refine (alive_is _ (E.below HL8.out)).mono ?_
        rintro e v9 ⟨rfl, hB⟩
        have HL9 := Lib.hid (HL8.out.trans (hB.mono HL8.out.size))
        clear hB HL8
        go_wp2
        go_ret
        exact ⟨rfl, HL9.out⟩
      · clear HRor HC7
        go_wp2_with (refine rd_store rfl _ _ rfl v7.heap.size rl hrl rfl rfl 60 zr8 (Blk.new v7 60 zr8) rfl ?_)
        refine (alive_is _ (E.below HL7.out)).mono ?_
        rintro e v9 ⟨rfl, hB⟩
        have HL9 := Lib.hid (HL7.out.trans (hB.mono HL7.out.size))
        clear hB HL7
        go_wp2
        go_ret
        exact ⟨rfl, HL9.out⟩
end Go.Proofs.YtfapmedlnaikiaaDoor
