/-
  Put together: UrD UrE.
-/
import Derived.Test.YtdgoeibfggjbmaaGreatDoorMRA
import Derived.Test.YtdgoeibfggjbmaaGreatDoorMQD
import Derived.IntWalk
namespace Go.Proofs.YtdgoeibfggjbmaaGreatDoor
open Go.RowKit
set_option maxRecDepth 100000
set_option linter.unusedSimpArgs false
set_option linter.unusedVariables false

def SaidM (w' : World) (lo : Nat) (o : Option Sd) (nv : Bool) (nl : List Int) (v : Value) (wr : Int) (b : Bool) : Prop := match o with
  | none => b = false
  | some s => b = true ∧ nv = s.nv ∧ nl = s.nl ∧ wr = s.wr ∧ OwnRt lo w' v s.rs
def SaidP (w : World) (o : Option Sd) (e : Ending) (w' : World) : Prop := Below w.heap.size w w' ∧
  ∃ nv nl A n c wr b, e = .returned (.tuple #[.agg (sdc nv nl (.slice A n c) wr).toArray, .bool b]) ∧ nl.length = 16 ∧ Oct nl ∧ SaidM w' w.heap.size o nv nl (.slice A n c) wr b
theorem withR_yes {nv : Bool} {nl l : List Int} (h : readE l = 0) : withR nv nl l = some ⟨nv, nl, readRs l, readMN l⟩ := by
  unfold withR
  cases hr : readAll l with
  | none => rw [(read_none hr).2.2] at h; cases h
  | some x => obtain ⟨q1, q2, _⟩ := read_some (rs := x.1) (m := x.2) hr; rw [q1, q2]
theorem withR_no {nv : Bool} {nl l : List Int} (h : readE l ≠ 0) : withR nv nl l = none := by
  unfold withR
  cases hr : readAll l with
  | none => rfl
  | some x => exact absurd (read_some (rs := x.1) (m := x.2) hr).2.2 h
structure SdS (A0 : Option Addr) (c0 : Nat) (w W : World) (g : Nat) (v : List Int) (s : CS) : Prop where
  res : Blk W w.heap.size 108 (sdc false z16 (.slice none 0 0) 0).toArray
  cu : CurS A0 c0 W g v s
  low : Below w.heap.size w W
  lt : w.heap.size < g
structure SdR (w W : World) (b : Nat) (nv : Bool) (nl : List Int) : Prop where
  res : ∃ Z, Blk W w.heap.size 108 Z ∧ Z.size = 19
  low : Below w.heap.size w W
  bx : Blk W b 108 (sdc nv nl (.slice none 0 0) 0).toArray
  lt : w.heap.size < b
section
variable {A0 : Option Addr} {c0 : Nat} {w W W' : World} {g b : Nat} {v : List Int} {s s' : CS} {nv : Bool} {nl : List Int}
theorem SdS.below (h : SdS A0 c0 w W g v s) (hB : Below W.heap.size W W') : SdS A0 c0 w W' g v s := ⟨h.res.below hB h.res.lt, h.cu.above hB h.cu.toIsCurT.lt, h.low.trans (hB.mono h.low.size), h.lt⟩
theorem SdS.step (h : SdS A0 c0 w W g v s) (hc : CurS A0 c0 W' g v s') (hg : W.grownBy W' (some g)) : SdS A0 c0 w W' g v s' := by
  have := h.lt
  exact ⟨h.res.grown hg (fun e => by injection e with e; omega), hc, below_only h.low hg h.low.size (fun j e => by injection e with e; omega), h.lt⟩
theorem SdR.below (h : SdR w W b nv nl) (hB : Below W.heap.size W W') : SdR w W' b nv nl := ⟨(by obtain ⟨Z, h1, h2⟩ := h.res; exact ⟨Z, h1.below hB h1.lt, h2⟩), h.low.trans (hB.mono h.low.size), h.bx.below hB h.bx.lt, h.lt⟩
theorem SdR.step (h : SdR w W b nv nl) (hl : w.heap.size < g) (hg : W.grownBy W' (some g)) (hne : b ≠ g) : SdR w W' b nv nl := by
  exact ⟨(by obtain ⟨Z, h1, h2⟩ := h.res; exact ⟨Z, h1.grown hg (fun e => by injection e with e; omega), h2⟩), below_only h.low hg h.low.size (fun j e => by injection e with e; omega), h.bx.grown hg (fun e => by injection e with e; omega), h.lt⟩
end
theorem nx_len (v : List Int) (s : CS) : (nxM v s).1.2.length = 16 := by
  unfold nxM
  split
  · exact four16 _
  · split
    · exact pad_len (took_le v _ _ 16)
    · rfl
theorem drop_left {v : List Int} {p : Nat} (hp : p ≤ v.length) : tV v (p, 0) ((v.length - p : Nat) : Int) = v.drop p := by
  rw [(tS_in (l := v) (p := p) (n := v.length - p) (by omega)).1]
  exact List.take_of_length_le (by simp)
theorem said_rest {w X3 X4 : World} {o : Option Sd} {nv : Bool} {nl l : List Int} {A : Option Addr} {n c : Nat} (hlow : Below w.heap.size w X4) (hs : w.heap.size < X3.heap.size) (hnl : nl.length = 16) (hol : Oct nl) (hO : OwnRt X3.heap.size X4 (.slice A n c) (readRs l)) (ho : o = withR nv nl l) (b : Bool) (hb : decide (readE l = 0) = b) (rm : Int) (hm : rm = readMN l) :
    SaidP w o (.returned (.tuple #[.agg (sdc nv nl (.slice A n c) rm).toArray, .bool b])) (X4.setRow w.heap.size (sdc nv nl (.slice A n c) rm).toArray) := by
  subst hb hm
  refine ⟨hlow.trans (below_setRow _ _ _ (Nat.le_refl _)), nv, nl, A, n, c, _, _, rfl, hnl, hol, ?_⟩
  have hg3 := below_setRow X4 w.heap.size (sdc nv nl (.slice A n c) (readMN l)).toArray (Nat.le_refl _)
  have g3 : X4.grownBy (X4.setRow w.heap.size (sdc nv nl (.slice A n c) (readMN l)).toArray) (some w.heap.size) := ⟨hg3.os, hg3.tape, hg3.output, hg3.size, fun i hi hne => setRow_other _ _ _ _ (fun e => hne (by rw [e]))⟩
  by_cases he : readE l = 0
  · rw [ho, withR_yes he]
    exact ⟨decide_eq_true he, rfl, rfl, rfl, (hO.grown g3 hs).low (Nat.le_of_lt hs)⟩
  · rw [ho, withR_no he]
    exact decide_eq_false he
theorem said_none {w W : World} (h : Below w.heap.size w W) : SaidP w none (.returned (.tuple #[.agg (sdc false z16 (.slice none 0 0) 0).toArray, .bool false])) (W.setRow w.heap.size (sdc false z16 (.slice none 0 0) 0).toArray) :=
  ⟨h.trans (below_setRow _ _ _ (Nat.le_refl _)), false, z16, none, 0, 0, 0, false, rfl, rfl, oct_zeros 16, rfl⟩
theorem said_zero {w W : World} (h : Below w.heap.size w W) : SaidP w (some sd0) (.returned (.tuple #[.agg (sdc false z16 (.slice none 0 0) 0).toArray, .bool true])) (W.setRow w.heap.size (sdc false z16 (.slice none 0 0) 0).toArray) :=
  ⟨h.trans (below_setRow _ _ _ (Nat.le_refl _)), false, z16, none, 0, 0, 0, true, rfl, rfl, oct_zeros 16, rfl, rfl, rfl, rfl, OwnRt.nil_ _ _⟩
theorem sd_new2 {W : World} {vr : Value} {m : Int} {b : Nat} {nv : Bool} {nl : List Int} (h : Blk W b 108 (sdc false z16 vr m).toArray) (hl : nl.length = 16) : Blk (W.setCells b 0 (ipc nv nl)) b 108 (sdc nv nl vr m).toArray := by
  have h2 : Blk W b 108 ([] ++ (ipc false z16 ++ [vr, .int .i64 m])).toArray := h
  exact blk_setCells (ipc nv nl) (ipc false z16) [] [vr, .int .i64 m] W h2 (by rw [ipc_len, ipc_len, hl]; rfl)
set_option maxHeartbeats 1000000 in
theorem saidBy_is (w : World) (A : Option Addr) (n c : Nat) (rs : List Raw) (k : Int) (hk : k = 14 ∨ k = 15) (hr : RdR w w.heap.size A n rs) (hn : n ≤ 1048576) (hv : ∀ r ∈ rs, r.2.2.length ≤ 1000000000000) :
    Calls Tryz.prog 64 #[.slice A n c, .int .i64 k] w (SaidP w (saidR rs k)) := by
  have hal := bl_one w (.cells (sdc false z16 (.slice none 0 0) 0).toArray 108)
  have HB0 := Lib.hid hal
  have H0 := Lib.hid (Blk.new w 108 (sdc false z16 (.slice none 0 0) 0).toArray)
  have hr1 := (hr.below hal).more hal.size
  have HR := Lib.hid hr1
  have HP := Lib.hid (place7_is _ A n c rs k hr1 hn)
  have HZ16 : Hid (z16.length = 16) := Lib.hid rfl
  have hlen := hr.len
  have hpf := plc_fst rs k
  have HSd : Hid (saidR rs k = match fstK rs k with | none => some sd0 | some r => sdR k r.2.2) := Lib.hid rfl
  generalize saidR rs k = o at *
  clear hr hr1 hal
  rcases hpf with ⟨i, hi, hpl, hfst, hki⟩ | ⟨hpl, hfst⟩
  · have hsd2 : o = sdR k rs[i].2.2 := by have h := HSd.out; rw [hfst] at h; exact h
    clear HSd
    have HSd := Lib.hid hsd2
    rw [hpl] at HP
    clear hsd2
    have hvi := hv _ (List.getElem_mem hi)
    clear hpl hfst hki hv
    have hin : i < n := by omega
    have HGet := Lib.hid (fun W (hB : Below (w.alloc (.cells (sdc false z16 (.slice none 0 0) 0).toArray 108)).heap.size (w.alloc (.cells (sdc false z16 (.slice none 0 0) 0).toArray 108)) W) => ((HR.out.below hB).more hB.size).get hi)
    generalize rs[i].1 = rf at *
    generalize rs[i].2.1 = rk at *
    generalize hvv : rs[i].2.2 = v at *
    obtain ⟨b, off, A1, n1, c1, rfl, hb, _, _, _, hrd0⟩ := HGet.out _ (Below.refl _ _)
    have hn1 : n1 ≤ 1000000000000 := by rw [← hrd0.len]; exact hvi
    have hi0 : (0 : Int) ≤ (i : Int) := by omega
    have hi1 : (i : Int) < (n : Int) := by omega
    clear hrd0 hvv hlen
    go_enter Tryz.func64, Tryz.ntmps64
    go_wp2_with fail
    refine HP.out.mono ?_
    rintro e W1 ⟨rfl, hB⟩
    obtain ⟨b', off', A2, n2, c2, he, hb2, _, _, x2, hrd⟩ := HGet.out W1 hB
    injection he with he
    injection he with he1 he2 _
    subst he1 he2
    have hn2 : n2 ≤ 1000000000000 := by rw [← hrd.len]; exact hvi
    have HB1 := Lib.hid (HB0.out.trans (hB.mono (by simp)))
    have H1 := Lib.hid (H0.out.below hB (by simp))
    have HRd := Lib.hid hrd
    have HVl := Lib.hid hrd.len
    clear hB hrd H0 HB0 HP HGet
    have hneg : ¬ ((i : Int) < 0) := by omega
    go_wp2_with fail
    refine (new_isX W1 A2 n2 c2 v HRd.out (by omega)).mono ?_
    rintro e W2 ⟨g, A0, c0, rfl, hg, hcx, _, hB⟩
    have HS2 : Hid (SdS A0 c0 w W2 g v (0, 0)) := Lib.hid ⟨H1.out.below hB H1.out.lt, hcx, HB1.out.trans (hB.mono HB1.out.size), Nat.lt_of_lt_of_le H1.out.lt hg⟩
    have HFam := Lib.hid (fam_cur v HRd.out.oct)
    have HNx := Lib.hid (next_cur v HRd.out.oct)
    have HOct := Lib.hid HRd.out.oct
    clear hg hcx hB H1 HB1 HRd
    go_wp2_with fail
    refine (rfam_is W2 g v (0, 0) HS2.out.cu).mono ?_
    rintro e W3 ⟨rfl, hC, hG⟩
    have HS3 := Lib.hid (HS2.out.step hC hG)
    clear hC hG HS2
    generalize hb1 : (decide (nV v (0, 0) 2 = 25) && decide (nV v (nS v (0, 0) 2) 1 = 70)) = b1 at *
    generalize nS v (nS v (0, 0) 2) 1 = s1 at *
    go_wp2_with fail
    refine (err_is W3 g v _ _ HS3.out.cu.toIsCurT).mono ?_
    rintro e W4 ⟨rfl, rfl⟩
    rcases HFam.out with ⟨h3, hne⟩ | ⟨h3, hs, hours⟩
    · have e0 : (s1.2 != 0) = true := by simpa using hne
      have HE : Hid (o = none) := Lib.hid (by rw [HSd.out]; unfold sdR; rw [if_pos h3])
      have HEnd := Lib.hid (said_none HS3.out.low)
      rw [← HE.out] at HEnd
      clear hne h3 HFam HNx hb1
      go_wp2_with (first
        | (refine sd_store rfl _ _ rfl w.heap.size false z16 (.slice none 0 0) 0 HZ16.out rfl rfl rfl 108 _ HS3.out.res (by simp [sdc_len HZ16.out]) ?_)
        | fail)
      try simp only [Exit.inBlock, Exit.then]
      exact bodyPost_ret (results_cell_slot rfl _ _ w.heap.size 108 _ _ (.bool false) rfl rfl (HS3.out.res.setRow _) Tryz.underlying108 rfl (by rw [ssz]; simp [sdc_len HZ16.out])) rfl HEnd.out
    · subst hs
      cases b1
      · have HE : Hid (o = some sd0) := Lib.hid (by rw [HSd.out]; unfold sdR; rw [if_neg (by omega), if_pos hours.symm])
        have HEnd := Lib.hid (said_zero HS3.out.low)
        rw [← HE.out] at HEnd
        clear h3 HFam HNx hb1 hours
        go_wp2_with (first
          | (refine sd_store rfl _ _ rfl w.heap.size false z16 (.slice none 0 0) 0 HZ16.out rfl rfl rfl 108 _ HS3.out.res (by simp [sdc_len HZ16.out]) ?_)
          | fail)
        try simp only [Exit.inBlock, Exit.then]
        exact bodyPost_ret (results_cell_slot rfl _ _ w.heap.size 108 _ _ (.bool true) rfl rfl (HS3.out.res.setRow _) Tryz.underlying108 rfl (by rw [ssz]; simp [sdc_len HZ16.out])) rfl HEnd.out
      · have HNx2 := Lib.hid (HNx.out h3 hours.symm)
        have HW : Hid (k = 15 → o = withR false z16 (v.drop 3)) := Lib.hid (fun hk => by rw [HSd.out]; unfold sdR; rw [if_neg (by omega), if_neg (by rw [← hours]; decide), if_neg (by omega)])
        have HW14 : Hid (k = 14 → o = sdR 14 v) := Lib.hid (fun hk => by rw [HSd.out, hk])
        have HVL := Lib.hid (show 3 ≤ v.length from h3)
        clear HFam HNx hb1 hours h3
        rcases hk with rfl | rfl
        · -- AReach
          have HO := Lib.hid (HW14.out rfl)
          clear HW HW14 HSd
          go_wp2_with fail
          have HS4 := Lib.hid (HS3.out.below (bl_one W3 (.cells (sdc false z16 (.slice none 0 0) 0).toArray 108)))
          have H9 := Lib.hid (Blk.new W3 108 (sdc false z16 (.slice none 0 0) 0).toArray)
          have h9l : W3.heap.size < (W3.alloc (.cells (sdc false z16 (.slice none 0 0) 0).toArray 108)).heap.size := by simp
          have hgl : g < W3.heap.size := HS3.out.cu.toIsCurT.lt
          have hwl : w.heap.size < W3.heap.size := HS3.out.res.lt
          generalize hb9 : W3.heap.size = b9 at *
          clear HS3
          refine (rnext_is _ g v (3, 0) HS4.out.cu).mono ?_
          rintro e W5 ⟨rfl, hC, hG⟩
          have HS5 := Lib.hid (HS4.out.step hC hG)
          have H95 := Lib.hid (H9.out.grown hG (fun e => by injection e with e; omega))
          clear hC hG HS4 H9 h9l hb9
          rcases HNx2.out with ⟨hf, hsd⟩ | ⟨nv, nl, p, hm, hp, hsd, hnl, honl⟩
          · have HE : Hid (o = none) := Lib.hid (by rw [HO.out, hsd])
            rw [hf]
            have hnl := nx_len v (3, 0)
            generalize (nxM v (3, 0)).1.1 = nv at *
            generalize (nxM v (3, 0)).1.2 = nl at *
            generalize (nxM v (3, 0)).2.2 = s5 at *
            have HNl := Lib.hid hnl
            have HI : Hid (∀ Z, SdS A0 c0 w ((W5.alloc (.cells Z 27)).setRow W5.heap.size (ipc nv nl).toArray) g v s5) := Lib.hid (fun Z => HS5.out.below ((bl_one W5 (.cells Z 27)).trans (below_setRow _ _ _ (Nat.le_refl _))))
            clear hf hsd hnl
            go_wp2_with (first
              | (refine ip_store_to rfl _ _ rfl W5.heap.size nv nl HNl.out rfl rfl 27 _ (Blk.new W5 27 _) rfl (fun W => SdS A0 c0 w W g v s5) (HI.out _) ?_; intro W6 hW6; have HS6 := Lib.hid hW6; clear hW6; have HEnd := Lib.hid (said_none HS6.out.low); rw [← HE.out] at HEnd)
              | (refine sd_store rfl _ _ rfl w.heap.size false z16 (.slice none 0 0) 0 HZ16.out rfl rfl rfl 108 _ HS6.out.res (by simp [sdc_len HZ16.out]) ?_)
              | fail)
            try simp only [Exit.inBlock, Exit.then]
            exact bodyPost_ret (results_cell_slot rfl _ _ w.heap.size 108 _ _ (.bool false) rfl rfl (HS6.out.res.setRow _) Tryz.underlying108 rfl (by rw [ssz]; simp [sdc_len HZ16.out])) rfl HEnd.out
          · have HNl := Lib.hid hnl
            have HOl := Lib.hid honl
            have HO2 : Hid (o = withR nv nl (v.drop p)) := Lib.hid (by rw [HO.out, hsd])
            rw [hm] at HS5
            rw [hm]
            have hgb : g < W5.heap.size := HS5.out.cu.toIsCurT.lt
            have HI : Hid (∀ Z, SdS A0 c0 w ((W5.alloc (.cells Z 27)).setRow W5.heap.size (ipc nv nl).toArray) g v (p, 0) ∧ Blk ((W5.alloc (.cells Z 27)).setRow W5.heap.size (ipc nv nl).toArray) b9 108 (sdc false z16 (.slice none 0 0) 0).toArray ∧ Blk ((W5.alloc (.cells Z 27)).setRow W5.heap.size (ipc nv nl).toArray) W5.heap.size 27 (ipc nv nl).toArray) := Lib.hid (fun Z => by
              have hB := (bl_one W5 (.cells Z 27)).trans (below_setRow _ _ (ipc nv nl).toArray (Nat.le_refl _))
              exact ⟨HS5.out.below hB, H95.out.below hB H95.out.lt, (Blk.new W5 27 Z).setRow _⟩)
            clear hm hsd hnl honl HO
            go_wp2_with (first
              | (refine ip_store_to rfl _ _ rfl W5.heap.size nv nl HNl.out rfl rfl 27 _ (Blk.new W5 27 _) rfl (fun W => SdS A0 c0 w W g v (p, 0) ∧ Blk W b9 108 (sdc false z16 (.slice none 0 0) 0).toArray ∧ Blk W W5.heap.size 27 (ipc nv nl).toArray) (HI.out _) ?_; intro W6 hW6; have HS6 := Lib.hid hW6; clear hW6)
              | (refine ip_fetch rfl _ rfl W5.heap.size 0 nv nl HNl.out rfl HS6.out.2.2.range ?_)
              | (refine part_store rfl 27 _ _ rfl b9 0 (ipc nv nl) rfl rfl (blk_there HS6.out.2.1 0 _ (by rw [ipc_len, HNl.out, sdc_len HZ16.out]; omega)) (by rw [ip17, ipc_len, HNl.out]) (one_ipcN _ _) ?_)
              | fail)
            have hwg : w.heap.size < g := HS6.out.1.lt
            have hcells := low_cells W6 b9 0 (ipc nv nl)
            have HR16 : Hid (SdR w (W6.setCells b9 0 (ipc nv nl)) b9 nv nl) := Lib.hid ⟨⟨_, HS6.out.1.res.below hcells (by omega), by simp [sdc_len HZ16.out]⟩, HS6.out.1.low.trans (hcells.mono (by omega)), sd_new2 HS6.out.2.1 HNl.out, by omega⟩
            have HCu : Hid (CurS A0 c0 (W6.setCells b9 0 (ipc nv nl)) g v (p, 0)) := Lib.hid (HS6.out.1.cu.above hcells hgl)
            have HO := HO2
            generalize W6.setCells b9 0 (ipc nv nl) = X0 at *
            clear hcells HO2 HS6 HI HS5 H95
            obtain ⟨dr, hdr⟩ : ∃ d, d = v.drop p := ⟨_, rfl⟩
            rw [← hdr] at HO
            have hdl : dr.length ≤ 1000000000000 := by rw [hdr]; simp; omega
            have HDr := Lib.hid ((drop_left hp).trans hdr.symm)
            clear hdr
            refine wp_region_held_drew (S := fun W => SdR w W b9 nv nl) (by kernel_rfl) (HR16.out.below (bl_drew _)) (fun hS => ?_)
            refine wpAnyH_take (i := 0) (oi := ⟨some 45, _, _, _, _, _⟩) rfl (by kernel_rfl) (by kernel_rfl) (by kernel_rfl) (fun _ _ _ h => h) (yieldsIf_load_mid (by rfl) 108 _ rfl _ _ rfl (sdc nv nl (.slice none 0 0) 0) _ (fun wq hq => hq.bx.range) Tryz.underlying108 rfl (by rw [ssz, sdc_len HNl.out])) hS ?_
            try simp only [Act.put, zP, zQ, zR]
            refine wpAnyH_take (i := 1) (oi := ⟨some 46, _, _, _, _, _⟩) (v := ?_) rfl (by kernel_rfl) (by kernel_rfl) (by kernel_rfl) (fun _ _ _ h => h) (Or.inl ⟨by rfl, ?_⟩) hS ?_
            rotate_left
            · intro wq hq
              first | (go_simp; done) | (go_simp; rfl)
            try simp only [Act.put, zP, zQ, zR]
            refine wpAnyH_take (i := 2) (oi := ⟨some 47, _, _, _, _, _⟩) (v := ?_) rfl (by kernel_rfl) (by kernel_rfl) (by kernel_rfl) (fun _ _ _ h => h) (Or.inl ⟨by rfl, ?_⟩) hS ?_
            rotate_left
            · intro wq hq
              first | (go_simp; done) | (go_simp; rfl)
            try simp only [Act.put, zP, zQ, zR]
            have hcu := HCu.out.above (bl_drew _) HCu.out.toIsCurT.lt
            generalize X0.drew = X1 at *
            clear HR16 HCu
            refine wpAnyH_ready (rs := [3]) (by kernel_rfl) (by simp) ?_
            refine AllReadyH.cons (o := ⟨some 48, _, _, _, _, _⟩) rfl (fun K hK => ?_) AllReadyH.nil
            rw [if_pos (by rfl)]
            go_wp2_with fail
            refine (leftC_is X1 g v _ _ hcu.toIsCurT).mono ?_
            rintro e X2 ⟨rfl, k2, rfl⟩
            have hSn := hS.below (below_drewN (Below.refl _ _) k2)
            have hcu := hcu.drewN k2
            generalize X1.drewN k2 = X2 at *
            clear hS
            refine hK.out _ _ (hSn) (fun hS => ?_)
            clear hK K
            try simp only [Act.put, zP, zQ, zR]
            have el : (v.length : Int) - (p : Nat) = ((v.length - p : Nat) : Int) := by omega
            rw [show (v.length : Int) - ((p, (0 : Int)).1 : Nat) = ((v.length - p : Nat) : Int) from el]
            clear el hSn
            refine wpAnyH_ready (rs := [4]) (by kernel_rfl) (by simp) ?_
            refine AllReadyH.cons (o := ⟨some 49, _, _, _, _, _⟩) rfl (fun K hK => ?_) AllReadyH.nil
            rw [if_pos (by rfl)]
            go_wp2_with fail
            refine (takeS X2 g v (p, 0) ((v.length - p : Nat) : Int) hcu).mono ?_
            rintro e X3 ⟨A3, rfl, hN3, hC, hG⟩
            have hSn := hS.step hwg hG (by omega)
            have hrd := hN3.rd
            rw [HDr.out] at hrd
            rw [HDr.out]
            generalize hdn : dr.length = dn at *
            clear hS hcu hN3 hC hG
            refine hK.out _ _ (hSn) (fun hS => ?_)
            clear hK K
            try simp only [Act.put, zP, zQ, zR]
            clear hSn
            refine wpAnyH_ready (rs := [5]) (by kernel_rfl) (by simp) ?_
            refine AllReadyH.cons (o := ⟨some 50, _, _, _, _, _⟩) rfl (fun K hK => ?_) AllReadyH.nil
            rw [if_pos (by rfl)]
            go_wp2_with fail
            refine (wroutes_is X3 nv nl HNl.out none 0 0 0 A3 dn dn dr hrd hdl).mono ?_
            rintro e X4 ⟨A4, n4, c4, rfl, hO4, hB⟩
            have hSn := hS.below hB
            have hs3 : w.heap.size < X3.heap.size := Nat.lt_trans hS.lt hS.bx.lt
            have HEnd := Lib.hid (said_rest hSn.low hs3 HNl.out HOl.out hO4 HO.out _ rfl _ rfl)
            generalize decide (readE dr = 0) = rb at *
            generalize (readMN dr : Int) = rm at *
            clear hS hO4 hB hrd
            refine hK.out _ _ (hSn) (fun hS => ?_)
            clear hK K
            try simp only [Act.put, zP, zQ, zR]
            clear hSn
            refine wpAnyH_take (i := 6) (oi := ⟨some 51, _, _, _, _, _⟩) (v := ?_) rfl (by kernel_rfl) (by kernel_rfl) (by kernel_rfl) (fun _ _ _ h => h) (Or.inl ⟨by rfl, ?_⟩) hS ?_
            rotate_left
            · intro wq hq
              first | (go_simp; done) | (go_simp; rfl)
            try simp only [Act.put, zP, zQ, zR]
            refine wpAnyH_take (i := 7) (oi := ⟨some 52, _, _, _, _, _⟩) (v := ?_) rfl (by kernel_rfl) (by kernel_rfl) (by kernel_rfl) (fun _ _ _ h => h) (Or.inl ⟨by rfl, ?_⟩) hS ?_
            rotate_left
            · intro wq hq
              first | (go_simp; done) | (go_simp; rfl)
            try simp only [Act.put, zP, zQ, zR]
            obtain ⟨Z, hZ, hZs⟩ := hS.res
            refine wpAnyH_ready (rs := [8]) (by kernel_rfl) (by simp) ?_
            refine AllReadyH.cons (o := ⟨none, _, _, _, _, _⟩) rfl (fun K hK => ?_) AllReadyH.nil
            rw [if_pos (by rfl)]
            refine wp_store_row 108 _ _ rfl w.heap.size (sdc nv nl (.slice A4 n4 c4) rm).toArray rfl rfl 108 Z hZ (by rw [ssz]; simp [sdc_len HNl.out]) (by rw [hZs]; simp [sdc_len HNl.out]) (all_oneCell_toArray (sdc_one rfl)) ?_
            have HZ := Lib.hid (hZ.setRow (sdc nv nl (.slice A4 n4 c4) rm).toArray)
            have hSn : SdR w (X4.setRow w.heap.size (sdc nv nl (.slice A4 n4 c4) rm).toArray) b9 nv nl := ⟨⟨_, HZ.out, by simp [sdc_len HNl.out]⟩, hS.low.trans (below_setRow _ _ _ (Nat.le_refl _)), hS.bx.setRow_otherN (by have := hS.lt; omega) _, hS.lt⟩
            refine hK.out _ _ (hSn) (fun hS => ?_)
            clear hK K
            try simp only [Act.put, zP, zQ, zR]
            refine wpAnyH_take (i := 9) (oi := ⟨some 5, _, _, _, _, _⟩) (v := ?_) rfl (by kernel_rfl) (by kernel_rfl) (by kernel_rfl) (fun _ _ _ h => h) (Or.inl ⟨by rfl, ?_⟩) hS ?_
            rotate_left
            · intro wq hq
              first | (go_simp; done) | (go_simp; rfl)
            try simp only [Act.put, zP, zQ, zR]
            refine wpAnyH_done (by kernel_rfl) ?_ _
            clear hS hSn hZ hZs
            go_wp2
            try simp only [Exit.inBlock, Exit.then]
            exact bodyPost_ret (results_cell_slot rfl _ _ w.heap.size 108 _ _ (.bool rb) rfl rfl HZ.out Tryz.underlying108 rfl (by rw [ssz]; simp [sdc_len HNl.out])) rfl HEnd.out
        · -- AUnreach
          have HO := Lib.hid (HW.out rfl)
          obtain ⟨p, hp3⟩ : ∃ p : Nat, p = 3 := ⟨3, rfl⟩
          obtain ⟨nv, hnv⟩ : ∃ b : Bool, b = false := ⟨_, rfl⟩
          obtain ⟨nl, hnl⟩ : ∃ b : List Int, b = z16 := ⟨_, rfl⟩
          have HS4 : Hid (SdS A0 c0 w W3 g v (p, 0)) := Lib.hid (by rw [hp3]; exact HS3.out)
          have HO : Hid (o = withR nv nl (v.drop p)) := Lib.hid (by rw [hp3, hnv, hnl]; exact HO.out)
          have HNl : Hid (nl.length = 16) := Lib.hid (by rw [hnl]; rfl)
          have HOl : Hid (Oct nl) := Lib.hid (by rw [hnl]; exact oct_zeros 16)
          have hp : p ≤ v.length := by have := HVL.out; omega
          have hwg : w.heap.size < g := HS3.out.lt
          have hgl : g < W3.heap.size := HS3.out.cu.toIsCurT.lt
          clear HW HW14 HSd HNx2
          go_wp2_with fail
          have HR16 : Hid (SdR w (W3.alloc (.cells #[.bool false, .int .u8 0, .int .u8 0, .int .u8 0, .int .u8 0, .int .u8 0, .int .u8 0, .int .u8 0, .int .u8 0, .int .u8 0, .int .u8 0, .int .u8 0, .int .u8 0, .int .u8 0, .int .u8 0, .int .u8 0, .int .u8 0, .slice none 0 0, .int .i64 0] 108)) W3.heap.size nv nl) := Lib.hid (by
            have h := HS4.out.below (bl_one W3 (.cells (sdc false z16 (.slice none 0 0) 0).toArray 108))
            rw [hnv, hnl]
            exact ⟨⟨_, h.res, by simp [sdc_len HZ16.out]⟩, h.low, Blk.new W3 108 _, by omega⟩)
          have HCu : Hid (CurS A0 c0 (W3.alloc (.cells #[.bool false, .int .u8 0, .int .u8 0, .int .u8 0, .int .u8 0, .int .u8 0, .int .u8 0, .int .u8 0, .int .u8 0, .int .u8 0, .int .u8 0, .int .u8 0, .int .u8 0, .int .u8 0, .int .u8 0, .int .u8 0, .int .u8 0, .slice none 0 0, .int .i64 0] 108)) g v (p, 0)) := Lib.hid (HS4.out.below (bl_one W3 _)).cu
          clear hp3 hnv hnl HS3 HS4
          generalize hX0 : W3.alloc (.cells #[.bool false, .int .u8 0, .int .u8 0, .int .u8 0, .int .u8 0, .int .u8 0, .int .u8 0, .int .u8 0, .int .u8 0, .int .u8 0, .int .u8 0, .int .u8 0, .int .u8 0, .int .u8 0, .int .u8 0, .int .u8 0, .int .u8 0, .slice none 0 0, .int .i64 0] 108) = X0 at *
          generalize W3.heap.size = b9 at *
          clear hX0
          obtain ⟨dr, hdr⟩ : ∃ d, d = v.drop p := ⟨_, rfl⟩
          rw [← hdr] at HO
          have hdl : dr.length ≤ 1000000000000 := by rw [hdr]; simp; omega
          have HDr := Lib.hid ((drop_left hp).trans hdr.symm)
          clear hdr
          refine wp_region_held_drew (S := fun W => SdR w W b9 nv nl) (by kernel_rfl) (HR16.out.below (bl_drew _)) (fun hS => ?_)
          refine wpAnyH_take (i := 0) (oi := ⟨some 45, _, _, _, _, _⟩) rfl (by kernel_rfl) (by kernel_rfl) (by kernel_rfl) (fun _ _ _ h => h) (yieldsIf_load_mid (by rfl) 108 _ rfl _ _ rfl (sdc nv nl (.slice none 0 0) 0) _ (fun wq hq => hq.bx.range) Tryz.underlying108 rfl (by rw [ssz, sdc_len HNl.out])) hS ?_
          try simp only [Act.put, zP, zQ, zR]
          refine wpAnyH_take (i := 1) (oi := ⟨some 46, _, _, _, _, _⟩) (v := ?_) rfl (by kernel_rfl) (by kernel_rfl) (by kernel_rfl) (fun _ _ _ h => h) (Or.inl ⟨by rfl, ?_⟩) hS ?_
          rotate_left
          · intro wq hq
            first | (go_simp; done) | (go_simp; rfl)
          try simp only [Act.put, zP, zQ, zR]
          refine wpAnyH_take (i := 2) (oi := ⟨some 47, _, _, _, _, _⟩) (v := ?_) rfl (by kernel_rfl) (by kernel_rfl) (by kernel_rfl) (fun _ _ _ h => h) (Or.inl ⟨by rfl, ?_⟩) hS ?_
          rotate_left
          · intro wq hq
            first | (go_simp; done) | (go_simp; rfl)
          try simp only [Act.put, zP, zQ, zR]
          have hcu := HCu.out.above (bl_drew _) HCu.out.toIsCurT.lt
          generalize X0.drew = X1 at *
          clear HR16 HCu
          refine wpAnyH_ready (rs := [3]) (by kernel_rfl) (by simp) ?_
          refine AllReadyH.cons (o := ⟨some 48, _, _, _, _, _⟩) rfl (fun K hK => ?_) AllReadyH.nil
          rw [if_pos (by rfl)]
          go_wp2_with fail
          refine (leftC_is X1 g v _ _ hcu.toIsCurT).mono ?_
          rintro e X2 ⟨rfl, k2, rfl⟩
          have hSn := hS.below (below_drewN (Below.refl _ _) k2)
          have hcu := hcu.drewN k2
          generalize X1.drewN k2 = X2 at *
          clear hS
          refine hK.out _ _ (hSn) (fun hS => ?_)
          clear hK K
          try simp only [Act.put, zP, zQ, zR]
          have el : (v.length : Int) - (p : Nat) = ((v.length - p : Nat) : Int) := by omega
          rw [show (v.length : Int) - ((p, (0 : Int)).1 : Nat) = ((v.length - p : Nat) : Int) from el]
          clear el hSn
          refine wpAnyH_ready (rs := [4]) (by kernel_rfl) (by simp) ?_
          refine AllReadyH.cons (o := ⟨some 49, _, _, _, _, _⟩) rfl (fun K hK => ?_) AllReadyH.nil
          rw [if_pos (by rfl)]
          go_wp2_with fail
          refine (takeS X2 g v (p, 0) ((v.length - p : Nat) : Int) hcu).mono ?_
          rintro e X3 ⟨A3, rfl, hN3, hC, hG⟩
          have hSn := hS.step hwg hG (by omega)
          have hrd := hN3.rd
          rw [HDr.out] at hrd
          rw [HDr.out]
          generalize hdn : dr.length = dn at *
          clear hS hcu hN3 hC hG
          refine hK.out _ _ (hSn) (fun hS => ?_)
          clear hK K
          try simp only [Act.put, zP, zQ, zR]
          clear hSn
          refine wpAnyH_ready (rs := [5]) (by kernel_rfl) (by simp) ?_
          refine AllReadyH.cons (o := ⟨some 50, _, _, _, _, _⟩) rfl (fun K hK => ?_) AllReadyH.nil
          rw [if_pos (by rfl)]
          go_wp2_with fail
          refine (wroutes_is X3 nv nl HNl.out none 0 0 0 A3 dn dn dr hrd hdl).mono ?_
          rintro e X4 ⟨A4, n4, c4, rfl, hO4, hB⟩
          have hSn := hS.below hB
          have hs3 : w.heap.size < X3.heap.size := Nat.lt_trans hS.lt hS.bx.lt
          have HEnd := Lib.hid (said_rest hSn.low hs3 HNl.out HOl.out hO4 HO.out _ rfl _ rfl)
          generalize decide (readE dr = 0) = rb at *
          generalize (readMN dr : Int) = rm at *
          clear hS hO4 hB hrd
          refine hK.out _ _ (hSn) (fun hS => ?_)
          clear hK K
          try simp only [Act.put, zP, zQ, zR]
          clear hSn
          refine wpAnyH_take (i := 6) (oi := ⟨some 51, _, _, _, _, _⟩) (v := ?_) rfl (by kernel_rfl) (by kernel_rfl) (by kernel_rfl) (fun _ _ _ h => h) (Or.inl ⟨by rfl, ?_⟩) hS ?_
          rotate_left
          · intro wq hq
            first | (go_simp; done) | (go_simp; rfl)
          try simp only [Act.put, zP, zQ, zR]
          refine wpAnyH_take (i := 7) (oi := ⟨some 52, _, _, _, _, _⟩) (v := ?_) rfl (by kernel_rfl) (by kernel_rfl) (by kernel_rfl) (fun _ _ _ h => h) (Or.inl ⟨by rfl, ?_⟩) hS ?_
          rotate_left
          · intro wq hq
            first | (go_simp; done) | (go_simp; rfl)
          try simp only [Act.put, zP, zQ, zR]
          obtain ⟨Z, hZ, hZs⟩ := hS.res
          refine wpAnyH_ready (rs := [8]) (by kernel_rfl) (by simp) ?_
          refine AllReadyH.cons (o := ⟨none, _, _, _, _, _⟩) rfl (fun K hK => ?_) AllReadyH.nil
          rw [if_pos (by rfl)]
          refine wp_store_row 108 _ _ rfl w.heap.size (sdc nv nl (.slice A4 n4 c4) rm).toArray rfl rfl 108 Z hZ (by rw [ssz]; simp [sdc_len HNl.out]) (by rw [hZs]; simp [sdc_len HNl.out]) (all_oneCell_toArray (sdc_one rfl)) ?_
          have HZ := Lib.hid (hZ.setRow (sdc nv nl (.slice A4 n4 c4) rm).toArray)
          have hSn : SdR w (X4.setRow w.heap.size (sdc nv nl (.slice A4 n4 c4) rm).toArray) b9 nv nl := ⟨⟨_, HZ.out, by simp [sdc_len HNl.out]⟩, hS.low.trans (below_setRow _ _ _ (Nat.le_refl _)), hS.bx.setRow_otherN (by have := hS.lt; omega) _, hS.lt⟩
          refine hK.out _ _ (hSn) (fun hS => ?_)
          clear hK K
          try simp only [Act.put, zP, zQ, zR]
          refine wpAnyH_take (i := 9) (oi := ⟨some 5, _, _, _, _, _⟩) (v := ?_) rfl (by kernel_rfl) (by kernel_rfl) (by kernel_rfl) (fun _ _ _ h => h) (Or.inl ⟨by rfl, ?_⟩) hS ?_
          rotate_left
          · intro wq hq
            first | (go_simp; done) | (go_simp; rfl)
          try simp only [Act.put, zP, zQ, zR]
          refine wpAnyH_done (by kernel_rfl) ?_ _
          clear hS hSn hZ hZs
          go_wp2
          try simp only [Exit.inBlock, Exit.then]
          exact bodyPost_ret (results_cell_slot rfl _ _ w.heap.size 108 _ _ (.bool rb) rfl rfl HZ.out Tryz.underlying108 rfl (by rw [ssz]; simp [sdc_len HNl.out])) rfl HEnd.out
  · rw [hfst] at HSd
    rw [hpl] at HP
    have HE : Hid (o = some sd0) := Lib.hid HSd.out
    clear hpl hfst hv
    go_enter Tryz.func64, Tryz.ntmps64
    go_wp2_with fail
    refine HP.out.mono ?_
    rintro e W1 ⟨rfl, hB⟩
    have HB1 := Lib.hid (HB0.out.trans (hB.mono (by simp)))
    have H1 := Lib.hid (H0.out.below hB (by simp))
    have HEnd := Lib.hid (said_zero HB1.out)
    rw [← HE.out] at HEnd
    clear hB HP HB0 H0
    go_wp2_with (first
      | (refine sd_store rfl _ _ rfl w.heap.size false z16 (.slice none 0 0) 0 HZ16.out rfl rfl rfl 108 _ H1.out (by simp [sdc_len HZ16.out]) ?_)
      | fail)
    try simp only [Exit.inBlock, Exit.then]
    exact bodyPost_ret (results_cell_slot rfl _ _ w.heap.size 108 _ _ (.bool true) rfl rfl (H1.out.setRow _) Tryz.underlying108 rfl (by rw [ssz]; simp [sdc_len HZ16.out])) rfl HEnd.out
end Go.Proofs.YtdgoeibfggjbmaaGreatDoor
namespace Go.Proofs.YtdgoeibfggjbmaaGreatDoor
open Go.RowKit
set_option maxRecDepth 100000
set_option linter.unusedSimpArgs false
set_option linter.unusedVariables false

def zat : List Value := attV Att.zero (.slice none 0 0) (.slice none 0 0) (.slice none 0 0)
def zup : List Value := upc zat false z16 (.slice none 0 0) (.slice none 0 0)
theorem zup_len : zup.length = 46 := by rfl
theorem upc_one {cs : List Value} {nv : Bool} {nl : List Int} {vr vu : Value} (h : ∀ v ∈ cs, v.oneCell' = true) (h1 : vr.oneCell' = true) (h2 : vu.oneCell' = true) : ∀ v ∈ upc cs nv nl vr vu, v.oneCell' = true := by
  intro v hv
  rcases List.mem_append.1 hv with hv | hv
  · exact h v hv
  · rcases List.mem_append.1 hv with hv | hv
    · exact one_ipcN _ _ v hv
    · simp only [List.mem_cons, List.mem_nil_iff, or_false] at hv
      rcases hv with rfl | rfl
      · exact h1
      · exact h2
theorem zup_one : ∀ v ∈ zup, v.oneCell' = true := upc_one (one_attV _ rfl rfl rfl) rfl rfl
structure RfS (w W : World) (cs : List Value) : Prop where
  bx : Blk W w.heap.size 56 cs.toArray
  t2 : ∃ Z, Blk W (w.heap.size + 1) 34 Z ∧ Z.size = 46
  t4 : ∃ Z, Blk W (w.heap.size + 2) 56 Z ∧ Z.size = 3
  low : Below w.heap.size w W
theorem RfS.below {w W W' : World} {cs : List Value} (h : RfS w W cs) (hB : Below W.heap.size W W') : RfS w W' cs := by
  obtain ⟨Z2, h2, z2⟩ := h.t2
  obtain ⟨Z4, h4, z4⟩ := h.t4
  exact ⟨h.bx.below hB h.bx.lt, ⟨Z2, h2.below hB h2.lt, z2⟩, ⟨Z4, h4.below hB h4.lt, z4⟩, h.low.trans (hB.mono h.low.size)⟩
theorem RfS.put2 {w W : World} {cs : List Value} (h : RfS w W cs) (ds : Array Value) (hd : ds.size = 46) : RfS w (W.setRow (w.heap.size + 1) ds) cs := by
  obtain ⟨Z2, h2, z2⟩ := h.t2
  obtain ⟨Z4, h4, z4⟩ := h.t4
  exact ⟨h.bx.setRow_otherN (by omega) _, ⟨ds, h2.setRow _, hd⟩, ⟨Z4, h4.setRow_otherN (by omega) _, z4⟩, h.low.trans (below_setRow _ _ _ (by omega))⟩
theorem RfS.put4 {w W : World} {cs : List Value} (h : RfS w W cs) (ds : Array Value) (hd : ds.size = 3) : RfS w (W.setRow (w.heap.size + 2) ds) cs := by
  obtain ⟨Z2, h2, z2⟩ := h.t2
  obtain ⟨Z4, h4, z4⟩ := h.t4
  exact ⟨h.bx.setRow_otherN (by omega) _, ⟨Z2, h2.setRow_otherN (by omega) _, z2⟩, ⟨ds, h4.setRow _, hd⟩, h.low.trans (below_setRow _ _ _ (by omega))⟩
def RefP (w : World) (c s : Int) (A : Option Addr) (n cp : Nat) (e : Ending) (w' : World) : Prop := e = .returned (.tuple #[.agg zup.toArray, .int .i64 3, .agg #[.int .i64 c, .int .i64 s, .slice A n cp]]) ∧ Below w.heap.size w w'
set_option maxHeartbeats 1000000 in
theorem refused7_is (w : World) (c s : Int) (A : Option Addr) (n cp : Nat) : Calls Tryz.prog 62 #[.agg #[.int .i64 c, .int .i64 s, .slice A n cp]] w (RefP w c s A n cp) := by
  have hS0 : RfS w (((w.alloc (.cells [.int .i64 c, .int .i64 s, .slice A n cp].toArray 56)).alloc (.cells zup.toArray 34)).alloc (.cells #[.int .i64 0, .int .i64 0, .slice none 0 0] 56)) [.int .i64 c, .int .i64 s, .slice A n cp] := by
    refine ⟨((Blk.new w 56 _).alloc _).alloc _, ⟨zup.toArray, ?_, by rfl⟩, ⟨#[.int .i64 0, .int .i64 0, .slice none 0 0], ?_, rfl⟩, (((Below.refl w.heap.size w).alloc (Nat.le_refl _) _).alloc (by simp) _).alloc (by simp; omega) _⟩
    · have := (Blk.new (w.alloc (.cells [.int .i64 c, .int .i64 s, .slice A n cp].toArray 56)) 34 zup.toArray).alloc (.cells #[.int .i64 0, .int .i64 0, .slice none 0 0] 56)
      simpa using this
    · have := Blk.new ((w.alloc (.cells [.int .i64 c, .int .i64 s, .slice A n cp].toArray 56)).alloc (.cells zup.toArray 34)) 56 #[.int .i64 0, .int .i64 0, .slice none 0 0]
      simpa using this
  have HS0 := Lib.hid hS0
  clear hS0
  go_enter Tryz.func62, Tryz.ntmps62
  go_wp2_with fail
  refine wp_region_held_drew (S := fun W => RfS w W [.int .i64 c, .int .i64 s, .slice A n cp]) (by kernel_rfl) (HS0.out.below (bl_drew _)) (fun hS => ?_)
  refine wpAnyH_take (i := 0) (oi := ⟨some 5, _, _, _, _, _⟩) (v := ?_) rfl (by kernel_rfl) (by kernel_rfl) (by kernel_rfl) (fun _ _ _ h => h) (Or.inl ⟨by rfl, ?_⟩) hS ?_
  rotate_left
  · intro wq hq
    first | (go_simp; done) | (go_simp; rfl)
  try simp only [Act.put, zP, zQ, zR]
  refine wpAnyH_take (i := 1) (oi := ⟨some 6, _, _, _, _, _⟩) rfl (by kernel_rfl) (by kernel_rfl) (by kernel_rfl) (fun _ _ _ h => h) (yieldsIf_load_mid (by rfl) 56 _ rfl _ _ rfl ([.int .i64 c, .int .i64 s, .slice A n cp]) _ (fun wq hq => hq.bx.range) Tryz.underlying56 rfl (by rw [fsz]; rfl)) hS ?_
  try simp only [Act.put, zP, zQ, zR]
  obtain ⟨Z2, h2, z2⟩ := hS.t2
  refine wpAnyH_ready (rs := [2]) (by kernel_rfl) (by simp) ?_
  refine AllReadyH.cons (o := ⟨none, _, _, _, _, _⟩) rfl (fun K hK => ?_) AllReadyH.nil
  rw [if_pos (by rfl)]
  refine wp_store_row 34 _ _ rfl (w.heap.size + 1) zup.toArray rfl rfl 34 Z2 h2 (by rw [usz]; rfl) (by rw [z2]; rfl) (all_oneCell_toArray zup_one) ?_
  have g2 := h2.setRow zup.toArray
  refine hK.out _ _ (hS.put2 zup.toArray (by rfl)) (fun hS => ?_)
  clear hK K
  try simp only [Act.put, zP, zQ, zR]
  refine wpAnyH_take (i := 3) (oi := ⟨some 3, _, _, _, _, _⟩) (v := ?_) rfl (by kernel_rfl) (by kernel_rfl) (by kernel_rfl) (fun _ _ _ h => h) (Or.inl ⟨by rfl, ?_⟩) hS ?_
  rotate_left
  · intro wq hq
    first | (go_simp; done) | (go_simp; rfl)
  try simp only [Act.put, zP, zQ, zR]
  obtain ⟨Z4, h4, z4⟩ := hS.t4
  refine wpAnyH_ready (rs := [4]) (by kernel_rfl) (by simp) ?_
  refine AllReadyH.cons (o := ⟨none, _, _, _, _, _⟩) rfl (fun K hK => ?_) AllReadyH.nil
  rw [if_pos (by rfl)]
  refine wp_store_row 56 _ _ rfl (w.heap.size + 2) #[.int .i64 c, .int .i64 s, .slice A n cp] rfl rfl 56 Z4 h4 (by rw [fsz]; rfl) (by rw [z4]; rfl) (by kernel_rfl) ?_
  have g4 := h4.setRow #[.int .i64 c, .int .i64 s, .slice A n cp]
  have g22 := g2.setRow_otherN (g' := w.heap.size + 2) (by omega) #[.int .i64 c, .int .i64 s, .slice A n cp]
  have hlow := (hS.put4 #[.int .i64 c, .int .i64 s, .slice A n cp] rfl).low
  refine hK.out _ _ (hS.put4 _ rfl) (fun hS => ?_)
  clear hK K
  try simp only [Act.put, zP, zQ, zR]
  refine wpAnyH_done (by kernel_rfl) ?_ _
  have HG4 := Lib.hid g4
  have HG2 := Lib.hid g22
  have HLow := Lib.hid hlow
  clear hS h2 h4 g2 g4 g22 hlow z2 z4
  go_wp2
  try simp only [Exit.inBlock, Exit.then]
  exact bodyPost_ret (results_csc rfl _ _ (w.heap.size + 1) (w.heap.size + 2) zup [.int .i64 c, .int .i64 s, .slice A n cp] _ _ (.int .i64 3) rfl rfl rfl HG2.out.range HG4.out.range Tryz.underlying34 rfl (by rw [usz]; rfl) Tryz.underlying56 rfl (by rw [fsz]; rfl)) rfl ⟨rfl, HLow.out⟩

/-! faultOf. -/
theorem OwnR.rdc {lo : Nat} {w : World} {v : Value} {rs : List Raw} (h : OwnR lo w v rs) : ∃ A c, v = .slice A rs.length c ∧ rs.length ≤ c ∧ RdR w w.heap.size A rs.length rs := by
  obtain ⟨A, c, rfl, hr⟩ := h.rd
  obtain ⟨cs, h1, _⟩ := h
  refine ⟨A, c, rfl, ?_, hr⟩
  rcases h1.2 with ⟨e, hn⟩ | ⟨g, cap, cur, e, _, _, hnc, _⟩
  · rw [hn]; exact Nat.zero_le _
  · injection e with _ _ e; omega
theorem RdR.one_ {w : World} {B b off : Nat} {n : Nat} {rs : List Raw} (h : RdR w B (some ⟨b, off, none⟩) n rs) {i : Nat} (hi : i < rs.length) : RdR w B (some ⟨b, off + i * 3, none⟩) 1 [rs[i]] := by
  obtain ⟨b', off', e, hb, hc⟩ := h.at_ (by have := h.len; omega)
  injection e with e
  injection e with e1 e2 _
  subst e1 e2
  obtain ⟨A1, n1, c1, k0, k1, k2, k3⟩ := hc i hi
  refine ⟨rfl, fun _ => ⟨b, off + i * 3, rfl, hb, fun j hj => ?_⟩⟩
  obtain rfl : j = 0 := by simp at hj; omega
  exact ⟨A1, n1, c1, by simpa using k0, by simpa using k1, by simpa using k2, by simpa using k3⟩
def FofP (w : World) (l : List Int) (e : Ending) (w' : World) : Prop := ∃ A n c, e = .returned (.agg #[.int .i64 3, .int .i64 9, .slice A n c]) ∧ OwnB w.heap.size w' (.slice A n c) l ∧ Below w.heap.size w w'
set_option maxHeartbeats 1000000 in
theorem faultOf7_is (w : World) (A : Option Addr) (n c : Nat) (rs : List Raw) (k : Int) (i : Nat) (hi : i < rs.length) (hp : plc rs k = i) (hr : RdR w w.heap.size A n rs) (hc : n ≤ c) (hn : n ≤ 1048576) (he : encE rs[i] = 0) : Calls Tryz.prog 65 #[.slice A n c, .int .i64 k] w (FofP w (encB rs[i])) := by
  have hal := bl_one w (.cells #[.int .i64 0, .int .i64 0, .slice none 0 0] 56)
  have hr1 := (hr.below hal).more hal.size
  have HR := Lib.hid hr1
  have HP := Lib.hid (place7_is _ A n c rs k hr1 hn)
  have HB0 := Lib.hid hal
  have H0 := Lib.hid (Blk.new w 56 #[.int .i64 0, .int .i64 0, .slice none 0 0])
  have hlen := hr.len
  have HE := Lib.hid he
  have hv := enc_val he
  have hb := encB_len rs[i] he
  rw [hp] at HP
  clear hp hr he hal hr1
  obtain ⟨b, off, hA, _⟩ := HR.out.at_ (by omega)
  subst hA
  have hel : Tryz.prog.elem 64 = 67 := by kernel_rfl
  have hu : Tryz.prog.underlying 64 = some (.slice (Tryz.prog.elem 64)) := by kernel_rfl
  have hsl : ∀ W, (Instr.sliceAt 64 (.slice (some ⟨b, off, none⟩) n c) (some (.int .i64 (i : Int))) (some (.int .i64 ((i : Int) + 1))) none).run Tryz.prog W = .ok (.slice (some ⟨b, off + i * 3, none⟩) 1 (c - i)) W := fun W => by
    rw [run_sliceAt_slice (h := hu), run_slice_lh (ht := hu) (h0 := by omega) (h1 := by omega) (h2 := by omega), hel, Tryz.sizeOf67]
    have e1 : ((i : Int) + 1).toNat = i + 1 := by omega
    have e2 : (⟨b, off, none⟩ : Addr).add (i * 3) = ⟨b, off + i * 3, none⟩ := by unfold Addr.add; split <;> simp_all
    simp only [Result.andThen, sliced, Int.toNat_natCast, e1, if_neg (show ¬ c = i by omega), Option.map_some, e2, Nat.add_sub_cancel_left]
  clear hel hu
  have HRd := Lib.hid (fun W (hB : Below (w.alloc (.cells #[.int .i64 0, .int .i64 0, .slice none 0 0] 56)).heap.size (w.alloc (.cells #[.int .i64 0, .int .i64 0, .slice none 0 0] 56)) W) => ((HR.out.below hB).more hB.size).one_ hi)
  generalize rs[i] = r at *
  have HJb : Hid (joinB [r] = encB r ∧ joinE [r] = 0) := Lib.hid ⟨by simp [joinB], joinE_zero (fun x hx => by rw [List.mem_singleton] at hx; subst hx; exact HE.out)⟩
  have hi0 : (0 : Int) ≤ (i : Int) := by omega
  have hw1 : IntKind.i64.wrap ((i : Int) + 1) = (i : Int) + 1 := IntWalk.i64_in _ (by omega)
  have hilt : (i : Int) ≤ 1048576 := by omega
  go_enter Tryz.func65, Tryz.ntmps65
  go_wp2_with fail
  refine HP.out.mono ?_
  rintro e W1 ⟨rfl, hB⟩
  have HB1 := Lib.hid (HB0.out.trans (hB.mono (by simp)))
  have H1 := Lib.hid (H0.out.below hB (by simp))
  have hr1 := HRd.out W1 hB
  have HJ := Lib.hid (join_is W1 (some ⟨b, off + i * 3, none⟩) 1 (c - i) [r] hr1 (by omega) (fun x hx => by rw [List.mem_singleton] at hx; subst hx; omega) (fun m hm h => by
    have h1 := joinB_len ([r].take m) (fun x hx => by have := List.mem_of_mem_take hx; rw [List.mem_singleton] at this; subst this; exact HE.out)
    have h2 : ([r].take m).length ≤ 1 := by simp; omega
    omega))
  clear hB hr1 HRd HP HB0 H0
  go_wp2_with fail
  refine HJ.out.mono ?_
  rintro e W2 ⟨hB, hp⟩
  rw [if_pos HJb.out.2, HJb.out.1] at hp
  obtain ⟨v, rfl, hO⟩ := hp
  obtain ⟨A3, c3, rfl, _⟩ := hO.at_
  generalize hn3 : (encB r).length = n3 at *
  have hlt : w.heap.size < W1.heap.size := H1.out.lt
  have HB2 := Lib.hid (HB1.out.trans (hB.mono HB1.out.size))
  have H2 := Lib.hid (H1.out.below hB H1.out.lt)
  have hg3 := below_setRow W2 w.heap.size #[.int .i64 3, .int .i64 9, .slice A3 n3 c3] (Nat.le_refl _)
  have g3 : W2.grownBy (W2.setRow w.heap.size #[.int .i64 3, .int .i64 9, .slice A3 n3 c3]) (some w.heap.size) := ⟨hg3.os, hg3.tape, hg3.output, hg3.size, fun i hi hne => setRow_other _ _ _ _ (fun e => hne (by rw [e]))⟩
  have HEnd : Hid (FofP w (encB r) (.returned (.agg #[.int .i64 3, .int .i64 9, .slice A3 n3 c3])) (W2.setRow w.heap.size #[.int .i64 3, .int .i64 9, .slice A3 n3 c3])) := Lib.hid ⟨A3, n3, c3, rfl, (hO.far g3 hlt).low (Nat.le_of_lt hlt), HB2.out.trans hg3⟩
  clear hB hO hn3 hg3 g3 HJ HB1 H1
  go_wp2_with (first
    | (refine fault_store5 rfl _ _ rfl w.heap.size 3 9 A3 n3 c3 rfl rfl 56 _ H2.out rfl ?_)
    | fail)
  try simp only [Exit.inBlock, Exit.then]
  exact bodyPost_ret (results_cell_row rfl _ _ w.heap.size 56 _ (0, 0) _ rfl (H2.out.setRow _) Tryz.underlying56 rfl (by rw [fsz]; rfl)) rfl HEnd.out

/-! classOf. -/
def sdg (s : Sd) (A : Option Addr) (c : Nat) : List Value := sdc s.nv s.nl (.slice A s.rs.length c) s.wr
theorem ints3 (W : World) (a b c : Int) : ∀ j (hj : j < [a, b, c].length), (W.alloc (.cells #[.int .i64 a, .int .i64 b, .int .i64 c] 3)).cell? ⟨W.heap.size, 0 + j, none⟩ = some (.int .i64 [a, b, c][j]) := by
  intro j hj
  rw [Nat.zero_add, (Blk.new W 3 #[.int .i64 a, .int .i64 b, .int .i64 c]).cell]
  match j, hj with
  | 0, _ => rfl
  | 1, _ => rfl
  | 2, _ => rfl
set_option maxHeartbeats 1000000 in
theorem classOf7_is (w : World) (A : Option Addr) (n c : Nat) (rs : List Raw) (hr : RdR w w.heap.size A n rs) (hn : n ≤ 1048576) (g t : Sd) (hg : g.nl.length = 16) (ht : t.nl.length = 16) (Ag : Option Addr) (cg : Nat) (At : Option Addr) (ct : Nat) :
    Calls Tryz.prog 66 #[.slice A n c, .agg (sdg g Ag cg).toArray, .agg (sdg t At ct).toArray] w fun e w' => e = .returned (.int .i64 (classR rs g t)) ∧ Below w.heap.size w w' := by
  have hal : Below w.heap.size w ((w.alloc (.cells (sdg g Ag cg).toArray 108)).alloc (.cells (sdg t At ct).toArray 108)) := ((Below.refl w.heap.size w).alloc (Nat.le_refl _) _).alloc (by simp) _
  have h4 := (Blk.new w 108 (sdg g Ag cg).toArray).alloc (.cells (sdg t At ct).toArray 108)
  have h5 : Blk ((w.alloc (.cells (sdg g Ag cg).toArray 108)).alloc (.cells (sdg t At ct).toArray 108)) (w.heap.size + 1) 108 (sdg t At ct).toArray := by simpa using Blk.new (w.alloc (.cells (sdg g Ag cg).toArray 108)) 108 (sdg t At ct).toArray
  have HB0 := Lib.hid hal
  have H4 := Lib.hid h4
  have H5 := Lib.hid h5
  have HRr := Lib.hid (fun W (hB : Below w.heap.size w W) => (hr.below hB).more hB.size)
  have HC : Hid (classR rs g t = if t.rs ≠ [] ∧ (hasK rs 1 && (hasK rs 2 && hasK rs 5)) = false then 2 else if 0 < g.wr ∨ 0 < t.wr then 1 else 0) := Lib.hid rfl
  have HAll : Hid ([1, 2, 5].all (hasK rs) = (hasK rs 1 && (hasK rs 2 && hasK rs 5))) := Lib.hid (by simp)
  have c5r : ∀ W, Blk W (w.heap.size + 1) 108 (sdg t At ct).toArray → W.cell? ⟨w.heap.size + 1, 17, none⟩ = some (.slice At t.rs.length ct) := fun W h => by rw [h.cell]; exact sdc_17 ht
  have c5w : ∀ W, Blk W (w.heap.size + 1) 108 (sdg t At ct).toArray → W.cell? ⟨w.heap.size + 1, 18, none⟩ = some (.int .i64 t.wr) := fun W h => by rw [h.cell]; exact sdc_18 ht
  have c4w : ∀ W, Blk W w.heap.size 108 (sdg g Ag cg).toArray → W.cell? ⟨w.heap.size, 18, none⟩ = some (.int .i64 g.wr) := fun W h => by rw [h.cell]; exact sdc_18 hg
  have C5R := Lib.hid c5r
  have C5W := Lib.hid c5w
  have C4W := Lib.hid c4w
  have HTe : Hid (t.rs = [] ↔ t.rs.length = 0) := Lib.hid ⟨fun h => by rw [h]; rfl, List.eq_nil_of_length_eq_zero⟩
  clear hal h4 h5 hr c5r c5w c4w hg ht
  generalize classR rs g t = cl at *
  generalize sdg g Ag cg = sg at *
  generalize sdg t At ct = st at *
  generalize hnt : t.rs.length = nt at *
  generalize (hasK rs 1 && (hasK rs 2 && hasK rs 5)) = hb at *
  have q17 := C5R.out _ H5.out
  have q18 := C5W.out _ H5.out
  have q4 := C4W.out _ H4.out
  have hBal : Hid (Below (w.heap.size + 2) ((w.alloc (.cells sg.toArray 108)).alloc (.cells st.toArray 108)) (((w.alloc (.cells sg.toArray 108)).alloc (.cells st.toArray 108)).alloc (.cells #[.int .i64 1, .int .i64 2, .int .i64 5] 3))) := Lib.hid ((Below.refl _ _).alloc (by simp) _)
  have HStand : Hid (Calls Tryz.prog _ _ (((w.alloc (.cells sg.toArray 108)).alloc (.cells st.toArray 108)).alloc (.cells #[.int .i64 1, .int .i64 2, .int .i64 5] 3)) _) := Lib.hid (standAll_is (((w.alloc (.cells sg.toArray 108)).alloc (.cells st.toArray 108)).alloc (.cells #[.int .i64 1, .int .i64 2, .int .i64 5] 3)) A n c rs (HRr.out _ (HB0.out.trans (hBal.out.mono (by omega)))) hn ((w.alloc (.cells sg.toArray 108)).alloc (.cells st.toArray 108)).heap.size [1, 2, 5] (by simp) (ints3 ((w.alloc (.cells sg.toArray 108)).alloc (.cells st.toArray 108)) 1 2 5) (by simp) 3)
  rw [HAll.out, show ((w.alloc (.cells sg.toArray 108)).alloc (.cells st.toArray 108)).heap.size = w.heap.size + 1 + 1 by simp] at HStand
  simp only [List.length_cons, List.length_nil, Nat.zero_add, Nat.reduceAdd] at HStand
  rcases Nat.eq_zero_or_pos nt with h0 | h0
  · subst h0
    have HC2 : Hid (cl = if 0 < g.wr ∨ 0 < t.wr then 1 else 0) := Lib.hid (by rw [HC.out, if_neg (fun h => h.1 (HTe.out.2 rfl))])
    clear HStand
    rcases (show 0 < g.wr ∨ ((¬ 0 < g.wr ∧ 0 < t.wr) ∨ (¬ 0 < g.wr ∧ ¬ 0 < t.wr)) by omega) with h | ⟨h, h2⟩ | ⟨h, h2⟩
    · have HR : Hid (cl = 1) := Lib.hid (by rw [HC2.out, if_pos (Or.inl h)])
      have e1 : (g.wr : Int) > 0 := by omega
      go_enter Tryz.func66, Tryz.ntmps66
      go_wp2
      go_ret
      exact ⟨by rw [HR.out]; rfl, HB0.out⟩
    · have HR : Hid (cl = 1) := Lib.hid (by rw [HC2.out, if_pos (Or.inr h2)])
      have e1 : ¬ ((g.wr : Int) > 0) := by omega
      have e2 : (t.wr : Int) > 0 := by omega
      go_enter Tryz.func66, Tryz.ntmps66
      go_wp2
      go_ret
      exact ⟨by rw [HR.out]; rfl, HB0.out⟩
    · have HR : Hid (cl = 0) := Lib.hid (by rw [HC2.out, if_neg (by omega)])
      have e1 : ¬ ((g.wr : Int) > 0) := by omega
      have e2 : ¬ ((t.wr : Int) > 0) := by omega
      go_enter Tryz.func66, Tryz.ntmps66
      go_wp2
      go_ret
      exact ⟨by rw [HR.out]; rfl, HB0.out⟩
  · have e0 : (nt : Int) > 0 := by omega
    have HNe : Hid (t.rs ≠ []) := Lib.hid (fun h => by have := HTe.out.1 h; omega)
    cases hb
    · have HR : Hid (cl = 2) := Lib.hid (by rw [HC.out, if_pos ⟨HNe.out, rfl⟩])
      clear q18 q4
      go_enter Tryz.func66, Tryz.ntmps66
      go_wp2_with fail
      refine HStand.out.mono ?_
      rintro e W2 ⟨rfl, hB⟩
      have HB2 := Lib.hid (HB0.out.trans ((hBal.out.trans (hB.mono (by simp))).mono (by omega)))
      clear hB q17
      go_wp2
      go_ret
      exact ⟨by rw [HR.out]; rfl, HB2.out⟩
    · have HC2 : Hid (cl = if 0 < g.wr ∨ 0 < t.wr then 1 else 0) := Lib.hid (by rw [HC.out, if_neg (fun h => absurd h.2 (by decide))])
      clear q18 q4
      rcases (show 0 < g.wr ∨ ((¬ 0 < g.wr ∧ 0 < t.wr) ∨ (¬ 0 < g.wr ∧ ¬ 0 < t.wr)) by omega) with h | ⟨h, h2⟩ | ⟨h, h2⟩
      · have HR : Hid (cl = 1) := Lib.hid (by rw [HC2.out, if_pos (Or.inl h)])
        have e1 : (g.wr : Int) > 0 := by omega
        go_enter Tryz.func66, Tryz.ntmps66
        go_wp2_with fail
        refine HStand.out.mono ?_
        rintro e W2 ⟨rfl, hB⟩
        have HB2 := Lib.hid (HB0.out.trans ((hBal.out.trans (hB.mono (by simp))).mono (by omega)))
        have hs2 : w.heap.size + 2 ≤ ((w.alloc (.cells sg.toArray 108)).alloc (.cells st.toArray 108)).heap.size := by simp
        have hB2 := hBal.out.trans (hB.mono (by simp))
        have H42 := Lib.hid (H4.out.below hB2 (by omega))
        have H52 := Lib.hid (H5.out.below hB2 (by omega))
        have d4 := C4W.out _ H42.out
        have d5 := C5W.out _ H52.out
        clear hB hB2 q17 hs2
        go_wp2
        go_ret
        exact ⟨by rw [HR.out]; rfl, HB2.out⟩
      · have HR : Hid (cl = 1) := Lib.hid (by rw [HC2.out, if_pos (Or.inr h2)])
        have e1 : ¬ ((g.wr : Int) > 0) := by omega
        have e2 : (t.wr : Int) > 0 := by omega
        go_enter Tryz.func66, Tryz.ntmps66
        go_wp2_with fail
        refine HStand.out.mono ?_
        rintro e W2 ⟨rfl, hB⟩
        have HB2 := Lib.hid (HB0.out.trans ((hBal.out.trans (hB.mono (by simp))).mono (by omega)))
        have hs2 : w.heap.size + 2 ≤ ((w.alloc (.cells sg.toArray 108)).alloc (.cells st.toArray 108)).heap.size := by simp
        have hB2 := hBal.out.trans (hB.mono (by simp))
        have H42 := Lib.hid (H4.out.below hB2 (by omega))
        have H52 := Lib.hid (H5.out.below hB2 (by omega))
        have d4 := C4W.out _ H42.out
        have d5 := C5W.out _ H52.out
        clear hB hB2 q17 hs2
        go_wp2
        go_ret
        exact ⟨by rw [HR.out]; rfl, HB2.out⟩
      · have HR : Hid (cl = 0) := Lib.hid (by rw [HC2.out, if_neg (by omega)])
        have e1 : ¬ ((g.wr : Int) > 0) := by omega
        have e2 : ¬ ((t.wr : Int) > 0) := by omega
        go_enter Tryz.func66, Tryz.ntmps66
        go_wp2_with fail
        refine HStand.out.mono ?_
        rintro e W2 ⟨rfl, hB⟩
        have HB2 := Lib.hid (HB0.out.trans ((hBal.out.trans (hB.mono (by simp))).mono (by omega)))
        have hs2 : w.heap.size + 2 ≤ ((w.alloc (.cells sg.toArray 108)).alloc (.cells st.toArray 108)).heap.size := by simp
        have hB2 := hBal.out.trans (hB.mono (by simp))
        have H42 := Lib.hid (H4.out.below hB2 (by omega))
        have H52 := Lib.hid (H5.out.below hB2 (by omega))
        have d4 := C4W.out _ H42.out
        have d5 := C5W.out _ H52.out
        clear hB hB2 q17 hs2
        go_wp2
        go_ret
        exact ⟨by rw [HR.out]; rfl, HB2.out⟩
end Go.Proofs.YtdgoeibfggjbmaaGreatDoor
