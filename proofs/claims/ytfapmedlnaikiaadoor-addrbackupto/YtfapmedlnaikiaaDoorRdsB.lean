/-
  The document's answer, layer 2: ParseRd.
-/
import Derived.Test.YtfapmedlnaikiaaDoorRdsA
import Derived.Test.YtfapmedlnaikiaaDoorRefE
namespace Go.Proofs.YtfapmedlnaikiaaDoor
open Go.RowKit
set_option linter.unusedSimpArgs false
set_option linter.unusedVariables false

theorem fit0 {t l : List UInt8} {a b : Int} (hb : digits t 4294967295 = some b) (ha : digits l 65535 = some a) : FitRd 0 a b := by
  have h1 := digits_lt _ _ _ hb
  have h2 := digits_lt _ _ _ ha
  exact .inl ⟨rfl, by omega, by omega, by omega, by omega⟩
theorem rd4 {w : World} {b B : Nat} {t : TypeId} {l : List Int} (h : Blk w b t (u8s l).toArray) (ho : Oct l) (hl : l.length = 4) (hB : b < B) : Rd w B (some ⟨b, 0, none⟩) 4 l := by
  refine ⟨hl, ho, fun _ => ⟨_, _, rfl, hB, fun i hi => ?_⟩⟩
  rw [Nat.zero_add, h.cell]
  simp [List.getD, show i < l.length by omega]
theorem extract_take (s : ByteArray) (k : Nat) : (s.extract 0 k).data.toList = s.data.toList.take k := Lib.extract_from_zero s k
set_option maxHeartbeats 8000000 in
set_option maxRecDepth 100000 in
theorem rprd_is (w : World) (s : ByteArray) (hs : s.size ≤ 4294967295) : Calls Tryd.prog 46 #[.string s] w (PRd w (rdRd s)) := by
  have HL := Lib.hid (str_len s)
  have HR := Lib.hid (Blk.new w 60 zr8)
  have HW : Hid (Below w.heap.size w (w.alloc (.cells zr8 60))) := Lib.hid ((Below.refl _ _).alloc (Nat.le_refl _) _)
  have HNo := Lib.hid (rd_no s)
  have HCut := Lib.hid (rd_cut s)
  generalize rdRd s = out at *
  go_enter Tryd.func46, Tryd.ntmps46
  go_wp2
  go_loop [4] (fun i => ∃ k : Nat, k ≤ s.size ∧ i = .int .i64 k ∧ (58 : UInt8) ∉ s.data.toList.take k) (fun i => s.size - (intOf i).toNat)
  case atStart => exact ⟨0, Nat.zero_le _, rfl, by simp⟩
  case round =>
    obtain ⟨k, hk, rfl, hno⟩ := hrel
    have HN := Lib.hid hno
    clear hno
    by_cases hlt : k < s.size
    · have hg := str_get s k hlt
      by_cases hc : s[k] = 58
      · have HO := Lib.hid (HCut.out k hlt hc HN.out)
        have hq : ((s[k].toNat : Int) != 58) = false := by rw [hc]; rfl
        have hke : ((k : Int) == (s.size : Int)) = false := by rw [beq_eq_false_iff_ne]; omega
        have hx1 : (s.extract 0 k).size ≤ s.size := by rw [ByteArray.size_extract]; omega
        have HX := Lib.hid (extract_take s k)
        have hLast : (¬ (k : Int) > 0 ∧ ¬ ∃ l, (s.extract 0 k).data.toList = l ++ [76]) ∨ (0 < k ∧ ∃ h : k - 1 < s.size, ((s[k - 1].toNat : Int) == 76) = false ∧ ¬ ∃ l, (s.extract 0 k).data.toList = l ++ [76]) ∨ (0 < k ∧ ∃ h : k - 1 < s.size, ((s[k - 1].toNat : Int) == 76) = true ∧ (s.extract 0 k).data.toList = (s.extract 0 (k - 1)).data.toList ++ [76]) := by
          rcases Nat.eq_zero_or_pos k with h0 | h0
          · refine .inl ⟨by omega, ?_⟩
            rintro ⟨l, hl⟩
            rw [extract_take, h0, List.take_zero] at hl
            simp at hl
          · have hp : k - 1 < s.size := by omega
            have ht : s.data.toList.take k = s.data.toList.take (k - 1) ++ [s[k - 1]] := by
              have := take_snoc s (k - 1) hp
              rwa [show k - 1 + 1 = k by omega] at this
            by_cases h76 : s[k - 1] = 76
            · refine .inr (.inr ⟨h0, hp, by rw [h76]; rfl, ?_⟩)
              rw [extract_take, extract_take, ht, h76]
            · refine .inr (.inl ⟨h0, hp, ?_, ?_⟩)
              · rw [beq_eq_false_iff_ne]
                intro e
                apply h76
                apply UInt8.toNat_inj.1
                have : ((76 : UInt8).toNat) = 76 := rfl
                omega
              · rintro ⟨l, hl⟩
                rw [extract_take, ht] at hl
                have := (List.append_inj_right' hl rfl)
                simp at this
                exact h76 this
        have HLast := Lib.hid hLast
        have W1 := Lib.hid (way_none (s.extract 0 k) (s.extract (k + 1) s.size).data.toList)
        have W2 := Lib.hid (fun a b => way_short (s.extract 0 k) (s.extract (k + 1) s.size).data.toList a b)
        have W3 := Lib.hid (fun b => way_big (s.extract 0 k) (s.extract (k + 1) s.size).data.toList b)
        have W4 := Lib.hid (fun b f => way_ip (s.extract 0 k) (s.extract (k + 1) s.size).data.toList b f)
        have W5 := Lib.hid (fun l b => way_long (s.extract 0 k) (s.extract (k + 1) s.size).data.toList l b)
        have W6 := Lib.hid (way_else (s.extract 0 k) (s.extract (k + 1) s.size).data.toList)
        rw [← HO.out] at W1 W2 W3 W4 W5 W6
        clear HO hc hg hLast HNo HCut HN HX
        go_wp2_with fail
        refine (rdg_is _ (s.extract (k + 1) s.size) 4294967295 (by omega) (by omega)).mono ?_
        rintro e w' ⟨rfl, rfl⟩
        generalize (s.extract (k + 1) s.size).data.toList = tl at *
        cases hb : digits tl 4294967295 with
        | none =>
          have HN : Hid (out = none) := Lib.hid (W1.out hb)
          clear hb W1 W2 W3 W4 W5 W6 HLast
          simp only [digV, Option.getD_none, Option.isSome_none]
          go_wp2_with (refine rd_store rfl _ _ rfl w.heap.size (List.replicate 8 0) rfl rfl rfl 60 zr8 HR.out rfl ?_)
          refine bodyPost_ret (v := rdE none) ?_ rfl ⟨by rw [HN.out], HW.out.trans (below_setRow _ _ _ (Nat.le_refl _))⟩
          exact results_cell_slot rfl _ _ w.heap.size 60 _ _ _ rfl rfl (Blk.setRow HR.out _) Tryd.underlying60 rfl (by kernel_rfl)
        | some b =>
          have hbb := digits_lt _ _ _ hb
          simp only [digV, Option.getD_some, Option.isSome_some]
          go_wp2_with fail
          refine (rdg_is _ (s.extract 0 k) 65535 (by omega) (by omega)).mono ?_
          rintro e w' ⟨rfl, rfl⟩
          cases ha : digits (s.extract 0 k).data.toList 65535 with
          | some a =>
            have HN : Hid (out = some (rdB 0 (a * (most 0 + 1) + b))) := Lib.hid (W2.out a b hb ha)
            have HF := Lib.hid (fit0 hb ha)
            clear hb ha W1 W2 W3 W4 W5 W6 HLast
            simp only [digV, Option.getD_some, Option.isSome_some]
            go_wp2_with fail
            refine (rrd_is _ 0 a b HF.out).mono ?_
            rintro e w1 ⟨rfl, hB⟩
            rw [show (w.alloc (.cells zr8 60)).heap.size = w.heap.size + 1 by simp] at hB
            have HR1 := Lib.hid (HR.out.below hB (by omega))
            have HW1 := Lib.hid (HW.out.trans (hB.mono (by omega)))
            have hl := rdB_len 0 (a * (most 0 + 1) + b)
            clear hB HR HW
            generalize rdB 0 (a * (most 0 + 1) + b) = l at *
            go_wp2_with (refine rd_store rfl _ _ rfl w.heap.size l hl rfl rfl 60 zr8 HR1.out rfl ?_)
            refine bodyPost_ret (v := rdE (some l)) ?_ rfl ⟨by rw [HN.out], HW1.out.trans (below_setRow _ _ _ (Nat.le_refl _))⟩
            exact results_cell_slot rfl _ _ w.heap.size 60 _ _ _ rfl rfl (Blk.setRow HR1.out _) Tryd.underlying60 rfl (rd_size l hl)
          | none =>
            simp only [digV, Option.getD_none, Option.isSome_none]
            by_cases hbig : 65535 < b
            · have HN : Hid (out = none) := Lib.hid (W3.out b hb ha hbig)
              have hbg : b > 65535 := hbig
              clear hb ha W1 W2 W3 W4 W5 W6 HLast
              go_wp2_with (refine rd_store rfl _ _ rfl w.heap.size (List.replicate 8 0) rfl rfl rfl 60 zr8 HR.out rfl ?_)
              refine bodyPost_ret (v := rdE none) ?_ rfl ⟨by rw [HN.out], HW.out.trans (below_setRow _ _ _ (Nat.le_refl _))⟩
              exact results_cell_slot rfl _ _ w.heap.size 60 _ _ _ rfl rfl (Blk.setRow HR.out _) Tryd.underlying60 rfl (by kernel_rfl)
            · have hbg : ¬ b > 65535 := hbig
              have hb5 : b ≤ 65535 := by omega
              have HB := Lib.hid hb
              have HA := Lib.hid ha
              clear hb ha W1 W2 W3
              go_wp2_with fail
              refine (uf_is _ (s.extract 0 k) (by omega)).mono ?_
              rintro e w1 ⟨l, bb, rfl, hl4, hlo, hun, hB⟩
              rw [show (w.alloc (.cells zr8 60)).heap.size = w.heap.size + 1 by simp] at hB
              have HR1 := Lib.hid (HR.out.below hB (by omega))
              have HW1 := Lib.hid (HW.out.trans (hB.mono (by omega)))
              have hs1 : w.heap.size < w1.heap.size := by
                have := hB.size
                rw [show (w.alloc (.cells zr8 60)).heap.size = w.heap.size + 1 by simp] at this
                omega
              have hq1 : Below w1.heap.size w1 ((w1.alloc (.cells zr4 86)).setRow w1.heap.size (u8s l).toArray) := ((Below.refl _ w1).alloc (Nat.le_refl _) _).trans (below_setRow _ _ _ (Nat.le_refl _))
              have HR2 := Lib.hid (HR1.out.below hq1 hs1)
              have HW2 := Lib.hid (HW1.out.trans (hq1.mono (by omega)))
              have HF4 := Lib.hid (Blk.setRow (Blk.new w1 86 zr4) (u8s l).toArray)
              have hz2 : ((w1.alloc (.cells zr4 86)).setRow w1.heap.size (u8s l).toArray).heap.size = w1.heap.size + 1 := by rw [size_sra]
              have HZ2 := Lib.hid hz2
              have HUn := Lib.hid hun
              have HLo := Lib.hid hlo
              clear hB HR HW hq1 HR1 HW1 hun hlo hz2
              cases bb with
              | true =>
                have HN : Hid (out = some (rdB 1 (numOf l * (most 1 + 1) + b))) := Lib.hid (W4.out b l HB.out hb5 HUn.out)
                have hnb : 0 ≤ numOf l ∧ numOf l ≤ 4294967295 := by
                  have := numOf_bd l HLo.out
                  rw [hl4] at this
                  exact ⟨this.1, by omega⟩
                have HF : Hid (FitRd 1 (numOf l) b) := Lib.hid (.inr ⟨.inl rfl, hnb.1, hnb.2, hbb.1, hb5⟩)
                have HSl : Hid (∀ W, (Instr.sliceAt 86 (.pointer (some ⟨w1.heap.size, 0, none⟩)) none none none).run Tryd.prog W = .ok (.slice (some ⟨w1.heap.size, 0, none⟩) 4 4) W) := Lib.hid (by
                  intro W
                  go_simp)
                clear W4 W5 W6 HUn HB HA HLast
                go_wp2_with (refine f4_store rfl _ _ rfl w1.heap.size l hl4 rfl rfl 86 zr4 (Blk.new w1 86 zr4) rfl ?_)
                refine (rnum_is _ (w1.heap.size + 1) _ 4 4 l (rd4 HF4.out HLo.out hl4 (by omega)) (by omega)).mono ?_
                rintro e w' ⟨rfl, rfl⟩
                go_wp2_with fail
                refine (rrd_is _ 1 (numOf l) b HF.out).mono ?_
                rintro e w3 ⟨rfl, hB⟩
                rw [HZ2.out] at hB
                have HR3 := Lib.hid (HR2.out.below hB (by omega))
                have HW3 := Lib.hid (HW2.out.trans (hB.mono (by omega)))
                have hl := rdB_len 1 (numOf l * (most 1 + 1) + b)
                clear hB HR2 HW2 HF4 HZ2
                generalize rdB 1 (numOf l * (most 1 + 1) + b) = m at *
                go_wp2_with (refine rd_store rfl _ _ rfl w.heap.size m hl rfl rfl 60 zr8 HR3.out rfl ?_)
                refine bodyPost_ret (v := rdE (some m)) ?_ rfl ⟨by rw [HN.out], HW3.out.trans (below_setRow _ _ _ (Nat.le_refl _))⟩
                exact results_cell_slot rfl _ _ w.heap.size 60 _ _ _ rfl rfl (Blk.setRow HR3.out _) Tryd.underlying60 rfl (rd_size m hl)
              | false =>
                clear W4 HF4
                rcases HLast.out with ⟨hk0, hnl⟩ | ⟨hk0, hp, h76, hnl⟩ | ⟨hk0, hp, h76, hlst⟩
                · have HN : Hid (out = none) := Lib.hid (W6.out HA.out HUn.out hnl)
                  clear W5 W6 HUn HB HA HLast hnl
                  go_wp2_with (first
                    | (refine f4_store rfl _ _ rfl w1.heap.size l hl4 rfl rfl 86 zr4 (Blk.new w1 86 zr4) rfl ?_)
                    | (refine rd_store rfl _ _ rfl w.heap.size (List.replicate 8 0) rfl rfl rfl 60 zr8 HR2.out rfl ?_))
                  refine bodyPost_ret (v := rdE none) ?_ rfl ⟨by rw [HN.out], HW2.out.trans (below_setRow _ _ _ (Nat.le_refl _))⟩
                  exact results_cell_slot rfl _ _ w.heap.size 60 _ _ _ rfl rfl (Blk.setRow HR2.out _) Tryd.underlying60 rfl (by kernel_rfl)
                · have HN : Hid (out = none) := Lib.hid (W6.out HA.out HUn.out hnl)
                  have hk1 : (k : Int) > 0 := by omega
                  have m1 : (k : Int) - 1 = ((k - 1 : Nat) : Int) := by omega
                  clear W5 W6 HUn HB HA HLast hnl
                  generalize k - 1 = p at *
                  go_wp2_with (first
                    | (refine f4_store rfl _ _ rfl w1.heap.size l hl4 rfl rfl 86 zr4 (Blk.new w1 86 zr4) rfl ?_)
                    | (refine rd_store rfl _ _ rfl w.heap.size (List.replicate 8 0) rfl rfl rfl 60 zr8 HR2.out rfl ?_))
                  refine bodyPost_ret (v := rdE none) ?_ rfl ⟨by rw [HN.out], HW2.out.trans (below_setRow _ _ _ (Nat.le_refl _))⟩
                  exact results_cell_slot rfl _ _ w.heap.size 60 _ _ _ rfl rfl (Blk.setRow HR2.out _) Tryd.underlying60 rfl (by kernel_rfl)
                · have HN : Hid (out = (digits (s.extract 0 (k - 1)).data.toList 4294967295).map fun a => rdB 2 (a * (most 2 + 1) + b)) := Lib.hid (W5.out _ b HB.out hb5 HUn.out hlst)
                  have hk1 : (k : Int) > 0 := by omega
                  have m1 : (k : Int) - 1 = ((k - 1 : Nat) : Int) := by omega
                  have hpk : k - 1 ≤ k := by omega
                  clear W5 W6 HUn HB HA HLast hlst
                  generalize k - 1 = p at *
                  go_wp2_with (refine f4_store rfl _ _ rfl w1.heap.size l hl4 rfl rfl 86 zr4 (Blk.new w1 86 zr4) rfl ?_)
                  refine (rdg_is _ (s.extract 0 p) 4294967295 (by omega) (by omega)).mono ?_
                  rintro e w' ⟨rfl, rfl⟩
                  cases hd : digits (s.extract 0 p).data.toList 4294967295 with
                  | none =>
                    have HN2 : Hid (out = none) := Lib.hid (by rw [HN.out, hd]; rfl)
                    clear HN hd
                    simp only [digV, Option.getD_none, Option.isSome_none]
                    go_wp2_with (refine rd_store rfl _ _ rfl w.heap.size (List.replicate 8 0) rfl rfl rfl 60 zr8 HR2.out rfl ?_)
                    refine bodyPost_ret (v := rdE none) ?_ rfl ⟨by rw [HN2.out], HW2.out.trans (below_setRow _ _ _ (Nat.le_refl _))⟩
                    exact results_cell_slot rfl _ _ w.heap.size 60 _ _ _ rfl rfl (Blk.setRow HR2.out _) Tryd.underlying60 rfl (by kernel_rfl)
                  | some a =>
                    have HN2 : Hid (out = some (rdB 2 (a * (most 2 + 1) + b))) := Lib.hid (by rw [HN.out, hd]; rfl)
                    have hab := digits_lt _ _ _ hd
                    have HF : Hid (FitRd 2 a b) := Lib.hid (.inr ⟨.inr rfl, hab.1, hab.2, hbb.1, hb5⟩)
                    clear HN hd
                    simp only [digV, Option.getD_some, Option.isSome_some]
                    go_wp2_with fail
                    refine (rrd_is _ 2 a b HF.out).mono ?_
                    rintro e w3 ⟨rfl, hB⟩
                    rw [HZ2.out] at hB
                    have HR3 := Lib.hid (HR2.out.below hB (by omega))
                    have HW3 := Lib.hid (HW2.out.trans (hB.mono (by omega)))
                    have hl := rdB_len 2 (a * (most 2 + 1) + b)
                    clear hB HR2 HW2 HZ2
                    generalize rdB 2 (a * (most 2 + 1) + b) = m at *
                    go_wp2_with (refine rd_store rfl _ _ rfl w.heap.size m hl rfl rfl 60 zr8 HR3.out rfl ?_)
                    refine bodyPost_ret (v := rdE (some m)) ?_ rfl ⟨by rw [HN2.out], HW3.out.trans (below_setRow _ _ _ (Nat.le_refl _))⟩
                    exact results_cell_slot rfl _ _ w.heap.size 60 _ _ _ rfl rfl (Blk.setRow HR3.out _) Tryd.underlying60 rfl (rd_size m hl)
      · have hq : ((s[k].toNat : Int) != 58) = true := by
          rw [bne_iff_ne]
          intro e
          apply hc
          apply UInt8.toNat_inj.1
          have : ((58 : UInt8).toNat) = 58 := rfl
          omega
        have HN2 : Hid ((58 : UInt8) ∉ s.data.toList.take (k + 1)) := Lib.hid (by
          rw [take_snoc s k hlt]
          intro hm
          rcases List.mem_append.1 hm with hm | hm
          · exact HN.out hm
          · simp at hm; exact hc hm.symm)
        clear hc hg HN
        go_wp2
        exact ⟨⟨k + 1, by omega, by go_num, HN2.out⟩, by simp [intOf]; omega⟩
    · obtain rfl : k = s.size := by omega
      have HO : Hid (out = none) := Lib.hid (HNo.out (by have h := HN.out; rwa [← HL.out, List.take_length] at h))
      clear HNo HCut HN HL
      go_wp2_with (refine rd_store rfl _ _ rfl w.heap.size (List.replicate 8 0) rfl rfl rfl 60 zr8 HR.out rfl ?_)
      refine bodyPost_ret (v := rdE none) ?_ rfl ⟨by rw [HO.out], HW.out.trans (below_setRow _ _ _ (Nat.le_refl _))⟩
      exact results_cell_slot rfl _ _ w.heap.size 60 _ _ _ rfl rfl (Blk.setRow HR.out _) Tryd.underlying60 rfl (by kernel_rfl)
end Go.Proofs.YtfapmedlnaikiaaDoor
