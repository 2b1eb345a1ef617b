/-
  Put together: RefL RefN RefO NrA NrB NrC NrD.
-/
import Derived.Test.YtickcfcncpnaiaaMD
import Derived.Test.YtickcfcncpnaiaaMC
import Derived.Deep.RegionHeld3
import Derived.Test.YtickcfcncpnaiaaMN
import Derived.Test.YtickcfcncpnaiaaMV
import Derived.Deep.DeepCutAuto
import Derived.Test.YtickcfcncpnaiaaMP
import Derived.Test.YtickcfcncpnaiaaMB
namespace Go.Proofs.Ytickcfcncpnaiaa
open Go.RowKit
set_option maxRecDepth 100000
set_option linter.unusedSimpArgs false
set_option linter.unusedVariables false

theorem right_allL (l : List Int) (hl : l.length = 16) (h : ∀ j, 4 ≤ j → j < 16 → l.getD j 0 = 0) : rightB false l = true := by
  unfold rightB
  rw [Bool.false_or, decide_eq_true_eq]
  apply List.ext_getElem
  · simp; omega
  · intro i h1 h2
    have h3 : i < 12 := by simpa using h2
    have := h (4 + i) (by omega) (by omega)
    rw [List.getD_eq_getElem?_getD, List.getElem?_eq_getElem (by omega)] at this
    simp only [List.getElem_drop, List.getElem_replicate]
    exact this
theorem right_notL (l : List Int) (hl : l.length = 16) (k : Nat) (h4 : 4 ≤ k) (h16 : k < 16) (h : l.getD k 0 ≠ 0) : rightB false l = false := by
  cases hr : rightB false l
  · rfl
  · exfalso
    unfold rightB at hr
    rw [Bool.false_or, decide_eq_true_eq] at hr
    apply h
    have : (l.drop 4)[k - 4]? = some 0 := by rw [hr, List.getElem?_replicate, if_pos (by omega)]
    rw [List.getElem?_drop, show 4 + (k - 4) = k by omega] at this
    rw [List.getD_eq_getElem?_getD, this]
    rfl
theorem ipc_cellL (v : Bool) (l : List Int) (k : Nat) (hk : k < l.length) : (ipc v l).toArray[1 + k]? = some (.int .u8 (l.getD k 0)) := by
  rw [Nat.add_comm]
  simp [List.getD, hk]
set_option maxHeartbeats 1000000 in
set_option maxRecDepth 100000 in
theorem rriL_is (w : World) (v : Bool) (l : List Int) (hl : l.length = 16) (ho : Oct l) :
    Calls Try.prog 33 #[.agg (ipc v l).toArray] w fun e w' => e = .returned (.bool (rightB v l)) ∧ Below w.heap.size w w' := by
  have HA := Lib.hid (Blk.new w 32 (ipc v l).toArray)
  have HL : Hid (Below w.heap.size w (w.alloc (.cells (ipc v l).toArray 32))) := Lib.hid ((Below.refl _ _).alloc (Nat.le_refl _) _)
  go_enter Try.func33, Try.ntmps33
  go_wp2
  go_loop [3] (fun i => ∃ k : Nat, 4 ≤ k ∧ k ≤ 16 ∧ i = .int .i64 k ∧ (v = true ∨ ∀ j, 4 ≤ j → j < k → l.getD j 0 = 0)) (fun i => 16 - (intOf i).toNat)
  case atStart => exact ⟨4, by omega, by omega, rfl, .inr (fun j h1 h2 => by omega)⟩
  case round =>
    obtain ⟨k, hk4, hk16, rfl, hall⟩ := hrel
    have HAll := Lib.hid hall
    clear hall
    have hc0 : (w.alloc (.cells (ipc v l).toArray 32)).cell? ⟨w.heap.size, 0, none⟩ = some (.bool v) := by rw [HA.out.cell]; rfl
    by_cases hlt : k < 16
    · have hck : (w.alloc (.cells (ipc v l).toArray 32)).cell? ⟨w.heap.size, 1 + k, none⟩ = some (.int .u8 (l.getD k 0)) := by rw [HA.out.cell, ipc_cellL v l k (by omega)]
      have hb := ho.getD k
      cases v with
      | true =>
        generalize w.alloc (.cells (ipc true l).toArray 32) = W at *
        generalize l.getD k 0 = y at *
        go_wp2
        exact ⟨⟨k + 1, by omega, by omega, by go_num, .inl (by simp)⟩, by simp [intOf]; omega⟩
      | false =>
        by_cases hz : l.getD k 0 = 0
        · have HN : Hid (∀ j, 4 ≤ j → j < k + 1 → l.getD j 0 = 0) := Lib.hid (by
            intro j h1 h2
            rcases HAll.out with h | h
            · cases h
            · rcases Nat.lt_or_ge j k with h3 | h3
              · exact h j h1 h3
              · rw [show j = k by omega]; exact hz)
          rw [hz] at hck
          generalize w.alloc (.cells (ipc false l).toArray 32) = W at *
          clear hz hb HAll
          go_wp2
          exact ⟨⟨k + 1, by omega, by omega, by go_num, .inr HN.out⟩, by simp [intOf]; omega⟩
        · have HN := Lib.hid (right_notL l hl k hk4 hlt hz)
          have hq : (l.getD k 0 != 0) = true := by simpa using hz
          generalize w.alloc (.cells (ipc false l).toArray 32) = W at *
          generalize l.getD k 0 = y at *
          clear HAll hz
          go_wp2
          go_ret
          exact ⟨by rw [HN.out]; rfl, HL.out⟩
    · obtain rfl : k = 16 := by omega
      have HN : Hid (rightB v l = true) := Lib.hid (by
        rcases HAll.out with h | h
        · rw [h]; rfl
        · cases v
          · exact right_allL l hl h
          · rfl)
      clear HAll
      go_wp2
      go_ret
      exact ⟨by rw [HN.out]; rfl, HL.out⟩
theorem rbitsL_is (w : World) (v : Bool) (l : List Int) :
    Calls Try.prog 54 #[.agg (ipc v l).toArray] w fun e w' => e = .returned (.int .i64 (bitsOf v)) ∧ Below w.heap.size w w' := by
  have hc0 : (w.alloc (.cells (ipc v l).toArray 32)).cell? ⟨w.heap.size, 0, none⟩ = some (.bool v) := by rw [(Blk.new w 32 (ipc v l).toArray).cell]; rfl
  have HL : Hid (Below w.heap.size w (w.alloc (.cells (ipc v l).toArray 32))) := Lib.hid ((Below.refl _ _).alloc (Nat.le_refl _) _)
  go_enter Try.func54, Try.ntmps54
  cases v
  · go_wp2
    go_ret
    exact ⟨rfl, HL.out⟩
  · go_wp2
    go_ret
    exact ⟨rfl, HL.out⟩

/-! Cut: bits are taken away one by one. -/
/-- b without its bits s to e - 1. -/
def clrB (b : Int) (s e : Nat) : Int := keepB b s + b % 2 ^ (8 - e)
theorem clr_step_all : ∀ b : Fin 256, ∀ s : Fin 9, ∀ e : Fin 8, s.val ≤ e.val → bits .andNot .u8 (clrB (b.val : Int) s.val e.val) (128 / 2 ^ e.val) = clrB (b.val : Int) s.val (e.val + 1) := by decide +kernel
theorem clr_step (b : Int) (s e : Nat) (h0 : 0 ≤ b) (h1 : b < 256) (hs : s ≤ e) (he : e < 8) : bits .andNot .u8 (clrB b s e) (128 / 2 ^ e) = clrB b s (e + 1) := by
  have := clr_step_all ⟨b.toNat, by omega⟩ ⟨s, by omega⟩ ⟨e, he⟩ hs
  simpa [Int.toNat_of_nonneg h0] using this
theorem clr_bd_all : ∀ b : Fin 256, ∀ s : Fin 9, ∀ e : Fin 9, s.val ≤ e.val → 0 ≤ clrB (b.val : Int) s.val e.val ∧ clrB (b.val : Int) s.val e.val < 256 := by decide +kernel
theorem clr_bd (b : Int) (s e : Nat) (h0 : 0 ≤ b) (h1 : b < 256) (hs : s ≤ e) (he : e ≤ 8) : 0 ≤ clrB b s e ∧ clrB b s e < 256 := by
  have := clr_bd_all ⟨b.toNat, by omega⟩ ⟨s, by omega⟩ ⟨e, by omega⟩ hs
  simpa [Int.toNat_of_nonneg h0] using this
theorem clr_none_all : ∀ b : Fin 256, ∀ s : Fin 9, clrB (b.val : Int) s.val s.val = b.val := by decide +kernel
theorem clr_none (b : Int) (s : Nat) (h0 : 0 ≤ b) (h1 : b < 256) (hs : s ≤ 8) : clrB b s s = b := by
  have := clr_none_all ⟨b.toNat, by omega⟩ ⟨s, by omega⟩
  simpa [Int.toNat_of_nonneg h0] using this
theorem clr_full (b : Int) (s : Nat) : clrB b s 8 = keepB b s := by unfold clrB; simp [Int.emod_one]
def clrL (l : List Int) (n i : Int) : List Int := l.mapIdx fun j b => clrB b (stay n j) (stay i j)
theorem clrL_len (l : List Int) (n i : Int) : (clrL l n i).length = l.length := by simp [clrL]
theorem stay_le (n : Int) (j : Nat) : stay n j ≤ 8 := by unfold stay; omega
theorem stay_mono {n i : Int} (h : n ≤ i) (j : Nat) : stay n j ≤ stay i j := by unfold stay; omega
theorem clrL_start (l : List Int) (n : Int) (ho : Oct l) : clrL l n n = l := by
  apply List.ext_getElem
  · simp [clrL]
  · intro j h1 h2
    have hb := ho _ (List.getElem_mem h2)
    simp only [clrL, List.getElem_mapIdx]
    exact clr_none _ _ hb.1 hb.2 (stay_le n j)
theorem clrL_get (l : List Int) (n i : Int) (j : Nat) (hj : j < l.length) : (clrL l n i).getD j 0 = clrB (l.getD j 0) (stay n j) (stay i j) := by simp [clrL, List.getD, hj]
theorem clrL_oct {l : List Int} (ho : Oct l) {n i : Int} (h : n ≤ i) : Oct (clrL l n i) := by
  intro x hx
  obtain ⟨j, hj, rfl⟩ := List.getElem_of_mem hx
  have hj' : j < l.length := by rwa [clrL_len] at hj
  have hb := ho _ (List.getElem_mem hj')
  simp only [clrL, List.getElem_mapIdx]
  exact clr_bd _ _ _ hb.1 hb.2 (stay_mono h j) (stay_le i j)
theorem clrL_step (l : List Int) (n : Int) (i k e : Nat) (ho : Oct l) (hk : i = 8 * k + e) (he : e < 8) (hkl : k < l.length) (hn : n ≤ (i : Int)) :
    clrL l n ((i : Int) + 1) = (clrL l n i).set k (bits .andNot .u8 ((clrL l n i).getD k 0) (128 / 2 ^ e)) := by
  have hst : stay (i : Int) k = e := by unfold stay; omega
  have hst2 : stay ((i : Int) + 1) k = e + 1 := by unfold stay; omega
  have hs : stay n k ≤ e := by have := stay_mono hn k; omega
  have hb := ho.getD k
  rw [clrL_get l n i k hkl, hst, clr_step _ _ _ hb.1 hb.2 hs he]
  apply List.ext_getElem
  · simp [clrL]
  · intro j h1 h2
    rw [List.getElem_set]
    split
    · rename_i e1
      subst e1
      simp only [clrL, List.getElem_mapIdx]
      rw [hst2]
      simp [List.getD, hkl]
    · rename_i hne
      simp only [clrL, List.getElem_mapIdx]
      have : stay ((i : Int) + 1) j = stay (i : Int) j := by unfold stay; omega
      rw [this]
theorem clrL_end (v : Bool) (l : List Int) (n : Int) (hl : l.length = 16) (ho : Oct l) (hr : rightB v l = true) (hn : 0 ≤ n) (hnb : n ≤ bitsOf v) : clrL l n (bitsOf v) = firstBits l n := by
  apply List.ext_getElem
  · simp [clrL, firstBits]
  · intro j h1 h2
    have hj : j < 16 := by simpa [clrL, hl] using h1
    simp only [clrL, firstBits, List.getElem_mapIdx]
    cases v with
    | true =>
      have : stay (bitsOf true) j = 8 := by unfold stay bitsOf; simp; omega
      rw [this, clr_full]
    | false =>
      by_cases h4 : j < 4
      · have : stay (bitsOf false) j = 8 := by unfold stay bitsOf; simp; omega
        rw [this, clr_full]
      · have e1 : stay (bitsOf false) j = 0 := by unfold stay bitsOf; simp; omega
        have e2 : stay n j = 0 := by unfold stay; simp [bitsOf] at hnb; omega
        have hz : l[j] = 0 := by
          unfold rightB at hr
          rw [Bool.false_or, decide_eq_true_eq] at hr
          have : (l.drop 4)[j - 4]? = some 0 := by rw [hr, List.getElem?_replicate, if_pos (by omega)]
          rw [List.getElem?_drop, show 4 + (j - 4) = j by omega, List.getElem?_eq_getElem (by omega)] at this
          injection this
        rw [hz, e1, e2]
        decide
end Go.Proofs.Ytickcfcncpnaiaa
namespace Go.Proofs.Ytickcfcncpnaiaa
open Go.RowKit
set_option maxRecDepth 100000
set_option linter.unusedSimpArgs false
set_option linter.unusedVariables false

set_option maxHeartbeats 1000000 in
set_option maxRecDepth 100000 in
theorem rcut_no (w : World) (v : Bool) (l : List Int) (n : Int) (hl : l.length = 16) (ho : Oct l) (h : rightB v l = false) :
    Calls Try.prog 58 #[.agg (ipc v l).toArray, .int .i64 n] w (Cut w v l n) := by
  have hr := range_alloc (range_new w 32 (ipc v l)) (.cells noPf.toArray 34) (by simp)
  have Hr := Lib.hid hr
  have HC := Lib.hid (show cutB v l n = false by unfold cutB; rw [h]; rfl)
  have HR := Lib.hid (rriL_is ((w.alloc (.cells (ipc v l).toArray 32)).alloc (.cells noPf.toArray 34)) v l hl ho)
  rw [h] at HR
  clear hr h
  go_enter Try.func58, Try.ntmps58
  go_wp2_with (refine ip_fetch rfl _ rfl w.heap.size 0 v l hl rfl Hr.out ?_)
  refine HR.out.mono ?_
  rintro e w1 ⟨rfl, hB⟩
  have HB := Lib.hid hB
  have Hz := Lib.hid ((Blk.new (w.alloc (.cells (ipc v l).toArray 32)) 34 noPf.toArray).below hB (by simp))
  rw [show (w.alloc (.cells (ipc v l).toArray 32)).heap.size = w.heap.size + 1 by simp] at Hz
  clear hB
  go_wp2_with (refine pf_store rfl _ _ rfl (w.heap.size + 1) false (List.replicate 16 0) 0 rfl rfl rfl 34 noPf.toArray Hz.out rfl ?_)
  refine bodyPost_ret (v := .tuple #[.agg noPf.toArray, .int .i64 2]) ?_ rfl ⟨?_, by rw [HC.out]; rfl⟩
  · exact results_cell_slot rfl _ _ (w.heap.size + 1) 34 _ _ _ rfl rfl (Blk.setRow Hz.out _) Try.underlying34 rfl (by kernel_rfl)
  · exact ((((Below.refl w.heap.size w).alloc (Nat.le_refl _) _).alloc (by simp) _).trans (HB.out.mono (by simp; omega))).trans (below_setRow _ _ _ (by omega))
set_option maxHeartbeats 1000000 in
set_option maxRecDepth 100000 in
theorem rcut_low (w : World) (v : Bool) (l : List Int) (n : Int) (hl : l.length = 16) (ho : Oct l) (h : rightB v l = true) (hn : n < 0) :
    Calls Try.prog 58 #[.agg (ipc v l).toArray, .int .i64 n] w (Cut w v l n) := by
  have hr := range_alloc (range_new w 32 (ipc v l)) (.cells noPf.toArray 34) (by simp)
  have Hr := Lib.hid hr
  have HC := Lib.hid (show cutB v l n = false by unfold cutB; rw [decide_eq_false (show ¬ 0 ≤ n by omega), Bool.false_and, Bool.and_false])
  have HR := Lib.hid (rriL_is ((w.alloc (.cells (ipc v l).toArray 32)).alloc (.cells noPf.toArray 34)) v l hl ho)
  rw [h] at HR
  have hd : decide (n < 0) = true := by simpa using hn
  clear hr h
  go_enter Try.func58, Try.ntmps58
  go_wp2_with (refine ip_fetch rfl _ rfl w.heap.size 0 v l hl rfl Hr.out ?_)
  refine HR.out.mono ?_
  rintro e w1 ⟨rfl, hB⟩
  have HB := Lib.hid hB
  have Hz := Lib.hid ((Blk.new (w.alloc (.cells (ipc v l).toArray 32)) 34 noPf.toArray).below hB (by simp))
  rw [show (w.alloc (.cells (ipc v l).toArray 32)).heap.size = w.heap.size + 1 by simp] at Hz
  clear hB
  go_wp2_with (refine pf_store rfl _ _ rfl (w.heap.size + 1) false (List.replicate 16 0) 0 rfl rfl rfl 34 noPf.toArray Hz.out rfl ?_)
  refine bodyPost_ret (v := .tuple #[.agg noPf.toArray, .int .i64 2]) ?_ rfl ⟨?_, by rw [HC.out]; rfl⟩
  · exact results_cell_slot rfl _ _ (w.heap.size + 1) 34 _ _ _ rfl rfl (Blk.setRow Hz.out _) Try.underlying34 rfl (by kernel_rfl)
  · exact ((((Below.refl w.heap.size w).alloc (Nat.le_refl _) _).alloc (by simp) _).trans (HB.out.mono (by simp; omega))).trans (below_setRow _ _ _ (by omega))
/-- The memory of Cut's loop. -/
structure CutW (w W : World) (v : Bool) (x : List Int) : Prop where
  src : Blk W w.heap.size 32 (ipc v x).toArray
  res : Blk W (w.heap.size + 1) 34 noPf.toArray
  low : Below w.heap.size w W
theorem CutW.step {w W W' : World} {v : Bool} {x : List Int} (h : CutW w W v x) (hB : Below W.heap.size W W') : CutW w W' v x := ⟨h.src.below hB h.src.lt, h.res.below hB h.res.lt, h.low.trans (hB.mono h.low.size)⟩
theorem ipc_setL (v : Bool) (x : List Int) (k : Nat) (y : Int) : (ipc v x).toArray.setIfInBounds (1 + k) (.int .u8 y) = (ipc v (x.set k y)).toArray := by
  rw [Nat.add_comm 1 k, List.setIfInBounds_toArray]
  show (List.set (Value.bool v :: u8s x) (k + 1) _).toArray = _
  rw [List.set_cons_succ]
  show (Value.bool v :: (u8s x).set k (.int .u8 y)).toArray = (Value.bool v :: u8s (x.set k y)).toArray
  unfold u8s
  rw [List.map_set]
theorem CutW.put {w W : World} {v : Bool} {x : List Int} (h : CutW w W v x) (k : Nat) (y : Int) : CutW w (W.setCell ⟨w.heap.size, 1 + k, none⟩ (.int .u8 y)) v (x.set k y) :=
  ⟨by have := h.src.set_ (1 + k) (.int .u8 y); rwa [ipc_setL] at this, h.res.far (p := ⟨w.heap.size, 1 + k, none⟩) (by simp) _, h.low.setCell (p := ⟨w.heap.size, 1 + k, none⟩) (Nat.le_refl _) _⟩
set_option maxHeartbeats 4000000 in
set_option maxRecDepth 100000 in
theorem rcut_in (w : World) (v : Bool) (l : List Int) (n : Int) (hl : l.length = 16) (ho : Oct l) (h : rightB v l = true) (hn : 0 ≤ n) :
    Calls Try.prog 58 #[.agg (ipc v l).toArray, .int .i64 n] w (Cut w v l n) := by
  have hr := range_alloc (range_new w 32 (ipc v l)) (.cells noPf.toArray 34) (by simp)
  have Hr := Lib.hid hr
  have HC := Lib.hid (show cutB v l n = decide (n ≤ bitsOf v) by unfold cutB; rw [h, decide_eq_true hn, Bool.true_and, Bool.true_and])
  have HR := Lib.hid (rriL_is ((w.alloc (.cells (ipc v l).toArray 32)).alloc (.cells noPf.toArray 34)) v l hl ho)
  have HRt := Lib.hid h
  rw [h] at HR
  have hd : decide (n < 0) = false := by simpa using hn
  have hb8 : bitsOf v ≤ 128 := by unfold bitsOf; split <;> omega
  have HW0 : Hid (CutW w ((w.alloc (.cells (ipc v l).toArray 32)).alloc (.cells noPf.toArray 34)) v l) := Lib.hid ⟨(Blk.new w 32 (ipc v l).toArray).alloc _, by have := Blk.new (w.alloc (.cells (ipc v l).toArray 32)) 34 noPf.toArray; simpa using this, ((Below.refl w.heap.size w).alloc (Nat.le_refl _) _).alloc (by simp) _⟩
  have HO := Lib.hid ho
  have HL := Lib.hid hl
  clear hr h ho
  go_enter Try.func58, Try.ntmps58
  go_wp2_with (refine ip_fetch rfl _ rfl w.heap.size 0 v l HL.out rfl Hr.out ?_)
  refine HR.out.mono ?_
  rintro e w1 ⟨rfl, hB⟩
  have HW1 := Lib.hid (HW0.out.step hB)
  have Hr1 := Lib.hid (Blk.range HW1.out.src)
  clear hB HR HW0 Hr
  go_wp2_with (refine ip_fetch rfl _ rfl w.heap.size 0 v l HL.out rfl Hr1.out ?_)
  refine (rbitsL_is w1 v l).mono ?_
  rintro e w2 ⟨rfl, hB2⟩
  have HW2 := Lib.hid (HW1.out.step hB2)
  clear hB2 HW1 Hr1
  by_cases hle : n ≤ bitsOf v
  · have hd2 : decide (n > bitsOf v) = false := by simpa using hle
    have hd3 : decide (bitsOf v < n) = false := by simpa using hle
    obtain ⟨n0, rfl⟩ := Int.eq_ofNat_of_zero_le hn
    have HLe := Lib.hid hle
    have HEnd := Lib.hid (clrL_end v l (n0 : Int) HL.out HO.out HRt.out hn hle)
    have HSt := Lib.hid (clrL_start l (n0 : Int) HO.out)
    clear hle
    go_wp2_with fail
    clear hd hd2 hd3
    go_loopw [6] (fun i wr => ∃ k : Nat, n0 ≤ k ∧ (k : Int) ≤ bitsOf v ∧ i = .int .i64 k ∧ CutW w wr v (clrL l n0 k)) (fun i _ => 128 - (intOf i).toNat)
    case atStart => exact ⟨n0, Nat.le_refl _, HLe.out, rfl, by rw [HSt.out]; exact HW2.out⟩
    case round =>
      obtain ⟨i, hi0, hib, rfl, hW⟩ := hrel
      have HW := Lib.hid hW
      have HRg := Lib.hid (Blk.range hW.src)
      have HXl : Hid ((clrL l (n0 : Int) i).length = 16) := Lib.hid (by rw [clrL_len]; exact HL.out)
      clear hW HW2
      generalize hwz : wr = wz at *
      clear hwz
      go_wp2_with (refine ip_fetch rfl _ rfl w.heap.size 0 v (clrL l (n0 : Int) i) HXl.out rfl HRg.out ?_)
      refine (rbitsL_is wz v (clrL l (n0 : Int) i)).mono ?_
      rintro e w3 ⟨rfl, hB3⟩
      have HW3 := Lib.hid (HW.out.step hB3)
      clear hB3 HW HRg
      by_cases hlt : (i : Int) < bitsOf v
      · have hdl : decide ((i : Int) < bitsOf v) = true := decide_eq_true hlt
        obtain ⟨k, e, hke, he8⟩ : ∃ k e, i = 8 * k + e ∧ e < 8 := ⟨i / 8, i % 8, by omega, by omega⟩
        have hk16 : k < 16 := by omega
        have HStep := Lib.hid (clrL_step l (n0 : Int) i k e HO.out hke he8 (by rw [HL.out]; exact hk16) (by omega))
        have hcell : w3.cell? ⟨w.heap.size, 1 + k, none⟩ = some (.int .u8 ((clrL l (n0 : Int) i).getD k 0)) := by
          rw [HW3.out.src.cell]
          exact ipc_cellL v _ k (by rw [HXl.out]; exact hk16)
        have hfz := HW3.out.src.frozen (1 + k)
        have hq1 : (i : Int).tdiv 8 = (k : Int) := by rw [Int.tdiv_eq_ediv_of_nonneg (by omega)]; omega
        have hq2 : (i : Int).tmod 8 = (e : Int) := by rw [Int.tmod_eq_emod_of_nonneg (by omega)]; omega
        have hq3 : (i : Int) / 8 = (k : Int) := by omega
        have hq4 : (i : Int) % 8 = (e : Int) := by omega
        have HP := Lib.hid (fun y => HW3.out.put k y)
        generalize (clrL l (n0 : Int) i).getD k 0 = x at *
        have hkI : (k : Int) < 16 := by omega
        have heI : (e : Int) < 8 := by omega
        have hi1 : (i : Int) ≤ 128 := by omega
        have HIn : Hid (((i + 1 : Nat) : Int) ≤ bitsOf v) := Lib.hid (by omega)
        clear hke hlt
        go_wp2
        refine ⟨⟨i + 1, by omega, HIn.out, by go_num, ?_⟩, by simp [intOf]; omega⟩
        rw [show ((i + 1 : Nat) : Int) = (i : Int) + 1 by omega, HStep.out]
        exact HP.out _
      · have hdl : decide ((i : Int) < bitsOf v) = false := decide_eq_false hlt
        have hie : (i : Int) = bitsOf v := by omega
        have HX : Hid (clrL l (n0 : Int) (i : Int) = firstBits l n0) := Lib.hid (by rw [hie]; exact HEnd.out)
        rw [HX.out] at HW3
        have HRg3 := Lib.hid (Blk.range HW3.out.src)
        have Hz3 := Lib.hid HW3.out.res
        have HFl : Hid ((firstBits l (n0 : Int)).length = 16) := Lib.hid (by rw [fb_len]; exact HL.out)
        have hq0 : (i : Int) ≤ 128 := by omega
        clear hie hlt HXl
        go_wp2_with (first
          | (refine ip_fetch rfl _ rfl w.heap.size 0 v (firstBits l n0) HFl.out rfl HRg3.out ?_)
          | (refine pf_build rfl _ _ rfl v (firstBits l n0) n0 HFl.out rfl rfl ?_)
          | (refine pf_store rfl _ _ rfl (w.heap.size + 1) v (firstBits l n0) n0 HFl.out rfl rfl 34 noPf.toArray Hz3.out rfl ?_))
        refine bodyPost_ret (v := .tuple #[.agg (pfc v (firstBits l n0) n0).toArray, .int .i64 0]) ?_ rfl ⟨?_, by rw [HC.out, decide_eq_true HLe.out]; rfl⟩
        · exact results_cell_slot rfl _ _ (w.heap.size + 1) 34 _ _ _ rfl rfl (Blk.setRow Hz3.out _) Try.underlying34 rfl (pfc_size v _ n0 HFl.out)
        · exact HW3.out.low.trans (below_setRow _ _ _ (by omega))
  · have HDn : Hid (decide (n ≤ bitsOf v) = false) := Lib.hid (decide_eq_false hle)
    have hd2 : decide (n > bitsOf v) = true := by simpa using hle
    have hd3 : decide (bitsOf v < n) = true := by simpa using hle
    have Hz2 := Lib.hid HW2.out.res
    clear hle
    go_wp2_with (refine pf_store rfl _ _ rfl (w.heap.size + 1) false (List.replicate 16 0) 0 rfl rfl rfl 34 noPf.toArray Hz2.out rfl ?_)
    refine bodyPost_ret (v := .tuple #[.agg noPf.toArray, .int .i64 2]) ?_ rfl ⟨?_, by rw [HC.out, HDn.out]; rfl⟩
    · exact results_cell_slot rfl _ _ (w.heap.size + 1) 34 _ _ _ rfl rfl (Blk.setRow Hz2.out _) Try.underlying34 rfl (by kernel_rfl)
    · exact HW2.out.low.trans (below_setRow _ _ _ (by omega))
theorem rcut_is (w : World) (v : Bool) (l : List Int) (n : Int) (hl : l.length = 16) (ho : Oct l) : Calls Try.prog 58 #[.agg (ipc v l).toArray, .int .i64 n] w (Cut w v l n) := by
  cases h : rightB v l
  · exact rcut_no w v l n hl ho h
  · by_cases hn : n < 0
    · exact rcut_low w v l n hl ho h hn
    · exact rcut_in w v l n hl ho h (by omega)
end Go.Proofs.Ytickcfcncpnaiaa
namespace Go.Proofs.Ytickcfcncpnaiaa
open Go.RowKit
set_option maxRecDepth 100000
set_option linter.unusedSimpArgs false
set_option linter.unusedVariables false

set_option maxHeartbeats 1000000 in
set_option maxRecDepth 100000 in
theorem rrpf_is (w : World) (v : Bool) (l : List Int) (n : Int) (hl : l.length = 16) (ho : Oct l) (hn : I64 n) :
    Calls Try.prog 32 #[.agg (pfc v l n).toArray] w fun e w' => e = .returned (.bool (rightPfB v l n)) ∧ Below w.heap.size w w' := by
  have hp := range_new w 34 (pfc v l n)
  have hc := (range_post (cs := ipc v l) (ds := [Value.int .i64 n]) hp) 0 _ rfl
  rw [show 0 + (ipc v l).length + 0 = 17 by simp [hl]] at hc
  have Hp := Lib.hid hp
  have Ha := Lib.hid (range_pre (cs := ipc v l) (ds := [Value.int .i64 n]) hp)
  have HL := Lib.hid hl
  clear hp
  go_enter Try.func32, Try.ntmps32
  go_wp2_with (refine ip_fetch rfl _ rfl w.heap.size 0 v l HL.out rfl Ha.out ?_)
  refine (rcut_is _ v l n hl ho).mono ?_
  rintro e w1 ⟨hB, he⟩
  have Hp1 := Lib.hid (range_below Hp.out hB (by simp))
  have HB : Hid (Below w.heap.size w w1) := Lib.hid (((Below.refl w.heap.size w).alloc (Nat.le_refl _) _).trans (hB.mono (by simp)))
  have hs1 : w.heap.size < w1.heap.size := by have := hB.size; simp at this; omega
  clear hB Hp Ha hc
  cases hcut : cutB v l n
  · rw [hcut] at he
    subst he
    have HR := Lib.hid (show rightPfB v l n = false by unfold rightPfB hasB; rw [hcut]; rfl)
    clear hcut
    go_wp2_with (first | (refine pf_store rfl _ _ rfl w1.heap.size false (List.replicate 16 0) 0 rfl rfl rfl 34 noPf.toArray (Blk.new w1 34 noPf.toArray) rfl ?_))
    go_ret
    exact ⟨by rw [HR.out]; rfl, (HB.out.alloc (Nat.le_of_lt hs1) _).trans (below_setRow _ _ _ (Nat.le_of_lt hs1))⟩
  · rw [hcut] at he
    subst he
    have hr0 : rightPfB v l n = decide (firstBits l n = l) := by unfold rightPfB hasB; rw [hcut, Bool.true_and]; simp
    have hE : ∀ W, (binOp .eql 34 (.agg (pfc v (firstBits l n) n).toArray) (.agg (pfc v l n).toArray)).run Try.prog W = .ok (.bool (rightPfB v l n)) W :=
      pf_eql v v (firstBits l n) l n n (by rw [fb_len]; exact hl) hl (fb_oct l n ho) ho hn hn _ (by rw [hr0]; simp)
    have hfl : (firstBits l n).length = 16 := by rw [fb_len]; exact hl
    have HF := Lib.hid hfl
    have Hn1 : Hid (((w1.alloc (.cells noPf.toArray 34)).setRow w1.heap.size (pfc v (firstBits l n) n).toArray).rangeAt w1.heap.size 0 (pfc v (firstBits l n) n)) := Lib.hid (Blk.range (Blk.setRow (Blk.new w1 34 noPf.toArray) _))
    have Hn2 : Hid (((w1.alloc (.cells noPf.toArray 34)).setRow w1.heap.size (pfc v (firstBits l n) n).toArray).rangeAt w.heap.size 0 (pfc v l n)) :=
      Lib.hid (range_below (range_alloc Hp1.out _ hs1) (below_setRow _ w1.heap.size _ (Nat.le_refl _)) hs1)
    clear hcut hr0 hfl Hp1
    generalize hr : rightPfB v l n = r at *
    have HRR := Lib.hid hr
    clear hr
    generalize firstBits l n = f at *
    go_wp2_with (first
      | (refine pf_store rfl _ _ rfl w1.heap.size v f n HF.out rfl rfl 34 noPf.toArray (Blk.new w1 34 noPf.toArray) rfl ?_)
      | (refine pf_fetch rfl _ rfl w1.heap.size v f n HF.out rfl Hn1.out ?_)
      | (refine pf_fetch rfl _ rfl w.heap.size v l n HL.out rfl Hn2.out ?_))
    go_ret
    exact ⟨by rw [HRR.out]; rfl, (HB.out.alloc (Nat.le_of_lt hs1) _).trans (below_setRow _ _ _ (Nat.le_of_lt hs1))⟩
set_option maxHeartbeats 1000000 in
theorem rwhole_is (w : World) (v : Bool) (l : List Int) (n : Int) (hl : l.length = 16) (ho : Oct l) (hn : I64 n) : Calls Try.prog 31 #[.agg (pfc v l n).toArray] w fun e w' => e = .returned (.bool (wholeB v l n)) ∧ Below w.heap.size w w' := by
  have HL := Lib.hid hl
  have HC : Hid (∀ W : World, W.rangeAt w.heap.size 0 (pfc v l n) → W.cell? ⟨w.heap.size, 17, none⟩ = some (.int .i64 n)) := Lib.hid (fun W hW => by
    have := (range_post (cs := ipc v l) (ds := [Value.int .i64 n]) hW) 0 _ rfl
    rwa [show 0 + (ipc v l).length + 0 = 17 by simp [hl]] at this)
  have HS0 := Lib.hid (range_drewN (range_new w 34 (pfc v l n)) 1)
  have HB0 := Lib.hid (below_drewN ((Below.refl w.heap.size w).alloc (Nat.le_refl _) (.cells (pfc v l n).toArray 34)) 1)
  have HE : Hid (∀ b, rightPfB v l n = b → wholeB v l n = (b && decide (n = bitsOf v))) := Lib.hid (fun b hb => by unfold wholeB; rw [hb])
  have HPF := Lib.hid (fun W => rrpf_is W v l n hl ho hn)
  clear hl ho hn
  go_enter Try.func31, Try.ntmps31
  go_wp2
  refine wp_region_held_drew (S := fun w' => w'.rangeAt w.heap.size 0 (pfc v l n)) (by kernel_rfl) (HS0.out) (fun hS => ?_)
  refine wpAnyH_take (i := 0) (oi := ⟨some 3, _, _, _, _, _⟩) rfl (by kernel_rfl) (by kernel_rfl) (by kernel_rfl) (fun _ _ _ h => h) (yieldsIf_load_mid (by rfl) 34 _ rfl _ _ rfl (pfc v l n) _ (fun wq hq => hq) Try.underlying34 rfl (pfsz v l n HL.out)) hS ?_
  try simp only [Act.put, List.setIfInBounds_toArray, List.set_cons_zero, List.set_cons_succ]
  refine wpAnyH_ready (rs := [1]) (by kernel_rfl) (by simp) ?_
  refine AllReadyH.cons (o := ⟨some 4, _, _, _, _, _⟩) rfl (fun K hK => ?_) AllReadyH.nil
  rw [if_pos (by rfl)]
  go_wp2_with fail
  refine (HPF.out _).mono ?_
  rintro e w1 ⟨rfl, hB⟩
  have hS1 := range_below hS hB (by simp)
  have HB := Lib.hid (HB0.out.trans (hB.mono HB0.out.size))
  have hsz : w.heap.size < w1.heap.size := by have := hB.size; simp at this; omega
  clear hB
  refine hK.out _ _ (hS1) (fun hS => ?_)
  clear hK K
  try simp only [Act.put, List.setIfInBounds_toArray, List.set_cons_zero, List.set_cons_succ]
  refine wpAnyH_take (i := 2) (oi := ⟨some 5, _, _, _, _, _⟩) (v := ?_) rfl (by kernel_rfl) (by kernel_rfl) (by kernel_rfl) (fun _ _ _ h => h) (Or.inl ⟨by rfl, ?_⟩) hS ?_
  rotate_left
  · intro wq hq
    first | (go_simp; done) | (go_simp; rfl)
  try simp only [Act.put, List.setIfInBounds_toArray, List.set_cons_zero, List.set_cons_succ]
  cases hp : rightPfB v l n
  · have HV := Lib.hid (HE.out false hp)
    clear hp
    refine wpAnyH_take (i := 3) (oi := ⟨some 6, _, _, _, _, _⟩) (v := undef) rfl (by kernel_rfl) (by kernel_rfl) (by kernel_rfl) (fun _ _ _ h => h) (Or.inr ⟨by rfl, rfl⟩) hS ?_
    try simp only [Act.put, List.setIfInBounds_toArray, List.set_cons_zero, List.set_cons_succ]
    refine wpAnyH_take (i := 4) (oi := ⟨some 7, _, _, _, _, _⟩) (v := undef) rfl (by kernel_rfl) (by kernel_rfl) (by kernel_rfl) (fun _ _ _ h => h) (Or.inr ⟨by rfl, rfl⟩) hS ?_
    try simp only [Act.put, List.setIfInBounds_toArray, List.set_cons_zero, List.set_cons_succ]
    refine wpAnyH_take (i := 5) (oi := ⟨some 8, _, _, _, _, _⟩) (v := undef) rfl (by kernel_rfl) (by kernel_rfl) (by kernel_rfl) (fun _ _ _ h => h) (Or.inr ⟨by rfl, rfl⟩) hS ?_
    try simp only [Act.put, List.setIfInBounds_toArray, List.set_cons_zero, List.set_cons_succ]
    refine wpAnyH_take (i := 6) (oi := ⟨some 9, _, _, _, _, _⟩) (v := undef) rfl (by kernel_rfl) (by kernel_rfl) (by kernel_rfl) (fun _ _ _ h => h) (Or.inr ⟨by rfl, rfl⟩) hS ?_
    try simp only [Act.put, List.setIfInBounds_toArray, List.set_cons_zero, List.set_cons_succ]
    refine wpAnyH_take (i := 7) (oi := ⟨some 10, _, _, _, _, _⟩) (v := undef) rfl (by kernel_rfl) (by kernel_rfl) (by kernel_rfl) (fun _ _ _ h => h) (Or.inr ⟨by rfl, rfl⟩) hS ?_
    try simp only [Act.put, List.setIfInBounds_toArray, List.set_cons_zero, List.set_cons_succ]
    refine wpAnyH_take (i := 8) (oi := ⟨some 11, _, _, _, _, _⟩) (v := undef) rfl (by kernel_rfl) (by kernel_rfl) (by kernel_rfl) (fun _ _ _ h => h) (Or.inr ⟨by rfl, rfl⟩) hS ?_
    try simp only [Act.put, List.setIfInBounds_toArray, List.set_cons_zero, List.set_cons_succ]
    refine wpAnyH_take (i := 9) (oi := ⟨some 12, _, _, _, _, _⟩) (v := ?_) rfl (by kernel_rfl) (by kernel_rfl) (by kernel_rfl) (fun _ _ _ h => h) (Or.inl ⟨by rfl, ?_⟩) hS ?_
    rotate_left
    · intro wq hq
      first | (go_simp; done) | (go_simp; rfl)
    try simp only [Act.put, List.setIfInBounds_toArray, List.set_cons_zero, List.set_cons_succ]
    refine wpAnyH_take (i := 10) (oi := ⟨some 2, _, _, _, _, _⟩) (v := ?_) rfl (by kernel_rfl) (by kernel_rfl) (by kernel_rfl) (fun _ _ _ h => h) (Or.inl ⟨by rfl, ?_⟩) hS ?_
    rotate_left
    · intro wq hq
      first | (go_simp; done) | (go_simp; rfl)
    try simp only [Act.put, List.setIfInBounds_toArray, List.set_cons_zero, List.set_cons_succ]
    refine wpAnyH_done (by kernel_rfl) ?_ _
    go_wp2
    go_ret
    exact ⟨by rw [HV.out]; rfl, HB.out⟩
  · have HV := Lib.hid (HE.out true hp)
    clear hp
    refine wpAnyH_take (i := 3) (oi := ⟨some 6, _, _, _, _, _⟩) (v := ?_) rfl (by kernel_rfl) (by kernel_rfl) (by kernel_rfl) (fun _ _ _ h => h) (Or.inl ⟨by rfl, ?_⟩) hS ?_
    rotate_left
    · intro wq hq
      first | (go_simp; done) | (go_simp; rfl)
    try simp only [Act.put, List.setIfInBounds_toArray, List.set_cons_zero, List.set_cons_succ]
    refine wpAnyH_take (i := 4) (oi := ⟨some 7, _, _, _, _, _⟩) (v := ?_) rfl (by kernel_rfl) (by kernel_rfl) (by kernel_rfl) (fun _ _ _ h => h) (Or.inl ⟨by rfl, ?_⟩) hS ?_
    rotate_left
    · intro wq hq
      have hc := HC.out _ hq
      first | (go_simp; done) | (go_simp; rfl)
    try simp only [Act.put, List.setIfInBounds_toArray, List.set_cons_zero, List.set_cons_succ]
    refine wpAnyH_take (i := 5) (oi := ⟨some 8, _, _, _, _, _⟩) (v := ?_) rfl (by kernel_rfl) (by kernel_rfl) (by kernel_rfl) (fun _ _ _ h => h) (Or.inl ⟨by rfl, ?_⟩) hS ?_
    rotate_left
    · intro wq hq
      first | (go_simp; done) | (go_simp; rfl)
    try simp only [Act.put, List.setIfInBounds_toArray, List.set_cons_zero, List.set_cons_succ]
    refine wpAnyH_take (i := 6) (oi := ⟨some 9, _, _, _, _, _⟩) rfl (by kernel_rfl) (by kernel_rfl) (by kernel_rfl) (fun _ _ _ h => h) (yieldsIf_load_mid (by rfl) 32 _ rfl _ _ rfl (ipc v l) _ (fun wq hq => range_pre (ds := [Value.int .i64 n]) hq) Try.underlying32 rfl (ip_size v l HL.out)) hS ?_
    try simp only [Act.put, List.setIfInBounds_toArray, List.set_cons_zero, List.set_cons_succ]
    refine wpAnyH_ready (rs := [7]) (by kernel_rfl) (by simp) ?_
    refine AllReadyH.cons (o := ⟨some 10, _, _, _, _, _⟩) rfl (fun K hK => ?_) AllReadyH.nil
    rw [if_pos (by rfl)]
    go_wp2_with fail
    refine (rbitsL_is _ v l).mono ?_
    rintro e w2 ⟨rfl, hB2⟩
    have hS2 := range_below hS hB2 hsz
    have HB2 := Lib.hid (HB.out.trans (hB2.mono HB.out.size))
    clear hB2
    refine hK.out _ _ (hS2) (fun hS => ?_)
    clear hK K
    try simp only [Act.put, List.setIfInBounds_toArray, List.set_cons_zero, List.set_cons_succ]
    have hq8 : (n == bitsOf v) = decide (n = bitsOf v) := by rw [Bool.eq_iff_iff]; simp
    generalize decide (n = bitsOf v) = dd at *
    generalize bitsOf v = bb at *
    refine wpAnyH_take (i := 8) (oi := ⟨some 11, _, _, _, _, _⟩) (v := ?_) rfl (by kernel_rfl) (by kernel_rfl) (by kernel_rfl) (fun _ _ _ h => h) (Or.inl ⟨by rfl, ?_⟩) hS ?_
    rotate_left
    · intro wq hq
      first | (go_simp; done) | (go_simp; rfl)
    try simp only [Act.put, List.setIfInBounds_toArray, List.set_cons_zero, List.set_cons_succ]
    refine wpAnyH_take (i := 9) (oi := ⟨some 12, _, _, _, _, _⟩) (v := ?_) rfl (by kernel_rfl) (by kernel_rfl) (by kernel_rfl) (fun _ _ _ h => h) (Or.inl ⟨by rfl, ?_⟩) hS ?_
    rotate_left
    · intro wq hq
      first | (go_simp; done) | (go_simp; rfl)
    try simp only [Act.put, List.setIfInBounds_toArray, List.set_cons_zero, List.set_cons_succ]
    refine wpAnyH_take (i := 10) (oi := ⟨some 2, _, _, _, _, _⟩) (v := ?_) rfl (by kernel_rfl) (by kernel_rfl) (by kernel_rfl) (fun _ _ _ h => h) (Or.inl ⟨by rfl, ?_⟩) hS ?_
    rotate_left
    · intro wq hq
      first | (go_simp; done) | (go_simp; rfl)
    try simp only [Act.put, List.setIfInBounds_toArray, List.set_cons_zero, List.set_cons_succ]
    refine wpAnyH_done (by kernel_rfl) ?_ _
    go_wp2
    go_ret
    exact ⟨by rw [HV.out]; rfl, HB2.out⟩

end Go.Proofs.Ytickcfcncpnaiaa
namespace Go.Proofs.Ytickcfcncpnaiaa
open Go.RowKit
set_option maxRecDepth 100000
set_option linter.unusedSimpArgs false
set_option linter.unusedVariables false

/-- A route without the fields that its kind has. -/
def bareR (r : Rt) : Rt :=
  if r.k = 1 then { r with rd := List.replicate 8 0, es := List.replicate 10 0, tg := 0, lb := 0 }
  else if r.k = 2 then { r with rd := List.replicate 8 0, es := List.replicate 10 0, tg := 0, mc := List.replicate 6 0, v6 := false, pl := z16, pn := 0, lb := 0, l2 := 0 }
  else if r.k = 3 then { r with rd := List.replicate 8 0, tg := 0, v6 := false, pl := z16, pn := 0 }
  else if r.k = 4 then { r with rd := List.replicate 8 0, es := List.replicate 10 0, v6 := false, pl := z16, pn := 0 }
  else if r.k = 5 then { r with rd := List.replicate 8 0, es := List.replicate 10 0, tg := 0, v6 := false, pl := z16, pn := 0, gv := false, gl := z16, lb := 0 }
  else { r with rd := List.replicate 8 0 }

section
variable {w W : World} {r r' : Rt}
theorem NmW.rd_ (h : NmW w W r) : NmW w (W.setCells w.heap.size 1 (u8s (List.replicate 8 0))) { r with rd := List.replicate 8 0 } := h.step (h.src.setRd h.ok _ rfl) { h.ok with rd := rfl, ord := oct_zeros 8 }
theorem NmW.mc_ (h : NmW w W r) : NmW w (W.setCells w.heap.size 20 (u8s (List.replicate 6 0))) { r with mc := List.replicate 6 0 } := h.step (h.src.setMc h.ok _ rfl) { h.ok with mc := rfl, omc := oct_zeros 6 }
theorem NmW.pf_ (h : NmW w W r) : NmW w (W.setCells w.heap.size 26 (pfc false z16 0)) { r with v6 := false, pl := z16, pn := 0 } := h.step (h.src.setPf h.ok false z16 0 rfl) { h.ok with pl := rfl, opl := oct_zeros 16, pn := i64_0 }
theorem NmW.tg_ (h : NmW w W r) : NmW w (W.setCell ⟨w.heap.size, 19, none⟩ (.int .u32 0)) { r with tg := 0 } := h.step (cs := [.int .u32 0]) (h.src.setTg h.ok 0) { h.ok with tg := u32_0 }
end
theorem built_rd0 : Try.prog.built 24 [] = some (u8s (List.replicate 8 0)).toArray := by kernel_rfl
theorem built_mc0 : Try.prog.built 29 [] = some (u8s (List.replicate 6 0)).toArray := by kernel_rfl
theorem sz_rd0 : (Try.prog.info? 24).map (·.size) = some (u8s (List.replicate 8 0)).length := by kernel_rfl
theorem sz_mc0 : (Try.prog.info? 29).map (·.size) = some (u8s (List.replicate 6 0)).length := by kernel_rfl
theorem sz_pf0 : (Try.prog.info? 34).map (·.size) = some (pfc false z16 0).length := by kernel_rfl
set_option maxHeartbeats 4000000 in
set_option maxRecDepth 100000 in
theorem rbare_1 (w : World) (r : Rt) (hr : RtOk r) (hk : r.k = 1) : Calls Try.prog 30 #[.agg (rtc r).toArray] w fun e w' => e = .returned (.agg (rtc (bareR r)).toArray) ∧ Below w.heap.size w w' := by
  have H := Lib.hid (fun Z hs => NmW.new w Z hs hr)
  clear hr
  have HF : Hid ({ r with rd := List.replicate 8 0, es := List.replicate 10 0, tg := 0, lb := 0 } = bareR r) := Lib.hid (by unfold bareR; rw [if_pos hk])
  have e1 : (r.k == 1) = true := by rw [beq_iff_eq]; omega
  clear hk
  go_enter Try.func30, Try.ntmps30
  go_wp2_with (first
    | (refine any_build rfl 24 rfl (u8s (List.replicate 8 0)) built_rd0 ?_)
    | (refine any_build rfl 26 rfl (u8s (List.replicate 10 0)) built_es0 ?_)
    | (refine part_to rfl 24 _ _ rfl w.heap.size 1 (u8s (List.replicate 8 0)) rfl rfl ((H.out _ rfl).src.thereAt 1 _ (by decide)) sz_rd0 (one_u8s _) (fun W => NmW w W _) (H.out _ rfl).rd_ ?_; intro W1 hW1; have hcK : W1.cell? ⟨w.heap.size, 0, none⟩ = some (.int .i64 r.k) := hW1.src.cK; have HW1 := Lib.hid hW1; clear hW1)
    | (refine part_to rfl 26 _ _ rfl w.heap.size 9 (u8s (List.replicate 10 0)) rfl rfl (HW1.out.src.thereAt 9 _ (by decide)) sz_es0 (one_u8s _) (fun W => NmW w W _) HW1.out.es ?_; intro W2 hW2; have HW2 := Lib.hid hW2; clear hW2)
    | (refine int_store_to rfl 27 _ _ rfl w.heap.size 19 .u32 0 rfl rfl (HW2.out.src.thereAt 19 1 (by omega)) sz_u32 (fun W => NmW w W _) HW2.out.tg_ ?_; intro W3 hW3; have HW3 := Lib.hid hW3; clear hW3)
    | (refine int_store_to rfl 27 _ _ rfl w.heap.size 61 .u32 0 rfl rfl (HW3.out.src.thereAt 61 1 (by omega)) sz_u32 (fun W => NmW w W (bareR r)) (HF.out ▸ HW3.out.lb) ?_; intro W4 hW4; obtain ⟨Z, hZ, hs⟩ := hW4.res; have HZ := Lib.hid hZ; have HS := Lib.hid hs; have HW4 := Lib.hid hW4; clear hW4 hZ hs)
    | (refine rt_fetch rfl _ rfl w.heap.size (bareR r) HW4.out.ok rfl HW4.out.src ?_)
    | (refine rt_store_to rfl _ _ rfl (w.heap.size + 1) (bareR r) HW4.out.ok rfl rfl 36 Z HZ.out HS.out (fun W' => Blk W' (w.heap.size + 1) 36 (rtc (bareR r)).toArray ∧ Below w.heap.size w W') ⟨Blk.setRow HZ.out _, HW4.out.low.trans (below_setRow _ _ _ (by omega))⟩ ?_; intro WE hWE; have HWE := Lib.hid hWE; clear hWE))
  refine bodyPost_ret (v := .agg (rtc (bareR r)).toArray) ?_ rfl ⟨rfl, HWE.out.2⟩
  exact results_cell_row rfl _ _ (w.heap.size + 1) 36 _ (0, 0) _ rfl HWE.out.1 Try.underlying36 rfl (by rw [rt_size]; simp [rtc_len HW4.out.ok])
set_option maxHeartbeats 4000000 in
set_option maxRecDepth 100000 in
theorem rbare_2 (w : World) (r : Rt) (hr : RtOk r) (hk : r.k = 2) : Calls Try.prog 30 #[.agg (rtc r).toArray] w fun e w' => e = .returned (.agg (rtc (bareR r)).toArray) ∧ Below w.heap.size w w' := by
  have H := Lib.hid (fun Z hs => NmW.new w Z hs hr)
  clear hr
  have HF : Hid ({ r with rd := List.replicate 8 0, es := List.replicate 10 0, tg := 0, mc := List.replicate 6 0, v6 := false, pl := z16, pn := 0, lb := 0, l2 := 0 } = bareR r) := Lib.hid (by unfold bareR; rw [if_neg (by omega), if_pos hk])
  have e1 : (r.k == 1) = false := by rw [beq_eq_false_iff_ne]; omega
  have e2 : (r.k == 2) = true := by rw [beq_iff_eq]; omega
  clear hk
  go_enter Try.func30, Try.ntmps30
  go_wp2_with (first
    | (refine any_build rfl 24 rfl (u8s (List.replicate 8 0)) built_rd0 ?_)
    | (refine any_build rfl 26 rfl (u8s (List.replicate 10 0)) built_es0 ?_)
    | (refine any_build rfl 29 rfl (u8s (List.replicate 6 0)) built_mc0 ?_)
    | (refine any_build rfl 34 rfl (pfc false z16 0) built_pf0 ?_)
    | (refine part_to rfl 24 _ _ rfl w.heap.size 1 (u8s (List.replicate 8 0)) rfl rfl ((H.out _ rfl).src.thereAt 1 _ (by decide)) sz_rd0 (one_u8s _) (fun W => NmW w W _) (H.out _ rfl).rd_ ?_; intro W1 hW1; have hcK : W1.cell? ⟨w.heap.size, 0, none⟩ = some (.int .i64 r.k) := hW1.src.cK; have HW1 := Lib.hid hW1; clear hW1)
    | (refine part_to rfl 26 _ _ rfl w.heap.size 9 (u8s (List.replicate 10 0)) rfl rfl (HW1.out.src.thereAt 9 _ (by decide)) sz_es0 (one_u8s _) (fun W => NmW w W _) HW1.out.es ?_; intro W2 hW2; have HW2 := Lib.hid hW2; clear hW2)
    | (refine int_store_to rfl 27 _ _ rfl w.heap.size 19 .u32 0 rfl rfl (HW2.out.src.thereAt 19 1 (by omega)) sz_u32 (fun W => NmW w W _) HW2.out.tg_ ?_; intro W3 hW3; have HW3 := Lib.hid hW3; clear hW3)
    | (refine part_to rfl 29 _ _ rfl w.heap.size 20 (u8s (List.replicate 6 0)) rfl rfl (HW3.out.src.thereAt 20 _ (by decide)) sz_mc0 (one_u8s _) (fun W => NmW w W _) HW3.out.mc_ ?_; intro W4 hW4; have HW4 := Lib.hid hW4; clear hW4)
    | (refine part_to rfl 34 _ _ rfl w.heap.size 26 (pfc false z16 0) rfl rfl (HW4.out.src.thereAt 26 _ (by decide)) sz_pf0 (one_pfc _ _ _) (fun W => NmW w W _) HW4.out.pf_ ?_; intro W5 hW5; have HW5 := Lib.hid hW5; clear hW5)
    | (refine int_store_to rfl 27 _ _ rfl w.heap.size 61 .u32 0 rfl rfl (HW5.out.src.thereAt 61 1 (by omega)) sz_u32 (fun W => NmW w W _) HW5.out.lb ?_; intro W6 hW6; have HW6 := Lib.hid hW6; clear hW6)
    | (refine int_store_to rfl 27 _ _ rfl w.heap.size 62 .u32 0 rfl rfl (HW6.out.src.thereAt 62 1 (by omega)) sz_u32 (fun W => NmW w W (bareR r)) (HF.out ▸ HW6.out.l2) ?_; intro W7 hW7; obtain ⟨Z, hZ, hs⟩ := hW7.res; have HZ := Lib.hid hZ; have HS := Lib.hid hs; have HW7 := Lib.hid hW7; clear hW7 hZ hs)
    | (refine rt_fetch rfl _ rfl w.heap.size (bareR r) HW7.out.ok rfl HW7.out.src ?_)
    | (refine rt_store_to rfl _ _ rfl (w.heap.size + 1) (bareR r) HW7.out.ok rfl rfl 36 Z HZ.out HS.out (fun W' => Blk W' (w.heap.size + 1) 36 (rtc (bareR r)).toArray ∧ Below w.heap.size w W') ⟨Blk.setRow HZ.out _, HW7.out.low.trans (below_setRow _ _ _ (by omega))⟩ ?_; intro WE hWE; have HWE := Lib.hid hWE; clear hWE))
  refine bodyPost_ret (v := .agg (rtc (bareR r)).toArray) ?_ rfl ⟨rfl, HWE.out.2⟩
  exact results_cell_row rfl _ _ (w.heap.size + 1) 36 _ (0, 0) _ rfl HWE.out.1 Try.underlying36 rfl (by rw [rt_size]; simp [rtc_len HW7.out.ok])
set_option maxHeartbeats 4000000 in
set_option maxRecDepth 100000 in
theorem rbare_3 (w : World) (r : Rt) (hr : RtOk r) (hk : r.k = 3) : Calls Try.prog 30 #[.agg (rtc r).toArray] w fun e w' => e = .returned (.agg (rtc (bareR r)).toArray) ∧ Below w.heap.size w w' := by
  have H := Lib.hid (fun Z hs => NmW.new w Z hs hr)
  clear hr
  have HF : Hid ({ r with rd := List.replicate 8 0, tg := 0, v6 := false, pl := z16, pn := 0 } = bareR r) := Lib.hid (by unfold bareR; rw [if_neg (by omega), if_neg (by omega), if_pos hk])
  have e1 : (r.k == 1) = false := by rw [beq_eq_false_iff_ne]; omega
  have e2 : (r.k == 2) = false := by rw [beq_eq_false_iff_ne]; omega
  have e3 : (r.k == 3) = true := by rw [beq_iff_eq]; omega
  clear hk
  go_enter Try.func30, Try.ntmps30
  go_wp2_with (first
    | (refine any_build rfl 24 rfl (u8s (List.replicate 8 0)) built_rd0 ?_)
    | (refine any_build rfl 34 rfl (pfc false z16 0) built_pf0 ?_)
    | (refine part_to rfl 24 _ _ rfl w.heap.size 1 (u8s (List.replicate 8 0)) rfl rfl ((H.out _ rfl).src.thereAt 1 _ (by decide)) sz_rd0 (one_u8s _) (fun W => NmW w W _) (H.out _ rfl).rd_ ?_; intro W1 hW1; have hcK : W1.cell? ⟨w.heap.size, 0, none⟩ = some (.int .i64 r.k) := hW1.src.cK; have HW1 := Lib.hid hW1; clear hW1)
    | (refine int_store_to rfl 27 _ _ rfl w.heap.size 19 .u32 0 rfl rfl (HW1.out.src.thereAt 19 1 (by omega)) sz_u32 (fun W => NmW w W _) HW1.out.tg_ ?_; intro W2 hW2; have HW2 := Lib.hid hW2; clear hW2)
    | (refine part_to rfl 34 _ _ rfl w.heap.size 26 (pfc false z16 0) rfl rfl (HW2.out.src.thereAt 26 _ (by decide)) sz_pf0 (one_pfc _ _ _) (fun W => NmW w W (bareR r)) (HF.out ▸ HW2.out.pf_) ?_; intro W3 hW3; obtain ⟨Z, hZ, hs⟩ := hW3.res; have HZ := Lib.hid hZ; have HS := Lib.hid hs; have HW3 := Lib.hid hW3; clear hW3 hZ hs)
    | (refine rt_fetch rfl _ rfl w.heap.size (bareR r) HW3.out.ok rfl HW3.out.src ?_)
    | (refine rt_store_to rfl _ _ rfl (w.heap.size + 1) (bareR r) HW3.out.ok rfl rfl 36 Z HZ.out HS.out (fun W' => Blk W' (w.heap.size + 1) 36 (rtc (bareR r)).toArray ∧ Below w.heap.size w W') ⟨Blk.setRow HZ.out _, HW3.out.low.trans (below_setRow _ _ _ (by omega))⟩ ?_; intro WE hWE; have HWE := Lib.hid hWE; clear hWE))
  refine bodyPost_ret (v := .agg (rtc (bareR r)).toArray) ?_ rfl ⟨rfl, HWE.out.2⟩
  exact results_cell_row rfl _ _ (w.heap.size + 1) 36 _ (0, 0) _ rfl HWE.out.1 Try.underlying36 rfl (by rw [rt_size]; simp [rtc_len HW3.out.ok])
set_option maxHeartbeats 4000000 in
set_option maxRecDepth 100000 in
theorem rbare_4 (w : World) (r : Rt) (hr : RtOk r) (hk : r.k = 4) : Calls Try.prog 30 #[.agg (rtc r).toArray] w fun e w' => e = .returned (.agg (rtc (bareR r)).toArray) ∧ Below w.heap.size w w' := by
  have H := Lib.hid (fun Z hs => NmW.new w Z hs hr)
  clear hr
  have HF : Hid ({ r with rd := List.replicate 8 0, es := List.replicate 10 0, v6 := false, pl := z16, pn := 0 } = bareR r) := Lib.hid (by unfold bareR; rw [if_neg (by omega), if_neg (by omega), if_neg (by omega), if_pos hk])
  have e1 : (r.k == 1) = false := by rw [beq_eq_false_iff_ne]; omega
  have e2 : (r.k == 2) = false := by rw [beq_eq_false_iff_ne]; omega
  have e3 : (r.k == 3) = false := by rw [beq_eq_false_iff_ne]; omega
  have e4 : (r.k == 4) = true := by rw [beq_iff_eq]; omega
  clear hk
  go_enter Try.func30, Try.ntmps30
  go_wp2_with (first
    | (refine any_build rfl 24 rfl (u8s (List.replicate 8 0)) built_rd0 ?_)
    | (refine any_build rfl 26 rfl (u8s (List.replicate 10 0)) built_es0 ?_)
    | (refine any_build rfl 34 rfl (pfc false z16 0) built_pf0 ?_)
    | (refine part_to rfl 24 _ _ rfl w.heap.size 1 (u8s (List.replicate 8 0)) rfl rfl ((H.out _ rfl).src.thereAt 1 _ (by decide)) sz_rd0 (one_u8s _) (fun W => NmW w W _) (H.out _ rfl).rd_ ?_; intro W1 hW1; have hcK : W1.cell? ⟨w.heap.size, 0, none⟩ = some (.int .i64 r.k) := hW1.src.cK; have HW1 := Lib.hid hW1; clear hW1)
    | (refine part_to rfl 26 _ _ rfl w.heap.size 9 (u8s (List.replicate 10 0)) rfl rfl (HW1.out.src.thereAt 9 _ (by decide)) sz_es0 (one_u8s _) (fun W => NmW w W _) HW1.out.es ?_; intro W2 hW2; have HW2 := Lib.hid hW2; clear hW2)
    | (refine part_to rfl 34 _ _ rfl w.heap.size 26 (pfc false z16 0) rfl rfl (HW2.out.src.thereAt 26 _ (by decide)) sz_pf0 (one_pfc _ _ _) (fun W => NmW w W (bareR r)) (HF.out ▸ HW2.out.pf_) ?_; intro W3 hW3; obtain ⟨Z, hZ, hs⟩ := hW3.res; have HZ := Lib.hid hZ; have HS := Lib.hid hs; have HW3 := Lib.hid hW3; clear hW3 hZ hs)
    | (refine rt_fetch rfl _ rfl w.heap.size (bareR r) HW3.out.ok rfl HW3.out.src ?_)
    | (refine rt_store_to rfl _ _ rfl (w.heap.size + 1) (bareR r) HW3.out.ok rfl rfl 36 Z HZ.out HS.out (fun W' => Blk W' (w.heap.size + 1) 36 (rtc (bareR r)).toArray ∧ Below w.heap.size w W') ⟨Blk.setRow HZ.out _, HW3.out.low.trans (below_setRow _ _ _ (by omega))⟩ ?_; intro WE hWE; have HWE := Lib.hid hWE; clear hWE))
  refine bodyPost_ret (v := .agg (rtc (bareR r)).toArray) ?_ rfl ⟨rfl, HWE.out.2⟩
  exact results_cell_row rfl _ _ (w.heap.size + 1) 36 _ (0, 0) _ rfl HWE.out.1 Try.underlying36 rfl (by rw [rt_size]; simp [rtc_len HW3.out.ok])
set_option maxHeartbeats 4000000 in
set_option maxRecDepth 100000 in
theorem rbare_5 (w : World) (r : Rt) (hr : RtOk r) (hk : r.k = 5) : Calls Try.prog 30 #[.agg (rtc r).toArray] w fun e w' => e = .returned (.agg (rtc (bareR r)).toArray) ∧ Below w.heap.size w w' := by
  have H := Lib.hid (fun Z hs => NmW.new w Z hs hr)
  clear hr
  have HF : Hid ({ r with rd := List.replicate 8 0, es := List.replicate 10 0, tg := 0, v6 := false, pl := z16, pn := 0, gv := false, gl := z16, lb := 0 } = bareR r) := Lib.hid (by unfold bareR; rw [if_neg (by omega), if_neg (by omega), if_neg (by omega), if_neg (by omega), if_pos hk])
  have e1 : (r.k == 1) = false := by rw [beq_eq_false_iff_ne]; omega
  have e2 : (r.k == 2) = false := by rw [beq_eq_false_iff_ne]; omega
  have e3 : (r.k == 3) = false := by rw [beq_eq_false_iff_ne]; omega
  have e4 : (r.k == 4) = false := by rw [beq_eq_false_iff_ne]; omega
  have e5 : (r.k == 5) = true := by rw [beq_iff_eq]; omega
  clear hk
  go_enter Try.func30, Try.ntmps30
  go_wp2_with (first
    | (refine any_build rfl 24 rfl (u8s (List.replicate 8 0)) built_rd0 ?_)
    | (refine any_build rfl 26 rfl (u8s (List.replicate 10 0)) built_es0 ?_)
    | (refine any_build rfl 34 rfl (pfc false z16 0) built_pf0 ?_)
    | (refine any_build rfl 32 rfl (ipc false z16) built_ip0 ?_)
    | (refine part_to rfl 24 _ _ rfl w.heap.size 1 (u8s (List.replicate 8 0)) rfl rfl ((H.out _ rfl).src.thereAt 1 _ (by decide)) sz_rd0 (one_u8s _) (fun W => NmW w W _) (H.out _ rfl).rd_ ?_; intro W1 hW1; have hcK : W1.cell? ⟨w.heap.size, 0, none⟩ = some (.int .i64 r.k) := hW1.src.cK; have HW1 := Lib.hid hW1; clear hW1)
    | (refine part_to rfl 26 _ _ rfl w.heap.size 9 (u8s (List.replicate 10 0)) rfl rfl (HW1.out.src.thereAt 9 _ (by decide)) sz_es0 (one_u8s _) (fun W => NmW w W _) HW1.out.es ?_; intro W2 hW2; have HW2 := Lib.hid hW2; clear hW2)
    | (refine int_store_to rfl 27 _ _ rfl w.heap.size 19 .u32 0 rfl rfl (HW2.out.src.thereAt 19 1 (by omega)) sz_u32 (fun W => NmW w W _) HW2.out.tg_ ?_; intro W3 hW3; have HW3 := Lib.hid hW3; clear hW3)
    | (refine part_to rfl 34 _ _ rfl w.heap.size 26 (pfc false z16 0) rfl rfl (HW3.out.src.thereAt 26 _ (by decide)) sz_pf0 (one_pfc _ _ _) (fun W => NmW w W _) HW3.out.pf_ ?_; intro W4 hW4; have HW4 := Lib.hid hW4; clear hW4)
    | (refine part_to rfl 32 _ _ rfl w.heap.size 44 (ipc false z16) rfl rfl (HW4.out.src.thereAt 44 _ (by decide)) sz_ip0 (one_ipc _ _) (fun W => NmW w W _) HW4.out.gw ?_; intro W5 hW5; have HW5 := Lib.hid hW5; clear hW5)
    | (refine int_store_to rfl 27 _ _ rfl w.heap.size 61 .u32 0 rfl rfl (HW5.out.src.thereAt 61 1 (by omega)) sz_u32 (fun W => NmW w W (bareR r)) (HF.out ▸ HW5.out.lb) ?_; intro W6 hW6; obtain ⟨Z, hZ, hs⟩ := hW6.res; have HZ := Lib.hid hZ; have HS := Lib.hid hs; have HW6 := Lib.hid hW6; clear hW6 hZ hs)
    | (refine rt_fetch rfl _ rfl w.heap.size (bareR r) HW6.out.ok rfl HW6.out.src ?_)
    | (refine rt_store_to rfl _ _ rfl (w.heap.size + 1) (bareR r) HW6.out.ok rfl rfl 36 Z HZ.out HS.out (fun W' => Blk W' (w.heap.size + 1) 36 (rtc (bareR r)).toArray ∧ Below w.heap.size w W') ⟨Blk.setRow HZ.out _, HW6.out.low.trans (below_setRow _ _ _ (by omega))⟩ ?_; intro WE hWE; have HWE := Lib.hid hWE; clear hWE))
  refine bodyPost_ret (v := .agg (rtc (bareR r)).toArray) ?_ rfl ⟨rfl, HWE.out.2⟩
  exact results_cell_row rfl _ _ (w.heap.size + 1) 36 _ (0, 0) _ rfl HWE.out.1 Try.underlying36 rfl (by rw [rt_size]; simp [rtc_len HW6.out.ok])
set_option maxHeartbeats 4000000 in
set_option maxRecDepth 100000 in
theorem rbare_6 (w : World) (r : Rt) (hr : RtOk r) (hk : ¬ (1 ≤ r.k ∧ r.k ≤ 5)) : Calls Try.prog 30 #[.agg (rtc r).toArray] w fun e w' => e = .returned (.agg (rtc (bareR r)).toArray) ∧ Below w.heap.size w w' := by
  have H := Lib.hid (fun Z hs => NmW.new w Z hs hr)
  clear hr
  have HF : Hid ({ r with rd := List.replicate 8 0 } = bareR r) := Lib.hid (by unfold bareR; rw [if_neg (by omega), if_neg (by omega), if_neg (by omega), if_neg (by omega), if_neg (by omega)])
  have e1 : (r.k == 1) = false := by rw [beq_eq_false_iff_ne]; omega
  have e2 : (r.k == 2) = false := by rw [beq_eq_false_iff_ne]; omega
  have e3 : (r.k == 3) = false := by rw [beq_eq_false_iff_ne]; omega
  have e4 : (r.k == 4) = false := by rw [beq_eq_false_iff_ne]; omega
  have e5 : (r.k == 5) = false := by rw [beq_eq_false_iff_ne]; omega
  clear hk
  go_enter Try.func30, Try.ntmps30
  go_wp2_with (first
    | (refine any_build rfl 24 rfl (u8s (List.replicate 8 0)) built_rd0 ?_)
    | (refine part_to rfl 24 _ _ rfl w.heap.size 1 (u8s (List.replicate 8 0)) rfl rfl ((H.out _ rfl).src.thereAt 1 _ (by decide)) sz_rd0 (one_u8s _) (fun W => NmW w W { r with rd := List.replicate 8 0 }) (H.out _ rfl).rd_ ?_; intro W1 hW1; rw [HF.out] at hW1; have hcK : W1.cell? ⟨w.heap.size, 0, none⟩ = some (.int .i64 r.k) := (by have := hW1.src.cK; rw [← HF.out] at this; exact this); obtain ⟨Z, hZ, hs⟩ := hW1.res; have HZ := Lib.hid hZ; have HS := Lib.hid hs; have HW1 := Lib.hid hW1; clear hW1 hZ hs)
    | (refine rt_fetch rfl _ rfl w.heap.size (bareR r) HW1.out.ok rfl HW1.out.src ?_)
    | (refine rt_store_to rfl _ _ rfl (w.heap.size + 1) (bareR r) HW1.out.ok rfl rfl 36 Z HZ.out HS.out (fun W' => Blk W' (w.heap.size + 1) 36 (rtc (bareR r)).toArray ∧ Below w.heap.size w W') ⟨Blk.setRow HZ.out _, HW1.out.low.trans (below_setRow _ _ _ (by omega))⟩ ?_; intro WE hWE; have HWE := Lib.hid hWE; clear hWE))
  refine bodyPost_ret (v := .agg (rtc (bareR r)).toArray) ?_ rfl ⟨rfl, HWE.out.2⟩
  exact results_cell_row rfl _ _ (w.heap.size + 1) 36 _ (0, 0) _ rfl HWE.out.1 Try.underlying36 rfl (by rw [rt_size]; simp [rtc_len HW1.out.ok])
theorem rbare_is (w : World) (r : Rt) (hr : RtOk r) : Calls Try.prog 30 #[.agg (rtc r).toArray] w fun e w' => e = .returned (.agg (rtc (bareR r)).toArray) ∧ Below w.heap.size w w' := by
  by_cases h1 : r.k = 1
  · exact rbare_1 w r hr h1
  by_cases h2 : r.k = 2
  · exact rbare_2 w r hr h2
  by_cases h3 : r.k = 3
  · exact rbare_3 w r hr h3
  by_cases h4 : r.k = 4
  · exact rbare_4 w r hr h4
  by_cases h5 : r.k = 5
  · exact rbare_5 w r hr h5
  exact rbare_6 w r hr (by omega)
theorem bareR_ok {r : Rt} (h : RtOk r) : RtOk (bareR r) := by
  unfold bareR
  have z8 := oct_zeros 8
  have z10 := oct_zeros 10
  have z6 := oct_zeros 6
  have z16' := oct_zeros 16
  have u0 := u32_0
  have i0 : I64 0 := ⟨by omega, by omega⟩
  split
  · exact { h with rd := rfl, ord := z8, es := rfl, oes := z10, tg := u0, lb := u0 }
  split
  · exact { h with rd := rfl, ord := z8, es := rfl, oes := z10, tg := u0, mc := rfl, omc := z6, pl := rfl, opl := z16', pn := i0, lb := u0, l2 := u0 }
  split
  · exact { h with rd := rfl, ord := z8, tg := u0, pl := rfl, opl := z16', pn := i0 }
  split
  · exact { h with rd := rfl, ord := z8, es := rfl, oes := z10, pl := rfl, opl := z16', pn := i0 }
  split
  · exact { h with rd := rfl, ord := z8, es := rfl, oes := z10, tg := u0, pl := rfl, opl := z16', pn := i0, gl := rfl, ogl := z16', lb := u0 }
  · exact { h with rd := rfl, ord := z8 }
end Go.Proofs.Ytickcfcncpnaiaa
namespace Go.Proofs.Ytickcfcncpnaiaa
open Go.RowKit
set_option maxRecDepth 100000
set_option linter.unusedSimpArgs false
set_option linter.unusedVariables false

theorem exec_build1 {o : Oper} {a : Act} {w : World} (ty : TypeId) (x : Operand) (ho : o.op = .build ty #[(0, x)]) (v : Value) (hx : a.eval x = v) (cs : Array Value) (hb : Try.prog.built ty [(0, v)] = some cs) : (execOp a.eval o).run Try.prog w = .ok (.value (.agg cs)) w := by
  unfold execOp
  have he : (#[(0, x)].map fun (i, x) => (i, a.eval x)).toList = [(0, v)] := by simp [hx]
  simp only [ho, Sem.run_bind, run_build w _ _ _ (show Try.prog.built ty ((#[(0, x)] : Array (Nat × Operand)).map fun (i, x) => (i, a.eval x)).toList = some cs by rw [he]; exact hb), Result.andThen_ok]
  rfl
theorem any_buildW {ops : Array Oper} {rest : List Oper} {o : Oper} {a : Act} {w : World} {Q : Exit → Act → World → Prop} (hgd : Region.wanted o (yielded ops a.tmps) = true) (ty : TypeId) (ho : o.op = .build ty #[]) (cs : List Value) (hb : Try.prog.built ty [] = some cs.toArray)
    (h : wpList Try.prog ops Q rest (a.put o.dst (.agg cs.toArray)) w) : wpList Try.prog ops Q (o :: rest) a w :=
  BigFrame.wpList_want hgd fun _ hK => by
    unfold Oper.wp execOp
    simp only [ho, Sem.run_bind, run_build w _ _ _ (show Try.prog.built ty ((#[] : Array (Nat × Operand)).map fun (i, x) => (i, a.eval x)).toList = some cs.toArray by simpa using hb), Result.andThen_ok]
    exact hK _ _ h
def StopAtR (p : Prop) : Prop := p
theorem stop_hereR {P : Program} {ops : Array Oper} {rest : List Oper} {o : Oper} {a : Act} {w : World} {Q : Exit → Act → World → Prop} {n : Nat} (ho : o.dst = some n) (h : StopAtR (wpList P ops Q (o :: rest) a w)) : wpList P ops Q (o :: rest) a w := h
/-- What the first test says. -/
def okR (r : Rt) : Bool := decide (1 ≤ r.k ∧ r.k ≤ 5) && (sameR (bareR r) (rtZ r.k (List.replicate 8 0)) && labelsB r)
theorem bare_own (r : Rt) (h : 1 ≤ r.k ∧ r.k ≤ 5) : sameR (bareR r) (rtZ r.k (List.replicate 8 0)) = sameR r (ownR r) := by
  obtain ⟨k, rd, es, tg, mc, v6, pl, pn, gv, gl, lb, l2⟩ := r
  simp only at h
  unfold bareR ownR sameR rtZ
  simp only
  have : k = 1 ∨ k = 2 ∨ k = 3 ∨ k = 4 ∨ k = 5 := by omega
  rcases this with rfl | rfl | rfl | rfl | rfl <;> simp <;> (try rw [Bool.eq_iff_iff]) <;> (try simp) <;> (try exact and_congr_right fun _ => Iff.rfl)
theorem okR_right (r : Rt) : rightR r = (okR r && addrsB r) := by
  unfold rightR okR
  by_cases h : 1 ≤ r.k ∧ r.k ≤ 5
  · rw [bare_own r h, Bool.and_assoc, Bool.and_assoc]
  · rw [decide_eq_false h]; rfl
/-- The route's box. -/
structure RgW (w W : World) (r : Rt) : Prop where
  src : RtAt W w.heap.size r
  low : Below w.heap.size w W
theorem RgW.step {w W W' : World} {r : Rt} (h : RgW w W r) (hB : Below W.heap.size W W') : RgW w W' r := ⟨h.src.below hB h.src.lt, h.low.trans (hB.mono h.low.size)⟩
theorem RgW.more {w W : World} {r : Rt} (h : RgW w W r) : RgW w W.drew r := ⟨h.src.keep rfl, below_drewN h.low 1⟩
set_option maxHeartbeats 8000000 in
set_option maxRecDepth 100000 in
theorem rright_is (w : World) (r : Rt) (hr : RtOk r) : Calls Try.prog 11 #[.agg (rtc r).toArray] w fun e w' => e = .returned (.int .i64 (errR r)) ∧ Below w.heap.size w w' := by
  have H0 : Hid (RgW w (w.alloc (.cells (rtc r).toArray 36)) r) := Lib.hid ⟨RtAt.new w r hr 36, (Below.refl w.heap.size w).alloc (Nat.le_refl _) _⟩
  have HR := Lib.hid hr
  have HBr := Lib.hid (fun W => rbare_is W r hr)
  obtain ⟨zz, hzz⟩ : ∃ z, z = rtZ r.k (List.replicate 8 0) := ⟨_, rfl⟩
  obtain ⟨bb, hbb⟩ : ∃ z, z = bareR r := ⟨_, rfl⟩
  have HQ := Lib.hid (rt_eql bb zz (by rw [hbb]; exact bareR_ok hr) (by rw [hzz]; exact rtZ_ok r.k (List.replicate 8 0) hr.k rfl (oct_zeros 8)) (sameR bb zz) (sameR_iff _ _))
  have HBd : Hid (Try.prog.built 36 [(0, .int .i64 r.k)] = some (rtc zz).toArray) := Lib.hid (by rw [hzz]; exact built_k r.k)
  rw [← hbb] at HBr
  have HSb : Hid (sameR (bareR r) (rtZ r.k (List.replicate 8 0)) = sameR bb zz) := Lib.hid (by rw [hbb, hzz])
  clear hbb hzz
  have HPF := Lib.hid (fun W => rrpf_is W r.v6 r.pl r.pn hr.pl hr.opl hr.pn)
  have HWH := Lib.hid (fun W => rwhole_is W r.v6 r.pl r.pn hr.pl hr.opl hr.pn)
  have HRI := Lib.hid (fun W => rriL_is W r.gv r.gl hr.gl hr.ogl)
  have HF := Lib.hid (okR_right r)
  have HU := Lib.hid hr.lb
  have HU2 := Lib.hid hr.l2
  have hk0 := hr.k.1
  have hk9 := hr.k.2
  clear hr
  go_enter Try.func11, Try.ntmps11
  go_wp2_with fail
  go_cut [3] (fun s3 wx => s3 = .bool (okR r) ∧ RgW w wx r)
  case first =>
    by_cases h1 : 1 ≤ r.k
    · by_cases h5 : r.k ≤ 5
      · have HO : Hid (okR r = (sameR (bareR r) (rtZ r.k (List.replicate 8 0)) && labelsB r)) := Lib.hid (by unfold okR; rw [decide_eq_true ⟨h1, h5⟩, Bool.true_and])
        have t1 : decide (1 ≤ r.k) = true := decide_eq_true h1
        have t5 : decide (r.k ≤ 5) = true := decide_eq_true h5
        rw [HSb.out] at HO
        generalize sameR bb zz = sb at *
        refine wp_region_held_drew (S := fun W => RgW w W r) (by kernel_rfl) (H0.out.more) (fun hS => ?_)
        refine wpAnyH_take (i := 0) (oi := ⟨some 4, _, _, _, _, _⟩) (v := ?_) rfl (by kernel_rfl) (by kernel_rfl) (by kernel_rfl) (fun _ _ _ h => h) (Or.inl ⟨by rfl, ?_⟩) hS ?_
        rotate_left
        · intro wq hq
          first | (go_simp; done) | (go_simp; rfl)
        try simp only [Act.put, List.setIfInBounds_toArray, List.set_cons_zero, List.set_cons_succ]
        refine wpAnyH_take (i := 1) (oi := ⟨some 5, _, _, _, _, _⟩) (v := ?_) rfl (by kernel_rfl) (by kernel_rfl) (by kernel_rfl) (fun _ _ _ h => h) (Or.inl ⟨by rfl, ?_⟩) hS ?_
        rotate_left
        · intro wq hq
          have hc := hq.src.cK
          first | (go_simp; done) | (go_simp; rfl)
        try simp only [Act.put, List.setIfInBounds_toArray, List.set_cons_zero, List.set_cons_succ]
        refine wpAnyH_take (i := 2) (oi := ⟨some 6, _, _, _, _, _⟩) (v := ?_) rfl (by kernel_rfl) (by kernel_rfl) (by kernel_rfl) (fun _ _ _ h => h) (Or.inl ⟨by rfl, ?_⟩) hS ?_
        rotate_left
        · intro wq hq
          first | (go_simp; done) | (go_simp; rfl)
        try simp only [Act.put, List.setIfInBounds_toArray, List.set_cons_zero, List.set_cons_succ]
        refine wpAnyH_take (i := 3) (oi := ⟨some 7, _, _, _, _, _⟩) (v := ?_) rfl (by kernel_rfl) (by kernel_rfl) (by kernel_rfl) (fun _ _ _ h => h) (Or.inl ⟨by rfl, ?_⟩) hS ?_
        rotate_left
        · intro wq hq
          first | (go_simp; done) | (go_simp; rfl)
        try simp only [Act.put, List.setIfInBounds_toArray, List.set_cons_zero, List.set_cons_succ]
        refine wpAnyH_take (i := 4) (oi := ⟨some 8, _, _, _, _, _⟩) (v := ?_) rfl (by kernel_rfl) (by kernel_rfl) (by kernel_rfl) (fun _ _ _ h => h) (Or.inl ⟨by rfl, ?_⟩) hS ?_
        rotate_left
        · intro wq hq
          first | (go_simp; done) | (go_simp; rfl)
        try simp only [Act.put, List.setIfInBounds_toArray, List.set_cons_zero, List.set_cons_succ]
        refine wpAnyH_take (i := 5) (oi := ⟨some 9, _, _, _, _, _⟩) (v := ?_) rfl (by kernel_rfl) (by kernel_rfl) (by kernel_rfl) (fun _ _ _ h => h) (Or.inl ⟨by rfl, ?_⟩) hS ?_
        rotate_left
        · intro wq hq
          have hc := hq.src.cK
          first | (go_simp; done) | (go_simp; rfl)
        try simp only [Act.put, List.setIfInBounds_toArray, List.set_cons_zero, List.set_cons_succ]
        refine wpAnyH_take (i := 6) (oi := ⟨some 10, _, _, _, _, _⟩) (v := ?_) rfl (by kernel_rfl) (by kernel_rfl) (by kernel_rfl) (fun _ _ _ h => h) (Or.inl ⟨by rfl, ?_⟩) hS ?_
        rotate_left
        · intro wq hq
          first | (go_simp; done) | (go_simp; rfl)
        try simp only [Act.put, List.setIfInBounds_toArray, List.set_cons_zero, List.set_cons_succ]
        refine wpAnyH_take (i := 7) (oi := ⟨some 11, _, _, _, _, _⟩) (v := ?_) rfl (by kernel_rfl) (by kernel_rfl) (by kernel_rfl) (fun _ _ _ h => h) (Or.inl ⟨by rfl, ?_⟩) hS ?_
        rotate_left
        · intro wq hq
          first | (go_simp; done) | (go_simp; rfl)
        try simp only [Act.put, List.setIfInBounds_toArray, List.set_cons_zero, List.set_cons_succ]
        refine wpAnyH_take (i := 8) (oi := ⟨some 12, _, _, _, _, _⟩) (v := ?_) rfl (by kernel_rfl) (by kernel_rfl) (by kernel_rfl) (fun _ _ _ h => h) (Or.inl ⟨by rfl, ?_⟩) hS ?_
        rotate_left
        · intro wq hq
          first | (go_simp; done) | (go_simp; rfl)
        try simp only [Act.put, List.setIfInBounds_toArray, List.set_cons_zero, List.set_cons_succ]
        refine wpAnyH_take (i := 9) (oi := ⟨some 13, _, _, _, _, _⟩) rfl (by kernel_rfl) (by kernel_rfl) (by kernel_rfl) (fun _ _ _ h => h) (yieldsIf_load_mid (by rfl) 36 _ rfl _ _ rfl (rtc r) _ (fun wq hq => hq.src.rng) Try.underlying36 rfl (by rw [rt_size, rtc_len HR.out])) hS ?_
        try simp only [Act.put, List.setIfInBounds_toArray, List.set_cons_zero, List.set_cons_succ]
        refine wpAnyH_take (i := 11) (oi := ⟨some 15, _, _, _, _, _⟩) (v := ?_) rfl (by kernel_rfl) (by kernel_rfl) (by kernel_rfl) (fun _ _ _ h => h) (Or.inl ⟨by rfl, ?_⟩) hS ?_
        rotate_left
        · intro wq hq
          first | (go_simp; done) | (go_simp; rfl)
        try simp only [Act.put, List.setIfInBounds_toArray, List.set_cons_zero, List.set_cons_succ]
        refine wpAnyH_take (i := 12) (oi := ⟨some 16, _, _, _, _, _⟩) (v := ?_) rfl (by kernel_rfl) (by kernel_rfl) (by kernel_rfl) (fun _ _ _ h => h) (Or.inl ⟨by rfl, ?_⟩) hS ?_
        rotate_left
        · intro wq hq
          have hc := hq.src.cK
          first | (go_simp; done) | (go_simp; rfl)
        try simp only [Act.put, List.setIfInBounds_toArray, List.set_cons_zero, List.set_cons_succ]
        refine wpAnyH_take (i := 13) (oi := ⟨some 17, _, _, _, _, _⟩) (v := .agg (rtc zz).toArray) rfl (by kernel_rfl) (by kernel_rfl) (by kernel_rfl) (fun _ _ _ h => h) (Or.inl ⟨by rfl, ?_⟩) hS ?_
        · intro wq hq
          exact exec_build1 36 (.tmp 16) rfl (.int .i64 r.k) rfl _ HBd.out
        try simp only [Act.put, List.setIfInBounds_toArray, List.set_cons_zero, List.set_cons_succ]
        refine wpAnyH_ready (rs := [10]) (by kernel_rfl) (by simp) ?_
        refine AllReadyH.cons (o := ⟨some 14, _, _, _, _, _⟩) rfl (fun K hK => ?_) AllReadyH.nil
        rw [if_pos (by rfl)]
        go_wp2_with fail
        refine (HBr.out _).mono ?_
        rintro e w1 ⟨rfl, hB⟩
        have hS1 := hS.step hB
        clear hB hS
        refine hK.out _ _ (hS1) (fun hS => ?_)
        clear hK K
        try simp only [Act.put, List.setIfInBounds_toArray, List.set_cons_zero, List.set_cons_succ]
        clear hS1
        have hQ := HQ.out
        refine wpAnyH_take (i := 14) (oi := ⟨some 18, _, _, _, _, _⟩) (v := ?_) rfl (by kernel_rfl) (by kernel_rfl) (by kernel_rfl) (fun _ _ _ h => h) (Or.inl ⟨by rfl, ?_⟩) hS ?_
        rotate_left
        · intro wq hq
          first | (go_simp; done) | (go_simp; rfl)
        try simp only [Act.put, List.setIfInBounds_toArray, List.set_cons_zero, List.set_cons_succ]
        clear hQ
        refine wpAnyH_take (i := 15) (oi := ⟨some 19, _, _, _, _, _⟩) (v := ?_) rfl (by kernel_rfl) (by kernel_rfl) (by kernel_rfl) (fun _ _ _ h => h) (Or.inl ⟨by rfl, ?_⟩) hS ?_
        rotate_left
        · intro wq hq
          first | (go_simp; done) | (go_simp; rfl)
        try simp only [Act.put, List.setIfInBounds_toArray, List.set_cons_zero, List.set_cons_succ]
        refine wpAnyH_take (i := 16) (oi := ⟨some 20, _, _, _, _, _⟩) (v := ?_) rfl (by kernel_rfl) (by kernel_rfl) (by kernel_rfl) (fun _ _ _ h => h) (Or.inl ⟨by rfl, ?_⟩) hS ?_
        rotate_left
        · intro wq hq
          first | (go_simp; done) | (go_simp; rfl)
        try simp only [Act.put, List.setIfInBounds_toArray, List.set_cons_zero, List.set_cons_succ]
        cases sb
        · have HO1 : Hid (okR r = false) := Lib.hid (by rw [HO.out]; rfl)
          refine wpAnyH_take (i := 17) (oi := ⟨some 21, _, _, _, _, _⟩) (v := undef) rfl (by kernel_rfl) (by kernel_rfl) (by kernel_rfl) (fun _ _ _ h => h) (Or.inr ⟨by rfl, rfl⟩) hS ?_
          try simp only [Act.put, List.setIfInBounds_toArray, List.set_cons_zero, List.set_cons_succ]
          refine wpAnyH_take (i := 18) (oi := ⟨some 22, _, _, _, _, _⟩) (v := undef) rfl (by kernel_rfl) (by kernel_rfl) (by kernel_rfl) (fun _ _ _ h => h) (Or.inr ⟨by rfl, rfl⟩) hS ?_
          try simp only [Act.put, List.setIfInBounds_toArray, List.set_cons_zero, List.set_cons_succ]
          refine wpAnyH_take (i := 19) (oi := ⟨some 23, _, _, _, _, _⟩) (v := undef) rfl (by kernel_rfl) (by kernel_rfl) (by kernel_rfl) (fun _ _ _ h => h) (Or.inr ⟨by rfl, rfl⟩) hS ?_
          try simp only [Act.put, List.setIfInBounds_toArray, List.set_cons_zero, List.set_cons_succ]
          refine wpAnyH_take (i := 20) (oi := ⟨some 24, _, _, _, _, _⟩) (v := ?_) rfl (by kernel_rfl) (by kernel_rfl) (by kernel_rfl) (fun _ _ _ h => h) (Or.inl ⟨by rfl, ?_⟩) hS ?_
          rotate_left
          · intro wq hq
            first | (go_simp; done) | (go_simp; rfl)
          try simp only [Act.put, List.setIfInBounds_toArray, List.set_cons_zero, List.set_cons_succ]
          refine wpAnyH_take (i := 21) (oi := ⟨some 25, _, _, _, _, _⟩) (v := ?_) rfl (by kernel_rfl) (by kernel_rfl) (by kernel_rfl) (fun _ _ _ h => h) (Or.inl ⟨by rfl, ?_⟩) hS ?_
          rotate_left
          · intro wq hq
            first | (go_simp; done) | (go_simp; rfl)
          try simp only [Act.put, List.setIfInBounds_toArray, List.set_cons_zero, List.set_cons_succ]
          refine wpAnyH_take (i := 22) (oi := ⟨some 26, _, _, _, _, _⟩) (v := undef) rfl (by kernel_rfl) (by kernel_rfl) (by kernel_rfl) (fun _ _ _ h => h) (Or.inr ⟨by rfl, rfl⟩) hS ?_
          try simp only [Act.put, List.setIfInBounds_toArray, List.set_cons_zero, List.set_cons_succ]
          refine wpAnyH_take (i := 23) (oi := ⟨some 27, _, _, _, _, _⟩) (v := undef) rfl (by kernel_rfl) (by kernel_rfl) (by kernel_rfl) (fun _ _ _ h => h) (Or.inr ⟨by rfl, rfl⟩) hS ?_
          try simp only [Act.put, List.setIfInBounds_toArray, List.set_cons_zero, List.set_cons_succ]
          refine wpAnyH_take (i := 24) (oi := ⟨some 28, _, _, _, _, _⟩) (v := undef) rfl (by kernel_rfl) (by kernel_rfl) (by kernel_rfl) (fun _ _ _ h => h) (Or.inr ⟨by rfl, rfl⟩) hS ?_
          try simp only [Act.put, List.setIfInBounds_toArray, List.set_cons_zero, List.set_cons_succ]
          refine wpAnyH_take (i := 25) (oi := ⟨some 29, _, _, _, _, _⟩) (v := ?_) rfl (by kernel_rfl) (by kernel_rfl) (by kernel_rfl) (fun _ _ _ h => h) (Or.inl ⟨by rfl, ?_⟩) hS ?_
          rotate_left
          · intro wq hq
            first | (go_simp; done) | (go_simp; rfl)
          try simp only [Act.put, List.setIfInBounds_toArray, List.set_cons_zero, List.set_cons_succ]
          refine wpAnyH_take (i := 26) (oi := ⟨some 3, _, _, _, _, _⟩) (v := ?_) rfl (by kernel_rfl) (by kernel_rfl) (by kernel_rfl) (fun _ _ _ h => h) (Or.inl ⟨by rfl, ?_⟩) hS ?_
          rotate_left
          · intro wq hq
            first | (go_simp; done) | (go_simp; rfl)
          try simp only [Act.put, List.setIfInBounds_toArray, List.set_cons_zero, List.set_cons_succ]
          refine wpAnyH_done (by kernel_rfl) ?_ _
          go_wp2_with fail
          go_meet
          exact ⟨by rw [HO1.out], hS⟩
        · skip
          refine wpAnyH_take (i := 17) (oi := ⟨some 21, _, _, _, _, _⟩) (v := ?_) rfl (by kernel_rfl) (by kernel_rfl) (by kernel_rfl) (fun _ _ _ h => h) (Or.inl ⟨by rfl, ?_⟩) hS ?_
          rotate_left
          · intro wq hq
            first | (go_simp; done) | (go_simp; rfl)
          try simp only [Act.put, List.setIfInBounds_toArray, List.set_cons_zero, List.set_cons_succ]
          refine wpAnyH_take (i := 18) (oi := ⟨some 22, _, _, _, _, _⟩) (v := ?_) rfl (by kernel_rfl) (by kernel_rfl) (by kernel_rfl) (fun _ _ _ h => h) (Or.inl ⟨by rfl, ?_⟩) hS ?_
          rotate_left
          · intro wq hq
            have hc := hq.src.cLb HR.out
            first | (go_simp; done) | (go_simp; rfl)
          try simp only [Act.put, List.setIfInBounds_toArray, List.set_cons_zero, List.set_cons_succ]
          by_cases hlb : r.lb ≤ 16777215
          · have u1 : decide (r.lb ≤ 16777215) = true := decide_eq_true hlb
            have HO1 : Hid (okR r = decide (r.l2 ≤ 16777215)) := Lib.hid (by rw [HO.out, Bool.true_and]; unfold labelsB; rw [u1, Bool.true_and])
            refine wpAnyH_take (i := 19) (oi := ⟨some 23, _, _, _, _, _⟩) (v := ?_) rfl (by kernel_rfl) (by kernel_rfl) (by kernel_rfl) (fun _ _ _ h => h) (Or.inl ⟨by rfl, ?_⟩) hS ?_
            rotate_left
            · intro wq hq
              first | (go_simp; done) | (go_simp; rfl)
            try simp only [Act.put, List.setIfInBounds_toArray, List.set_cons_zero, List.set_cons_succ]
            refine wpAnyH_take (i := 20) (oi := ⟨some 24, _, _, _, _, _⟩) (v := ?_) rfl (by kernel_rfl) (by kernel_rfl) (by kernel_rfl) (fun _ _ _ h => h) (Or.inl ⟨by rfl, ?_⟩) hS ?_
            rotate_left
            · intro wq hq
              first | (go_simp; done) | (go_simp; rfl)
            try simp only [Act.put, List.setIfInBounds_toArray, List.set_cons_zero, List.set_cons_succ]
            refine wpAnyH_take (i := 21) (oi := ⟨some 25, _, _, _, _, _⟩) (v := ?_) rfl (by kernel_rfl) (by kernel_rfl) (by kernel_rfl) (fun _ _ _ h => h) (Or.inl ⟨by rfl, ?_⟩) hS ?_
            rotate_left
            · intro wq hq
              first | (go_simp; done) | (go_simp; rfl)
            try simp only [Act.put, List.setIfInBounds_toArray, List.set_cons_zero, List.set_cons_succ]
            refine wpAnyH_take (i := 22) (oi := ⟨some 26, _, _, _, _, _⟩) (v := ?_) rfl (by kernel_rfl) (by kernel_rfl) (by kernel_rfl) (fun _ _ _ h => h) (Or.inl ⟨by rfl, ?_⟩) hS ?_
            rotate_left
            · intro wq hq
              first | (go_simp; done) | (go_simp; rfl)
            try simp only [Act.put, List.setIfInBounds_toArray, List.set_cons_zero, List.set_cons_succ]
            refine wpAnyH_take (i := 23) (oi := ⟨some 27, _, _, _, _, _⟩) (v := ?_) rfl (by kernel_rfl) (by kernel_rfl) (by kernel_rfl) (fun _ _ _ h => h) (Or.inl ⟨by rfl, ?_⟩) hS ?_
            rotate_left
            · intro wq hq
              have hc := hq.src.cL2 HR.out
              first | (go_simp; done) | (go_simp; rfl)
            try simp only [Act.put, List.setIfInBounds_toArray, List.set_cons_zero, List.set_cons_succ]
            clear hlb
            refine wpAnyH_take (i := 24) (oi := ⟨some 28, _, _, _, _, _⟩) (v := ?_) rfl (by kernel_rfl) (by kernel_rfl) (by kernel_rfl) (fun _ _ _ h => h) (Or.inl ⟨by rfl, ?_⟩) hS ?_
            rotate_left
            · intro wq hq
              first | (go_simp; done) | (go_simp; rfl)
            try simp only [Act.put, List.setIfInBounds_toArray, List.set_cons_zero, List.set_cons_succ]
            refine wpAnyH_take (i := 25) (oi := ⟨some 29, _, _, _, _, _⟩) (v := ?_) rfl (by kernel_rfl) (by kernel_rfl) (by kernel_rfl) (fun _ _ _ h => h) (Or.inl ⟨by rfl, ?_⟩) hS ?_
            rotate_left
            · intro wq hq
              first | (go_simp; done) | (go_simp; rfl)
            try simp only [Act.put, List.setIfInBounds_toArray, List.set_cons_zero, List.set_cons_succ]
            refine wpAnyH_take (i := 26) (oi := ⟨some 3, _, _, _, _, _⟩) (v := ?_) rfl (by kernel_rfl) (by kernel_rfl) (by kernel_rfl) (fun _ _ _ h => h) (Or.inl ⟨by rfl, ?_⟩) hS ?_
            rotate_left
            · intro wq hq
              first | (go_simp; done) | (go_simp; rfl)
            try simp only [Act.put, List.setIfInBounds_toArray, List.set_cons_zero, List.set_cons_succ]
            refine wpAnyH_done (by kernel_rfl) ?_ _
            go_wp2_with fail
            go_meet
            exact ⟨by rw [HO1.out], hS⟩
          · have u1 : decide (r.lb ≤ 16777215) = false := decide_eq_false hlb
            have HO1 : Hid (okR r = false) := Lib.hid (by rw [HO.out, Bool.true_and]; unfold labelsB; rw [u1]; rfl)
            clear hlb
            refine wpAnyH_take (i := 19) (oi := ⟨some 23, _, _, _, _, _⟩) (v := ?_) rfl (by kernel_rfl) (by kernel_rfl) (by kernel_rfl) (fun _ _ _ h => h) (Or.inl ⟨by rfl, ?_⟩) hS ?_
            rotate_left
            · intro wq hq
              first | (go_simp; done) | (go_simp; rfl)
            try simp only [Act.put, List.setIfInBounds_toArray, List.set_cons_zero, List.set_cons_succ]
            refine wpAnyH_take (i := 20) (oi := ⟨some 24, _, _, _, _, _⟩) (v := ?_) rfl (by kernel_rfl) (by kernel_rfl) (by kernel_rfl) (fun _ _ _ h => h) (Or.inl ⟨by rfl, ?_⟩) hS ?_
            rotate_left
            · intro wq hq
              first | (go_simp; done) | (go_simp; rfl)
            try simp only [Act.put, List.setIfInBounds_toArray, List.set_cons_zero, List.set_cons_succ]
            refine wpAnyH_take (i := 21) (oi := ⟨some 25, _, _, _, _, _⟩) (v := ?_) rfl (by kernel_rfl) (by kernel_rfl) (by kernel_rfl) (fun _ _ _ h => h) (Or.inl ⟨by rfl, ?_⟩) hS ?_
            rotate_left
            · intro wq hq
              first | (go_simp; done) | (go_simp; rfl)
            try simp only [Act.put, List.setIfInBounds_toArray, List.set_cons_zero, List.set_cons_succ]
            refine wpAnyH_take (i := 22) (oi := ⟨some 26, _, _, _, _, _⟩) (v := undef) rfl (by kernel_rfl) (by kernel_rfl) (by kernel_rfl) (fun _ _ _ h => h) (Or.inr ⟨by rfl, rfl⟩) hS ?_
            try simp only [Act.put, List.setIfInBounds_toArray, List.set_cons_zero, List.set_cons_succ]
            refine wpAnyH_take (i := 23) (oi := ⟨some 27, _, _, _, _, _⟩) (v := undef) rfl (by kernel_rfl) (by kernel_rfl) (by kernel_rfl) (fun _ _ _ h => h) (Or.inr ⟨by rfl, rfl⟩) hS ?_
            try simp only [Act.put, List.setIfInBounds_toArray, List.set_cons_zero, List.set_cons_succ]
            refine wpAnyH_take (i := 24) (oi := ⟨some 28, _, _, _, _, _⟩) (v := undef) rfl (by kernel_rfl) (by kernel_rfl) (by kernel_rfl) (fun _ _ _ h => h) (Or.inr ⟨by rfl, rfl⟩) hS ?_
            try simp only [Act.put, List.setIfInBounds_toArray, List.set_cons_zero, List.set_cons_succ]
            refine wpAnyH_take (i := 25) (oi := ⟨some 29, _, _, _, _, _⟩) (v := ?_) rfl (by kernel_rfl) (by kernel_rfl) (by kernel_rfl) (fun _ _ _ h => h) (Or.inl ⟨by rfl, ?_⟩) hS ?_
            rotate_left
            · intro wq hq
              first | (go_simp; done) | (go_simp; rfl)
            try simp only [Act.put, List.setIfInBounds_toArray, List.set_cons_zero, List.set_cons_succ]
            refine wpAnyH_take (i := 26) (oi := ⟨some 3, _, _, _, _, _⟩) (v := ?_) rfl (by kernel_rfl) (by kernel_rfl) (by kernel_rfl) (fun _ _ _ h => h) (Or.inl ⟨by rfl, ?_⟩) hS ?_
            rotate_left
            · intro wq hq
              first | (go_simp; done) | (go_simp; rfl)
            try simp only [Act.put, List.setIfInBounds_toArray, List.set_cons_zero, List.set_cons_succ]
            refine wpAnyH_done (by kernel_rfl) ?_ _
            go_wp2_with fail
            go_meet
            exact ⟨by rw [HO1.out], hS⟩
      · have t1 : decide (1 ≤ r.k) = true := decide_eq_true h1
        have t5 : decide (r.k ≤ 5) = false := decide_eq_false h5
        have HO1 : Hid (okR r = false) := Lib.hid (by unfold okR; rw [decide_eq_false (fun h => h5 h.2)]; rfl)
        clear h5
        refine wp_region_held_drew (S := fun W => RgW w W r) (by kernel_rfl) (H0.out.more) (fun hS => ?_)
        refine wpAnyH_take (i := 0) (oi := ⟨some 4, _, _, _, _, _⟩) (v := ?_) rfl (by kernel_rfl) (by kernel_rfl) (by kernel_rfl) (fun _ _ _ h => h) (Or.inl ⟨by rfl, ?_⟩) hS ?_
        rotate_left
        · intro wq hq
          first | (go_simp; done) | (go_simp; rfl)
        try simp only [Act.put, List.setIfInBounds_toArray, List.set_cons_zero, List.set_cons_succ]
        refine wpAnyH_take (i := 1) (oi := ⟨some 5, _, _, _, _, _⟩) (v := ?_) rfl (by kernel_rfl) (by kernel_rfl) (by kernel_rfl) (fun _ _ _ h => h) (Or.inl ⟨by rfl, ?_⟩) hS ?_
        rotate_left
        · intro wq hq
          have hc := hq.src.cK
          first | (go_simp; done) | (go_simp; rfl)
        try simp only [Act.put, List.setIfInBounds_toArray, List.set_cons_zero, List.set_cons_succ]
        refine wpAnyH_take (i := 2) (oi := ⟨some 6, _, _, _, _, _⟩) (v := ?_) rfl (by kernel_rfl) (by kernel_rfl) (by kernel_rfl) (fun _ _ _ h => h) (Or.inl ⟨by rfl, ?_⟩) hS ?_
        rotate_left
        · intro wq hq
          first | (go_simp; done) | (go_simp; rfl)
        try simp only [Act.put, List.setIfInBounds_toArray, List.set_cons_zero, List.set_cons_succ]
        refine wpAnyH_take (i := 3) (oi := ⟨some 7, _, _, _, _, _⟩) (v := ?_) rfl (by kernel_rfl) (by kernel_rfl) (by kernel_rfl) (fun _ _ _ h => h) (Or.inl ⟨by rfl, ?_⟩) hS ?_
        rotate_left
        · intro wq hq
          first | (go_simp; done) | (go_simp; rfl)
        try simp only [Act.put, List.setIfInBounds_toArray, List.set_cons_zero, List.set_cons_succ]
        refine wpAnyH_take (i := 4) (oi := ⟨some 8, _, _, _, _, _⟩) (v := ?_) rfl (by kernel_rfl) (by kernel_rfl) (by kernel_rfl) (fun _ _ _ h => h) (Or.inl ⟨by rfl, ?_⟩) hS ?_
        rotate_left
        · intro wq hq
          first | (go_simp; done) | (go_simp; rfl)
        try simp only [Act.put, List.setIfInBounds_toArray, List.set_cons_zero, List.set_cons_succ]
        refine wpAnyH_take (i := 5) (oi := ⟨some 9, _, _, _, _, _⟩) (v := ?_) rfl (by kernel_rfl) (by kernel_rfl) (by kernel_rfl) (fun _ _ _ h => h) (Or.inl ⟨by rfl, ?_⟩) hS ?_
        rotate_left
        · intro wq hq
          have hc := hq.src.cK
          first | (go_simp; done) | (go_simp; rfl)
        try simp only [Act.put, List.setIfInBounds_toArray, List.set_cons_zero, List.set_cons_succ]
        refine wpAnyH_take (i := 6) (oi := ⟨some 10, _, _, _, _, _⟩) (v := ?_) rfl (by kernel_rfl) (by kernel_rfl) (by kernel_rfl) (fun _ _ _ h => h) (Or.inl ⟨by rfl, ?_⟩) hS ?_
        rotate_left
        · intro wq hq
          first | (go_simp; done) | (go_simp; rfl)
        try simp only [Act.put, List.setIfInBounds_toArray, List.set_cons_zero, List.set_cons_succ]
        refine wpAnyH_take (i := 7) (oi := ⟨some 11, _, _, _, _, _⟩) (v := ?_) rfl (by kernel_rfl) (by kernel_rfl) (by kernel_rfl) (fun _ _ _ h => h) (Or.inl ⟨by rfl, ?_⟩) hS ?_
        rotate_left
        · intro wq hq
          first | (go_simp; done) | (go_simp; rfl)
        try simp only [Act.put, List.setIfInBounds_toArray, List.set_cons_zero, List.set_cons_succ]
        refine wpAnyH_take (i := 8) (oi := ⟨some 12, _, _, _, _, _⟩) (v := ?_) rfl (by kernel_rfl) (by kernel_rfl) (by kernel_rfl) (fun _ _ _ h => h) (Or.inl ⟨by rfl, ?_⟩) hS ?_
        rotate_left
        · intro wq hq
          first | (go_simp; done) | (go_simp; rfl)
        try simp only [Act.put, List.setIfInBounds_toArray, List.set_cons_zero, List.set_cons_succ]
        refine wpAnyH_take (i := 9) (oi := ⟨some 13, _, _, _, _, _⟩) (v := undef) rfl (by kernel_rfl) (by kernel_rfl) (by kernel_rfl) (fun _ _ _ h => h) (Or.inr ⟨by rfl, rfl⟩) hS ?_
        try simp only [Act.put, List.setIfInBounds_toArray, List.set_cons_zero, List.set_cons_succ]
        refine wpAnyH_take (i := 10) (oi := ⟨some 14, _, _, _, _, _⟩) (v := undef) rfl (by kernel_rfl) (by kernel_rfl) (by kernel_rfl) (fun _ _ _ h => h) (Or.inr ⟨by rfl, rfl⟩) hS ?_
        try simp only [Act.put, List.setIfInBounds_toArray, List.set_cons_zero, List.set_cons_succ]
        refine wpAnyH_take (i := 11) (oi := ⟨some 15, _, _, _, _, _⟩) (v := undef) rfl (by kernel_rfl) (by kernel_rfl) (by kernel_rfl) (fun _ _ _ h => h) (Or.inr ⟨by rfl, rfl⟩) hS ?_
        try simp only [Act.put, List.setIfInBounds_toArray, List.set_cons_zero, List.set_cons_succ]
        refine wpAnyH_take (i := 12) (oi := ⟨some 16, _, _, _, _, _⟩) (v := undef) rfl (by kernel_rfl) (by kernel_rfl) (by kernel_rfl) (fun _ _ _ h => h) (Or.inr ⟨by rfl, rfl⟩) hS ?_
        try simp only [Act.put, List.setIfInBounds_toArray, List.set_cons_zero, List.set_cons_succ]
        refine wpAnyH_take (i := 13) (oi := ⟨some 17, _, _, _, _, _⟩) (v := undef) rfl (by kernel_rfl) (by kernel_rfl) (by kernel_rfl) (fun _ _ _ h => h) (Or.inr ⟨by rfl, rfl⟩) hS ?_
        try simp only [Act.put, List.setIfInBounds_toArray, List.set_cons_zero, List.set_cons_succ]
        refine wpAnyH_take (i := 14) (oi := ⟨some 18, _, _, _, _, _⟩) (v := undef) rfl (by kernel_rfl) (by kernel_rfl) (by kernel_rfl) (fun _ _ _ h => h) (Or.inr ⟨by rfl, rfl⟩) hS ?_
        try simp only [Act.put, List.setIfInBounds_toArray, List.set_cons_zero, List.set_cons_succ]
        refine wpAnyH_take (i := 15) (oi := ⟨some 19, _, _, _, _, _⟩) (v := ?_) rfl (by kernel_rfl) (by kernel_rfl) (by kernel_rfl) (fun _ _ _ h => h) (Or.inl ⟨by rfl, ?_⟩) hS ?_
        rotate_left
        · intro wq hq
          first | (go_simp; done) | (go_simp; rfl)
        try simp only [Act.put, List.setIfInBounds_toArray, List.set_cons_zero, List.set_cons_succ]
        refine wpAnyH_take (i := 16) (oi := ⟨some 20, _, _, _, _, _⟩) (v := ?_) rfl (by kernel_rfl) (by kernel_rfl) (by kernel_rfl) (fun _ _ _ h => h) (Or.inl ⟨by rfl, ?_⟩) hS ?_
        rotate_left
        · intro wq hq
          first | (go_simp; done) | (go_simp; rfl)
        try simp only [Act.put, List.setIfInBounds_toArray, List.set_cons_zero, List.set_cons_succ]
        refine wpAnyH_take (i := 17) (oi := ⟨some 21, _, _, _, _, _⟩) (v := undef) rfl (by kernel_rfl) (by kernel_rfl) (by kernel_rfl) (fun _ _ _ h => h) (Or.inr ⟨by rfl, rfl⟩) hS ?_
        try simp only [Act.put, List.setIfInBounds_toArray, List.set_cons_zero, List.set_cons_succ]
        refine wpAnyH_take (i := 18) (oi := ⟨some 22, _, _, _, _, _⟩) (v := undef) rfl (by kernel_rfl) (by kernel_rfl) (by kernel_rfl) (fun _ _ _ h => h) (Or.inr ⟨by rfl, rfl⟩) hS ?_
        try simp only [Act.put, List.setIfInBounds_toArray, List.set_cons_zero, List.set_cons_succ]
        refine wpAnyH_take (i := 19) (oi := ⟨some 23, _, _, _, _, _⟩) (v := undef) rfl (by kernel_rfl) (by kernel_rfl) (by kernel_rfl) (fun _ _ _ h => h) (Or.inr ⟨by rfl, rfl⟩) hS ?_
        try simp only [Act.put, List.setIfInBounds_toArray, List.set_cons_zero, List.set_cons_succ]
        refine wpAnyH_take (i := 20) (oi := ⟨some 24, _, _, _, _, _⟩) (v := ?_) rfl (by kernel_rfl) (by kernel_rfl) (by kernel_rfl) (fun _ _ _ h => h) (Or.inl ⟨by rfl, ?_⟩) hS ?_
        rotate_left
        · intro wq hq
          first | (go_simp; done) | (go_simp; rfl)
        try simp only [Act.put, List.setIfInBounds_toArray, List.set_cons_zero, List.set_cons_succ]
        refine wpAnyH_take (i := 21) (oi := ⟨some 25, _, _, _, _, _⟩) (v := ?_) rfl (by kernel_rfl) (by kernel_rfl) (by kernel_rfl) (fun _ _ _ h => h) (Or.inl ⟨by rfl, ?_⟩) hS ?_
        rotate_left
        · intro wq hq
          first | (go_simp; done) | (go_simp; rfl)
        try simp only [Act.put, List.setIfInBounds_toArray, List.set_cons_zero, List.set_cons_succ]
        refine wpAnyH_take (i := 22) (oi := ⟨some 26, _, _, _, _, _⟩) (v := undef) rfl (by kernel_rfl) (by kernel_rfl) (by kernel_rfl) (fun _ _ _ h => h) (Or.inr ⟨by rfl, rfl⟩) hS ?_
        try simp only [Act.put, List.setIfInBounds_toArray, List.set_cons_zero, List.set_cons_succ]
        refine wpAnyH_take (i := 23) (oi := ⟨some 27, _, _, _, _, _⟩) (v := undef) rfl (by kernel_rfl) (by kernel_rfl) (by kernel_rfl) (fun _ _ _ h => h) (Or.inr ⟨by rfl, rfl⟩) hS ?_
        try simp only [Act.put, List.setIfInBounds_toArray, List.set_cons_zero, List.set_cons_succ]
        refine wpAnyH_take (i := 24) (oi := ⟨some 28, _, _, _, _, _⟩) (v := undef) rfl (by kernel_rfl) (by kernel_rfl) (by kernel_rfl) (fun _ _ _ h => h) (Or.inr ⟨by rfl, rfl⟩) hS ?_
        try simp only [Act.put, List.setIfInBounds_toArray, List.set_cons_zero, List.set_cons_succ]
        refine wpAnyH_take (i := 25) (oi := ⟨some 29, _, _, _, _, _⟩) (v := ?_) rfl (by kernel_rfl) (by kernel_rfl) (by kernel_rfl) (fun _ _ _ h => h) (Or.inl ⟨by rfl, ?_⟩) hS ?_
        rotate_left
        · intro wq hq
          first | (go_simp; done) | (go_simp; rfl)
        try simp only [Act.put, List.setIfInBounds_toArray, List.set_cons_zero, List.set_cons_succ]
        refine wpAnyH_take (i := 26) (oi := ⟨some 3, _, _, _, _, _⟩) (v := ?_) rfl (by kernel_rfl) (by kernel_rfl) (by kernel_rfl) (fun _ _ _ h => h) (Or.inl ⟨by rfl, ?_⟩) hS ?_
        rotate_left
        · intro wq hq
          first | (go_simp; done) | (go_simp; rfl)
        try simp only [Act.put, List.setIfInBounds_toArray, List.set_cons_zero, List.set_cons_succ]
        refine wpAnyH_done (by kernel_rfl) ?_ _
        go_wp2_with fail
        go_meet
        exact ⟨by rw [HO1.out], hS⟩
    · skip
      have t1 : decide (1 ≤ r.k) = false := decide_eq_false h1
      have HO1 : Hid (okR r = false) := Lib.hid (by unfold okR; rw [decide_eq_false (fun h => h1 h.1)]; rfl)
      clear h1
      refine wp_region_held_drew (S := fun W => RgW w W r) (by kernel_rfl) (H0.out.more) (fun hS => ?_)
      refine wpAnyH_take (i := 0) (oi := ⟨some 4, _, _, _, _, _⟩) (v := ?_) rfl (by kernel_rfl) (by kernel_rfl) (by kernel_rfl) (fun _ _ _ h => h) (Or.inl ⟨by rfl, ?_⟩) hS ?_
      rotate_left
      · intro wq hq
        first | (go_simp; done) | (go_simp; rfl)
      try simp only [Act.put, List.setIfInBounds_toArray, List.set_cons_zero, List.set_cons_succ]
      refine wpAnyH_take (i := 1) (oi := ⟨some 5, _, _, _, _, _⟩) (v := ?_) rfl (by kernel_rfl) (by kernel_rfl) (by kernel_rfl) (fun _ _ _ h => h) (Or.inl ⟨by rfl, ?_⟩) hS ?_
      rotate_left
      · intro wq hq
        have hc := hq.src.cK
        first | (go_simp; done) | (go_simp; rfl)
      try simp only [Act.put, List.setIfInBounds_toArray, List.set_cons_zero, List.set_cons_succ]
      refine wpAnyH_take (i := 2) (oi := ⟨some 6, _, _, _, _, _⟩) (v := ?_) rfl (by kernel_rfl) (by kernel_rfl) (by kernel_rfl) (fun _ _ _ h => h) (Or.inl ⟨by rfl, ?_⟩) hS ?_
      rotate_left
      · intro wq hq
        first | (go_simp; done) | (go_simp; rfl)
      try simp only [Act.put, List.setIfInBounds_toArray, List.set_cons_zero, List.set_cons_succ]
      refine wpAnyH_take (i := 3) (oi := ⟨some 7, _, _, _, _, _⟩) (v := ?_) rfl (by kernel_rfl) (by kernel_rfl) (by kernel_rfl) (fun _ _ _ h => h) (Or.inl ⟨by rfl, ?_⟩) hS ?_
      rotate_left
      · intro wq hq
        first | (go_simp; done) | (go_simp; rfl)
      try simp only [Act.put, List.setIfInBounds_toArray, List.set_cons_zero, List.set_cons_succ]
      refine wpAnyH_take (i := 4) (oi := ⟨some 8, _, _, _, _, _⟩) (v := undef) rfl (by kernel_rfl) (by kernel_rfl) (by kernel_rfl) (fun _ _ _ h => h) (Or.inr ⟨by rfl, rfl⟩) hS ?_
      try simp only [Act.put, List.setIfInBounds_toArray, List.set_cons_zero, List.set_cons_succ]
      refine wpAnyH_take (i := 5) (oi := ⟨some 9, _, _, _, _, _⟩) (v := undef) rfl (by kernel_rfl) (by kernel_rfl) (by kernel_rfl) (fun _ _ _ h => h) (Or.inr ⟨by rfl, rfl⟩) hS ?_
      try simp only [Act.put, List.setIfInBounds_toArray, List.set_cons_zero, List.set_cons_succ]
      refine wpAnyH_take (i := 6) (oi := ⟨some 10, _, _, _, _, _⟩) (v := undef) rfl (by kernel_rfl) (by kernel_rfl) (by kernel_rfl) (fun _ _ _ h => h) (Or.inr ⟨by rfl, rfl⟩) hS ?_
      try simp only [Act.put, List.setIfInBounds_toArray, List.set_cons_zero, List.set_cons_succ]
      refine wpAnyH_take (i := 7) (oi := ⟨some 11, _, _, _, _, _⟩) (v := ?_) rfl (by kernel_rfl) (by kernel_rfl) (by kernel_rfl) (fun _ _ _ h => h) (Or.inl ⟨by rfl, ?_⟩) hS ?_
      rotate_left
      · intro wq hq
        first | (go_simp; done) | (go_simp; rfl)
      try simp only [Act.put, List.setIfInBounds_toArray, List.set_cons_zero, List.set_cons_succ]
      refine wpAnyH_take (i := 8) (oi := ⟨some 12, _, _, _, _, _⟩) (v := ?_) rfl (by kernel_rfl) (by kernel_rfl) (by kernel_rfl) (fun _ _ _ h => h) (Or.inl ⟨by rfl, ?_⟩) hS ?_
      rotate_left
      · intro wq hq
        first | (go_simp; done) | (go_simp; rfl)
      try simp only [Act.put, List.setIfInBounds_toArray, List.set_cons_zero, List.set_cons_succ]
      refine wpAnyH_take (i := 9) (oi := ⟨some 13, _, _, _, _, _⟩) (v := undef) rfl (by kernel_rfl) (by kernel_rfl) (by kernel_rfl) (fun _ _ _ h => h) (Or.inr ⟨by rfl, rfl⟩) hS ?_
      try simp only [Act.put, List.setIfInBounds_toArray, List.set_cons_zero, List.set_cons_succ]
      refine wpAnyH_take (i := 10) (oi := ⟨some 14, _, _, _, _, _⟩) (v := undef) rfl (by kernel_rfl) (by kernel_rfl) (by kernel_rfl) (fun _ _ _ h => h) (Or.inr ⟨by rfl, rfl⟩) hS ?_
      try simp only [Act.put, List.setIfInBounds_toArray, List.set_cons_zero, List.set_cons_succ]
      refine wpAnyH_take (i := 11) (oi := ⟨some 15, _, _, _, _, _⟩) (v := undef) rfl (by kernel_rfl) (by kernel_rfl) (by kernel_rfl) (fun _ _ _ h => h) (Or.inr ⟨by rfl, rfl⟩) hS ?_
      try simp only [Act.put, List.setIfInBounds_toArray, List.set_cons_zero, List.set_cons_succ]
      refine wpAnyH_take (i := 12) (oi := ⟨some 16, _, _, _, _, _⟩) (v := undef) rfl (by kernel_rfl) (by kernel_rfl) (by kernel_rfl) (fun _ _ _ h => h) (Or.inr ⟨by rfl, rfl⟩) hS ?_
      try simp only [Act.put, List.setIfInBounds_toArray, List.set_cons_zero, List.set_cons_succ]
      refine wpAnyH_take (i := 13) (oi := ⟨some 17, _, _, _, _, _⟩) (v := undef) rfl (by kernel_rfl) (by kernel_rfl) (by kernel_rfl) (fun _ _ _ h => h) (Or.inr ⟨by rfl, rfl⟩) hS ?_
      try simp only [Act.put, List.setIfInBounds_toArray, List.set_cons_zero, List.set_cons_succ]
      refine wpAnyH_take (i := 14) (oi := ⟨some 18, _, _, _, _, _⟩) (v := undef) rfl (by kernel_rfl) (by kernel_rfl) (by kernel_rfl) (fun _ _ _ h => h) (Or.inr ⟨by rfl, rfl⟩) hS ?_
      try simp only [Act.put, List.setIfInBounds_toArray, List.set_cons_zero, List.set_cons_succ]
      refine wpAnyH_take (i := 15) (oi := ⟨some 19, _, _, _, _, _⟩) (v := ?_) rfl (by kernel_rfl) (by kernel_rfl) (by kernel_rfl) (fun _ _ _ h => h) (Or.inl ⟨by rfl, ?_⟩) hS ?_
      rotate_left
      · intro wq hq
        first | (go_simp; done) | (go_simp; rfl)
      try simp only [Act.put, List.setIfInBounds_toArray, List.set_cons_zero, List.set_cons_succ]
      refine wpAnyH_take (i := 16) (oi := ⟨some 20, _, _, _, _, _⟩) (v := ?_) rfl (by kernel_rfl) (by kernel_rfl) (by kernel_rfl) (fun _ _ _ h => h) (Or.inl ⟨by rfl, ?_⟩) hS ?_
      rotate_left
      · intro wq hq
        first | (go_simp; done) | (go_simp; rfl)
      try simp only [Act.put, List.setIfInBounds_toArray, List.set_cons_zero, List.set_cons_succ]
      refine wpAnyH_take (i := 17) (oi := ⟨some 21, _, _, _, _, _⟩) (v := undef) rfl (by kernel_rfl) (by kernel_rfl) (by kernel_rfl) (fun _ _ _ h => h) (Or.inr ⟨by rfl, rfl⟩) hS ?_
      try simp only [Act.put, List.setIfInBounds_toArray, List.set_cons_zero, List.set_cons_succ]
      refine wpAnyH_take (i := 18) (oi := ⟨some 22, _, _, _, _, _⟩) (v := undef) rfl (by kernel_rfl) (by kernel_rfl) (by kernel_rfl) (fun _ _ _ h => h) (Or.inr ⟨by rfl, rfl⟩) hS ?_
      try simp only [Act.put, List.setIfInBounds_toArray, List.set_cons_zero, List.set_cons_succ]
      refine wpAnyH_take (i := 19) (oi := ⟨some 23, _, _, _, _, _⟩) (v := undef) rfl (by kernel_rfl) (by kernel_rfl) (by kernel_rfl) (fun _ _ _ h => h) (Or.inr ⟨by rfl, rfl⟩) hS ?_
      try simp only [Act.put, List.setIfInBounds_toArray, List.set_cons_zero, List.set_cons_succ]
      refine wpAnyH_take (i := 20) (oi := ⟨some 24, _, _, _, _, _⟩) (v := ?_) rfl (by kernel_rfl) (by kernel_rfl) (by kernel_rfl) (fun _ _ _ h => h) (Or.inl ⟨by rfl, ?_⟩) hS ?_
      rotate_left
      · intro wq hq
        first | (go_simp; done) | (go_simp; rfl)
      try simp only [Act.put, List.setIfInBounds_toArray, List.set_cons_zero, List.set_cons_succ]
      refine wpAnyH_take (i := 21) (oi := ⟨some 25, _, _, _, _, _⟩) (v := ?_) rfl (by kernel_rfl) (by kernel_rfl) (by kernel_rfl) (fun _ _ _ h => h) (Or.inl ⟨by rfl, ?_⟩) hS ?_
      rotate_left
      · intro wq hq
        first | (go_simp; done) | (go_simp; rfl)
      try simp only [Act.put, List.setIfInBounds_toArray, List.set_cons_zero, List.set_cons_succ]
      refine wpAnyH_take (i := 22) (oi := ⟨some 26, _, _, _, _, _⟩) (v := undef) rfl (by kernel_rfl) (by kernel_rfl) (by kernel_rfl) (fun _ _ _ h => h) (Or.inr ⟨by rfl, rfl⟩) hS ?_
      try simp only [Act.put, List.setIfInBounds_toArray, List.set_cons_zero, List.set_cons_succ]
      refine wpAnyH_take (i := 23) (oi := ⟨some 27, _, _, _, _, _⟩) (v := undef) rfl (by kernel_rfl) (by kernel_rfl) (by kernel_rfl) (fun _ _ _ h => h) (Or.inr ⟨by rfl, rfl⟩) hS ?_
      try simp only [Act.put, List.setIfInBounds_toArray, List.set_cons_zero, List.set_cons_succ]
      refine wpAnyH_take (i := 24) (oi := ⟨some 28, _, _, _, _, _⟩) (v := undef) rfl (by kernel_rfl) (by kernel_rfl) (by kernel_rfl) (fun _ _ _ h => h) (Or.inr ⟨by rfl, rfl⟩) hS ?_
      try simp only [Act.put, List.setIfInBounds_toArray, List.set_cons_zero, List.set_cons_succ]
      refine wpAnyH_take (i := 25) (oi := ⟨some 29, _, _, _, _, _⟩) (v := ?_) rfl (by kernel_rfl) (by kernel_rfl) (by kernel_rfl) (fun _ _ _ h => h) (Or.inl ⟨by rfl, ?_⟩) hS ?_
      rotate_left
      · intro wq hq
        first | (go_simp; done) | (go_simp; rfl)
      try simp only [Act.put, List.setIfInBounds_toArray, List.set_cons_zero, List.set_cons_succ]
      refine wpAnyH_take (i := 26) (oi := ⟨some 3, _, _, _, _, _⟩) (v := ?_) rfl (by kernel_rfl) (by kernel_rfl) (by kernel_rfl) (fun _ _ _ h => h) (Or.inl ⟨by rfl, ?_⟩) hS ?_
      rotate_left
      · intro wq hq
        first | (go_simp; done) | (go_simp; rfl)
      try simp only [Act.put, List.setIfInBounds_toArray, List.set_cons_zero, List.set_cons_succ]
      refine wpAnyH_done (by kernel_rfl) ?_ _
      go_wp2_with fail
      go_meet
      exact ⟨by rw [HO1.out], hS⟩
  case rest =>
    obtain ⟨rfl, hW⟩ := hcut
    have HW := Lib.hid hW
    have HK : Hid (r.k = 2 ∨ r.k = 3 ∨ r.k = 4 ∨ r.k = 5 ∨ (r.k ≠ 2 ∧ r.k ≠ 3 ∧ r.k ≠ 4 ∧ r.k ≠ 5)) := Lib.hid (by omega)
    clear hW H0 HBr HQ HBd HSb hk0 hk9
    generalize hwc : wc = w0 at *
    clear hwc
    have cK := HW.out.src.cK
    cases hob : okR r
    · have HE : Hid (errR r = 2) := Lib.hid (by unfold errR; rw [HF.out, hob]; rfl)
      clear hob
      rcases HK.out with h | h | h | h | ⟨g2, g3, g4, g5⟩
      · skip
        have e2 : (r.k == 2) = true := by rw [beq_iff_eq]; exact h
        clear h
        go_wp2
        go_ret
        exact ⟨by rw [HE.out]; rfl, HW.out.low⟩
      · skip
        have e2 : (r.k == 2) = false := by rw [beq_eq_false_iff_ne]; omega
        have e3 : (r.k == 3) = true := by rw [beq_iff_eq]; exact h
        clear h
        go_wp2
        go_ret
        exact ⟨by rw [HE.out]; rfl, HW.out.low⟩
      · skip
        have e2 : (r.k == 2) = false := by rw [beq_eq_false_iff_ne]; omega
        have e3 : (r.k == 3) = false := by rw [beq_eq_false_iff_ne]; omega
        have e4 : (r.k == 4) = true := by rw [beq_iff_eq]; exact h
        clear h
        go_wp2
        go_ret
        exact ⟨by rw [HE.out]; rfl, HW.out.low⟩
      · skip
        have e2 : (r.k == 2) = false := by rw [beq_eq_false_iff_ne]; omega
        have e3 : (r.k == 3) = false := by rw [beq_eq_false_iff_ne]; omega
        have e4 : (r.k == 4) = false := by rw [beq_eq_false_iff_ne]; omega
        have e5 : (r.k == 5) = true := by rw [beq_iff_eq]; exact h
        clear h
        go_wp2
        go_ret
        exact ⟨by rw [HE.out]; rfl, HW.out.low⟩
      · skip
        have e2 : (r.k == 2) = false := by rw [beq_eq_false_iff_ne]; exact g2
        have e3 : (r.k == 3) = false := by rw [beq_eq_false_iff_ne]; exact g3
        have e4 : (r.k == 4) = false := by rw [beq_eq_false_iff_ne]; exact g4
        have e5 : (r.k == 5) = false := by rw [beq_eq_false_iff_ne]; exact g5
        clear g2 g3 g4 g5
        go_wp2
        go_ret
        exact ⟨by rw [HE.out]; rfl, HW.out.low⟩
    · have HE : Hid (∀ b, addrsB r = b → errR r = if b then 0 else 2) := Lib.hid (fun b hb => by unfold errR; rw [HF.out, hob, hb]; rfl)
      clear hob
      rcases HK.out with h | h | h | h | ⟨g2, g3, g4, g5⟩
      · have e2 : (r.k == 2) = true := by rw [beq_iff_eq]; exact h
        have HA : Hid (addrsB r = (zeroPf r || wholeB r.v6 r.pl r.pn)) := Lib.hid (by unfold addrsB; rw [if_pos h])
        have cPn := HW.out.src.cPn HR.out
        clear h
        cases hz : zeroPf r
        · have hQ : ∀ W, (binOp .eql 34 (.agg (pfc r.v6 r.pl r.pn).toArray) (.agg (pfc false z16 0).toArray)).run Try.prog W = .ok (.bool false) W := pf_eql _ _ _ _ _ _ HR.out.pl (by simp [z16]) HR.out.opl (oct_zeros 16) HR.out.pn i64_0 _ hz
          rw [hz, Bool.false_or] at HA
          clear hz
          by_cases hp : 0 < r.pn
          · have d1 : decide (0 < r.pn) = true := decide_eq_true hp
            clear hp
            go_wp2_with (first
              | (refine part_fetch rfl 34 _ rfl w.heap.size 26 (pfc r.v6 r.pl r.pn) _ rfl (HW.out.src.rPf HR.out) Try.underlying34 rfl (sz_pf HR.out) ?_)
              | (refine any_buildW rfl 34 rfl (pfc false z16 0) built_pf0 ?_))
            refine (HWH.out _).mono ?_
            rintro e w1 ⟨rfl, hB⟩
            have HB := Lib.hid (HW.out.step hB).low
            clear hB hQ
            cases hw : wholeB r.v6 r.pl r.pn
            all_goals
              rw [hw] at HA
              have HE2 := Lib.hid (HE.out _ HA.out)
              clear hw
              go_wp2
              go_ret
              exact ⟨by rw [HE2.out]; rfl, HB.out⟩
          · have d1 : decide (0 < r.pn) = false := decide_eq_false hp
            have HA2 : Hid (addrsB r = false) := Lib.hid (by
              rw [HA.out]
              unfold wholeB
              have : r.pn ≠ bitsOf r.v6 := by unfold bitsOf; split <;> omega
              rw [decide_eq_false this, Bool.and_false])
            have HE2 := Lib.hid (HE.out _ HA2.out)
            clear hp
            go_wp2_with (first
              | (refine part_fetch rfl 34 _ rfl w.heap.size 26 (pfc r.v6 r.pl r.pn) _ rfl (HW.out.src.rPf HR.out) Try.underlying34 rfl (sz_pf HR.out) ?_)
              | (refine any_buildW rfl 34 rfl (pfc false z16 0) built_pf0 ?_))
            go_ret
            exact ⟨by rw [HE2.out]; rfl, HW.out.low⟩
        · have hQ : ∀ W, (binOp .eql 34 (.agg (pfc r.v6 r.pl r.pn).toArray) (.agg (pfc false z16 0).toArray)).run Try.prog W = .ok (.bool true) W := pf_eql _ _ _ _ _ _ HR.out.pl (by simp [z16]) HR.out.opl (oct_zeros 16) HR.out.pn i64_0 _ hz
          have HE2 := Lib.hid (HE.out true (by rw [HA.out, hz]; rfl))
          clear hz
          go_wp2_with (with_reducible refine stop_hereR (o := ⟨some 37, _, _, _, _, _⟩) (by rfl) ?_)
          unfold StopAtR
          refine part_fetch rfl 34 _ rfl w.heap.size 26 (pfc r.v6 r.pl r.pn) _ rfl (HW.out.src.rPf HR.out) Try.underlying34 rfl (sz_pf HR.out) ?_
          refine any_buildW rfl 34 rfl (pfc false z16 0) built_pf0 ?_
          go_wp2
          go_ret
          exact ⟨by rw [HE2.out]; rfl, HW.out.low⟩
      · have e2 : (r.k == 2) = false := by rw [beq_eq_false_iff_ne]; omega
        have e3 : (r.k == 3) = true := by rw [beq_iff_eq]; exact h
        have HA : Hid (addrsB r = wholeB r.v6 r.pl r.pn) := Lib.hid (by unfold addrsB; rw [if_neg (by omega), if_pos (by omega)])
        clear h
        go_wp2_with (refine part_fetch rfl 34 _ rfl w.heap.size 26 (pfc r.v6 r.pl r.pn) _ rfl (HW.out.src.rPf HR.out) Try.underlying34 rfl (sz_pf HR.out) ?_)
        refine (HWH.out _).mono ?_
        rintro e w1 ⟨rfl, hB⟩
        have HB := Lib.hid (HW.out.step hB).low
        clear hB
        cases hw : wholeB r.v6 r.pl r.pn
        all_goals
          rw [hw] at HA
          have HE2 := Lib.hid (HE.out _ HA.out)
          clear hw
          go_wp2
          go_ret
          exact ⟨by rw [HE2.out]; rfl, HB.out⟩
      · have e2 : (r.k == 2) = false := by rw [beq_eq_false_iff_ne]; omega
        have e3 : (r.k == 3) = false := by rw [beq_eq_false_iff_ne]; omega
        have e4 : (r.k == 4) = true := by rw [beq_iff_eq]; exact h
        have HA : Hid (addrsB r = wholeB r.v6 r.pl r.pn) := Lib.hid (by unfold addrsB; rw [if_neg (by omega), if_pos (by omega)])
        clear h
        go_wp2_with (refine part_fetch rfl 34 _ rfl w.heap.size 26 (pfc r.v6 r.pl r.pn) _ rfl (HW.out.src.rPf HR.out) Try.underlying34 rfl (sz_pf HR.out) ?_)
        refine (HWH.out _).mono ?_
        rintro e w1 ⟨rfl, hB⟩
        have HB := Lib.hid (HW.out.step hB).low
        clear hB
        cases hw : wholeB r.v6 r.pl r.pn
        all_goals
          rw [hw] at HA
          have HE2 := Lib.hid (HE.out _ HA.out)
          clear hw
          go_wp2
          go_ret
          exact ⟨by rw [HE2.out]; rfl, HB.out⟩
      · have e2 : (r.k == 2) = false := by rw [beq_eq_false_iff_ne]; omega
        have e3 : (r.k == 3) = false := by rw [beq_eq_false_iff_ne]; omega
        have e4 : (r.k == 4) = false := by rw [beq_eq_false_iff_ne]; omega
        have e5 : (r.k == 5) = true := by rw [beq_iff_eq]; exact h
        have HA : Hid (addrsB r = (rightPfB r.v6 r.pl r.pn && (rightB r.gv r.gl && decide (r.gv = r.v6)))) := Lib.hid (by unfold addrsB; rw [if_neg (by omega), if_neg (by omega), if_pos h])
        clear h
        go_wp2_with (refine part_fetch rfl 34 _ rfl w.heap.size 26 (pfc r.v6 r.pl r.pn) _ rfl (HW.out.src.rPf HR.out) Try.underlying34 rfl (sz_pf HR.out) ?_)
        refine (HPF.out _).mono ?_
        rintro e w1 ⟨rfl, hB⟩
        have HW1 := Lib.hid (HW.out.step hB)
        clear hB
        cases hpf : rightPfB r.v6 r.pl r.pn
        · have HE2 := Lib.hid (HE.out false (by rw [HA.out, hpf]; rfl))
          clear hpf
          go_wp2
          go_ret
          exact ⟨by rw [HE2.out]; rfl, HW1.out.low⟩
        · rw [hpf, Bool.true_and] at HA
          clear hpf
          go_wp2_with (refine part_fetch rfl 32 _ rfl w.heap.size 44 (ipc r.gv r.gl) _ rfl (HW1.out.src.rGw HR.out) Try.underlying32 rfl (sz_gw HR.out) ?_)
          refine (HRI.out _).mono ?_
          rintro e w2 ⟨rfl, hB⟩
          have HW2 := Lib.hid (HW1.out.step hB)
          clear hB
          cases hri : rightB r.gv r.gl
          · have HE2 := Lib.hid (HE.out false (by rw [HA.out, hri]; rfl))
            clear hri
            go_wp2
            go_ret
            exact ⟨by rw [HE2.out]; rfl, HW2.out.low⟩
          · rw [hri, Bool.true_and] at HA
            have c26 := HW2.out.src.cV6 HR.out
            have c44 := HW2.out.src.cGv HR.out
            have HE2 := Lib.hid (HE.out _ HA.out)
            clear hri
            generalize r.gv = gv at *
            generalize r.v6 = v6 at *
            cases gv <;> cases v6
            all_goals
              go_wp2
              go_ret
              exact ⟨by rw [HE2.out]; rfl, HW2.out.low⟩
      · have e2 : (r.k == 2) = false := by rw [beq_eq_false_iff_ne]; exact g2
        have e3 : (r.k == 3) = false := by rw [beq_eq_false_iff_ne]; exact g3
        have e4 : (r.k == 4) = false := by rw [beq_eq_false_iff_ne]; exact g4
        have e5 : (r.k == 5) = false := by rw [beq_eq_false_iff_ne]; exact g5
        have HE2 := Lib.hid (HE.out true (by unfold addrsB; rw [if_neg g2, if_neg (by omega), if_neg g5]))
        clear g2 g3 g4 g5
        go_wp2
        go_ret
        exact ⟨by rw [HE2.out]; rfl, HW.out.low⟩
end Go.Proofs.Ytickcfcncpnaiaa
namespace Go.Proofs.Ytickcfcncpnaiaa
open Go.RowKit
set_option maxRecDepth 100000
set_option linter.unusedSimpArgs false
set_option linter.unusedVariables false

theorem raddress_at (w : World) (v : Bool) (l : List Int) (hl : l.length = 16) (ho : Oct l) : Calls Try.prog 25 #[.agg (ipc v l).toArray] w fun e W' => ∃ A, e = .returned (.slice A (nb v) 16) ∧ Rd W' W'.heap.size A (nb v) (l.take (nb v)) ∧ Below w.heap.size w W' := by
  have h0 := range_new w 32 (ipc v l)
  have H0 := Lib.hid h0
  have HL := Lib.hid hl
  have hsl := slice_arr_h (P := Try.prog) (t := 30) (e := 5) (n := 16) Try.underlying30 (by kernel_rfl) w.heap.size 1 (nb v) (by unfold nb; split <;> omega) (by omega)
  have HEnd : Hid (∀ W, Below w.heap.size w W → W.rangeAt w.heap.size 0 (ipc v l) → w.heap.size < W.heap.size → ∃ A, Value.slice (some ⟨w.heap.size, 1, none⟩) (nb v) 16 = .slice A (nb v) 16 ∧ Rd W W.heap.size A (nb v) (l.take (nb v)) ∧ Below w.heap.size w W) := Lib.hid (fun W hB hW hs => by
    have h := rd_range (pre := [Value.bool v]) (post := []) (l := l) (b := w.heap.size) (B := W.heap.size) (w := W) (by simpa using hW) ho 0 (nb v) (by unfold nb; split <;> omega) hs
    have hlen : (l.take (nb v)).length = nb v := by rw [List.length_take]; unfold nb; split <;> omega
    exact ⟨_, rfl, by simpa using h, hB⟩)
  have HB0 := Lib.hid ((Below.refl w.heap.size w).alloc (Nat.le_refl _) (.cells (ipc v l).toArray 32))
  have hbv : (v = true ∧ nb v = 16 ∧ bitsOf v = 128) ∨ (v = false ∧ nb v = 4 ∧ bitsOf v = 32) := by cases v <;> simp [nb, bitsOf]
  have HBt := Lib.hid (fun W => rbitsL_is W v l)
  clear h0 hl ho
  go_enter Try.func25, Try.ntmps25
  go_wp2_with (refine ip_fetch rfl _ rfl w.heap.size 0 v l HL.out rfl H0.out ?_)
  refine (HBt.out _).mono ?_
  rintro e w1 ⟨rfl, hB⟩
  have HR1 := Lib.hid (range_below H0.out hB (by simp))
  have hs1 : w.heap.size < w1.heap.size := by have := hB.size; simp at this; omega
  have HB := Lib.hid (HB0.out.trans (hB.mono HB0.out.size))
  clear hB
  have HE2 := Lib.hid (HEnd.out _ HB.out HR1.out hs1)
  clear HEnd
  rcases hbv with ⟨rfl, e1, e2⟩ | ⟨rfl, e1, e2⟩
  · rw [e1] at hsl HE2
    rw [e2]
    have hs2 := hsl 16 rfl
    clear hsl
    go_wp2
    go_ret
    obtain ⟨A, e, h⟩ := HE2.out
    exact ⟨A, congrArg Ending.returned e, h⟩
  · rw [e1] at hsl HE2
    rw [e2]
    have hs2 := hsl 4 rfl
    clear hsl
    go_wp2
    go_ret
    obtain ⟨A, e, h⟩ := HE2.out
    exact ⟨A, congrArg Ending.returned e, h⟩


/-- append of bytes that may be nil, onto bytes of the call's own, in a region that draws. -/
theorem app_wp7 {o : Oper} {a : Act} {K : Act → World → Prop} {Q : Exit → Act → World → Prop} (s x : Operand)
    (ho : o.op = .call { callee := .builtin .append, args := #[s, x], argTypes := #[22, 22] }) {lo : Nat} {w : World} {v : Value} {P : List Int} (h : OwnB lo w v P) (hlo : lo ≤ w.heap.size)
    {A : Option Addr} {m c : Nat} {news : List Int} (hr : Rd w w.heap.size A m news) (hlen : P.length + m ≤ 140737488355328) (hs : a.eval s = v) (hx : a.eval x = .slice A m c)
    (hk : ∀ v' w', OwnB lo w' v' (P ++ news) → Below lo w w' → w.grownBy w' v.ownBlock → (v'.ownBlock = v.ownBlock ∨ v'.ownBlock = some w.heap.size) → K (a.put o.dst v') w') :
    o.wp Try.prog a w K Q := by
  cases A with
  | some ad => exact app_wp6 s x ho h hlo hr hlen hs hx hk
  | none =>
    obtain ⟨i, hi, hz0, hz1, hz2⟩ := info_parts info_byte
    have hlm := hr.len
    have hm0 : m = 0 := by
      rcases Nat.eq_zero_or_pos m with h0 | h0
      · exact h0
      · obtain ⟨_, _, e, _⟩ := hr.at_ h0
        cases e
    subst hm0
    have hn : news = [] := List.eq_nil_of_length_eq_zero hlm
    subst hn
    have hrun : (Builtin.append_ #[22, 22] o.type #[v, .slice none 0 c]).run Try.prog w = .ok v w := by
      rcases h.own.2 with ⟨rfl, hn⟩ | ⟨g, cap, cur, rfl, _, _, hnc, _⟩
      · simp [Builtin.append_, run_underlying Try.underlying22, sizeOf, typeInfo, hi, Builtin.lenOf, Builtin.firstCells]
      · simp [Builtin.append_, run_underlying Try.underlying22, sizeOf, typeInfo, hi, Builtin.lenOf, Builtin.firstCells, hnc, storeCells]
    unfold Oper.wp execOp
    simp only [ho, resolve, invoke, builtin, Sem.run_bind, Sem.run_pure, Result.andThen_ok, List.map_toArray, List.map_cons, List.map_nil, hs, hx, hrun]
    exact hk v w (by rw [List.append_nil]; exact h) (Below.refl _ _) (only_refl _ _) (.inl rfl)

/-- What the document's Put has put together, stage by stage. -/
def bq0 (r : Rt) : List Int := r.rd
def bq1 (r : Rt) : List Int := bq0 r ++ (if r.k = 3 then [] else r.es)
def bq2 (r : Rt) : List Int := bq1 r ++ (if r.k = 4 then [] else be 4 r.tg)
def bq3 (r : Rt) : List Int := bq2 r ++ (if r.k = 2 then [48] ++ r.mc else [])
def bq4 (r : Rt) : List Int := bq3 r ++ (if r.k = 1 then [] else [r.pn % 256] ++ (if r.k = 2 ∧ r.pn ≤ 0 then [] else r.pl.take (nb r.v6)))
def bq5 (r : Rt) : List Int := bq4 r ++ (if r.k = 5 then r.gl.take (nb r.gv) else [])
def bq6 (r : Rt) : List Int := bq5 r ++ (if r.k = 1 ∨ r.k = 2 ∨ r.k = 5 then be 3 r.lb else [])
def bq7 (r : Rt) : List Int := bq6 r ++ sec r.l2
structure BqLen (r : Rt) : Prop where
  l0 : (bq0 r).length ≤ 8
  l1 : (bq1 r).length ≤ 18
  l2 : (bq2 r).length ≤ 22
  l3 : (bq3 r).length ≤ 29
  l4 : (bq4 r).length ≤ 46
  l5 : (bq5 r).length ≤ 62
  l6 : (bq6 r).length ≤ 65
  l7 : (bq7 r).length ≤ 68
theorem bq_len {r : Rt} (hr : RtOk r) : BqLen r := by
  have h1 := sec_le r.l2
  have h2 : nb r.v6 ≤ 16 := nb_le16 _
  have h3 : nb r.gv ≤ 16 := nb_le16 _
  have l0 : (bq0 r).length ≤ 8 := by unfold bq0; rw [hr.rd]; exact Nat.le_refl _
  have l1 : (bq1 r).length ≤ 18 := by unfold bq1; split <;> simp [hr.es] <;> omega
  have l2 : (bq2 r).length ≤ 22 := by unfold bq2; split <;> simp [be_len] <;> omega
  have l3 : (bq3 r).length ≤ 29 := by unfold bq3; split <;> simp [hr.mc] <;> omega
  have l4 : (bq4 r).length ≤ 46 := by
    unfold bq4
    split
    · simp; omega
    · split <;> simp [hr.pl] <;> omega
  have l5 : (bq5 r).length ≤ 62 := by unfold bq5; split <;> simp [hr.gl] <;> omega
  have l6 : (bq6 r).length ≤ 65 := by unfold bq6; split <;> simp [be_len] <;> omega
  exact ⟨l0, l1, l2, l3, l4, l5, l6, by unfold bq7; simp; omega⟩
theorem l2_zero {r : Rt} (h : rightR r = true) (hk : r.k ≠ 2) : r.l2 = 0 := by
  unfold rightR at h
  simp only [Bool.and_eq_true, decide_eq_true_eq] at h
  have e := (sameR_iff _ _).1 h.2.1
  rw [e]
  unfold ownR rtZ
  repeat' split
  all_goals first | rfl | contradiction
theorem bq_body {r : Rt} (hr : RtOk r) (h : rightR r = true) : bq7 r = bodyR r := by
  have hf := rightF hr h
  have hk := hf.k
  have hz := fun hk : r.k ≠ 2 => l2_zero h hk
  unfold bq7 bq6 bq5 bq4 bq3 bq2 bq1 bq0 bodyR
  have : r.k = 1 ∨ r.k = 2 ∨ r.k = 3 ∨ r.k = 4 ∨ r.k = 5 := by omega
  rcases this with e | e | e | e | e
  · rw [hz (by omega)]; simp [e, sec]
  · rcases hf.two e with ⟨hp, hv⟩ | ⟨hp, hv⟩ | ⟨hp, hv⟩
    · simp [e, hp]
    · simp [e, hp, hv, nb]
    · simp [e, hp, hv, nb]
  · rw [hz (by omega)]; simp [e, sec]
  · rw [hz (by omega)]; simp [e, sec]
  · rw [hz (by omega)]; simp [e, sec]
end Go.Proofs.Ytickcfcncpnaiaa
namespace Go.Proofs.Ytickcfcncpnaiaa
open Go.RowKit
set_option maxRecDepth 100000
set_option linter.unusedSimpArgs false
set_option linter.unusedVariables false

theorem KE.lit {w W : World} {r : Rt} {v : Value} {l : List Int} (h : KE w W r v l) (o : Obj) : KE w (W.alloc o) r v l := h.below (below_one W o)
/-- What is put together of b, ahead of the body. -/
structure KX (w V W : World) (x : Value) (l : List Int) : Prop where
  b : OwnB V.heap.size W x l
  low : Below V.heap.size V W
theorem KX.lo {w V W : World} {x : Value} {l : List Int} (h : KX w V W x l) : V.heap.size ≤ W.heap.size := h.low.size
theorem KX.below {w V W W' : World} {x : Value} {l : List Int} (h : KX w V W x l) (hB : Below W.heap.size W W') : KX w V W' x l := ⟨h.b.below hB, h.low.trans (hB.mono h.low.size)⟩
theorem KX.app {w V W W' : World} {x x' : Value} {l l' : List Int} (h : KX w V W x l) (ho : OwnB V.heap.size W' x' l') (hB : Below V.heap.size W W') : KX w V W' x' l' := ⟨ho, h.low.trans hB⟩
def lbB (r : Rt) : Bool := decide (r.k = 1 ∨ r.k = 2 ∨ r.k = 5)
theorem oct_nil : Oct [] := fun x h => by cases h
theorem oct_1 {x : Int} (h0 : 0 ≤ x) (h1 : x < 256) : Oct [x] := u8s_oct_one h0 h1

set_option maxHeartbeats 16000000 in
set_option maxRecDepth 100000 in
theorem rput6_is (w : World) (A : Option Addr) (m c : Nat) (l : List Int) (r : Rt) (hr : RtOk r) (hb : Rd w w.heap.size A m l) (hm : m ≤ 140737488355200) : Calls Try.prog 8 #[.slice A m c, .agg (rtc r).toArray] w (PutPost w l r) := by
  have HR := Lib.hid hr
  have H1 := Lib.hid (RtAt.new w r hr 36)
  have HB1 := Lib.hid ((Below.refl w.heap.size w).alloc (Nat.le_refl _) (.cells (rtc r).toArray 36))
  have HL := Lib.hid hb
  have hlen := hb.len
  have HRi := Lib.hid (fun W => rright_is W r hr)
  clear hb hr
  cases hrr : rightR r
  · have HE : Hid (errR r = 2) := Lib.hid (by unfold errR; rw [hrr]; rfl)
    go_enter Try.func8, Try.ntmps8
    go_wp2_with (first | (refine rt_fetch rfl _ rfl w.heap.size r HR.out rfl H1.out ?_) | fail)
    refine (HRi.out _).mono ?_
    rintro e w2 ⟨rfl, hB⟩
    have HB2 := Lib.hid (HB1.out.trans (hB.mono HB1.out.size))
    clear hB
    rw [HE.out]
    go_wp2
    go_ret2
    exact ⟨_, by rw [HE.out]; rfl, by rw [hrr]; exact OwnB.nil_ _ _, HB2.out⟩
  · have HE : Hid (errR r = 0) := Lib.hid (by unfold errR; rw [hrr]; rfl)
    have hf := rightF HR.out hrr
    obtain ⟨hk1, hk5⟩ := hf.k
    have HQ := Lib.hid (bq_len HR.out)
    have HBd : Hid (bq7 r = bodyR r) := Lib.hid (bq_body HR.out hrr)
    have HAd := Lib.hid (fun W (v : Bool) (l : List Int) (hl : l.length = 16) (ho : Oct l) => raddress_at W v l hl ho)
    have HN4 := Lib.hid (fun W => rnum6_is W r.tg 4 HR.out.tg (by omega) (by omega) (be4_fit HR.out.tg))
    have HN3 := Lib.hid (fun W => rnum6_is W r.lb 3 HR.out.lb (by omega) (by omega) (by have := hf.lb.2; omega))
    have HN2 := Lib.hid (fun W => rnum6_is W r.l2 3 HR.out.l2 (by omega) (by omega) (by have := hf.l2.2; omega))
    clear hf
    have hs8 : ∀ W, (Instr.sliceAt 24 (.pointer (some ⟨w.heap.size, 1, none⟩)) none none none).run Try.prog W = .ok (.slice (some ⟨w.heap.size, 1, none⟩) 8 8) W := fun W => by go_simp
    have hs10 : ∀ W, (Instr.sliceAt 26 (.pointer (some ⟨w.heap.size, 9, none⟩)) none none none).run Try.prog W = .ok (.slice (some ⟨w.heap.size, 9, none⟩) 10 10) W := fun W => by go_simp
    have hs6 : ∀ W, (Instr.sliceAt 29 (.pointer (some ⟨w.heap.size, 20, none⟩)) none none none).run Try.prog W = .ok (.slice (some ⟨w.heap.size, 20, none⟩) 6 6) W := fun W => by go_simp
    go_enter Try.func8, Try.ntmps8
    go_wp2_with (first | (refine rt_fetch rfl _ rfl w.heap.size r HR.out rfl H1.out ?_) | fail)
    refine (HRi.out _).mono ?_
    rintro e w2 ⟨rfl, hB⟩
    have HS0 : Hid (RtAt w2 w.heap.size r ∧ Below w.heap.size w w2) := Lib.hid ⟨H1.out.below hB H1.out.lt, HB1.out.trans (hB.mono HB1.out.size)⟩
    clear hB H1 HB1
    rw [HE.out]
    have HS := Lib.hid (show KE w (w2.alloc (.cells #[] 5)) r (.slice (some ⟨w2.heap.size, 0, none⟩) 0 0) [] from ⟨HS0.out.1.alloc _, own_lit HS0.out.1.lt [] oct_nil (by simp), HS0.out.2.alloc HS0.out.2.size _⟩)
    clear HS0
    go_wp2_with (at_builtin; refine app_bs2 rfl _ _ rfl HS.out.b HS.out.lo (HS.out.src.sRd HR.out HS.out.src.lt) (by simp) rfl rfl ?_)
    intro v1 V0 ho hB hg hv
    have HS1 := Lib.hid (show KE w V0 r v1 (bq0 r) from HS.out.app ho hB)
    clear ho hB hg hv HS
    have HS := HS1
    clear HS1
    have hcK := HS.out.src.cK
    go_upto_if 20 with fail
    go_cut [7] (fun s7 wx => KE w wx r s7 (bq1 r))
    case first =>
      by_cases hk : r.k = 3
      · skip
        have e3 : (r.k != 3) = false := by rw [bne_eq_false_iff_eq]; omega
        go_wp2_with fail
        go_meet
        have hq := HS.out
        rw [show bq1 r = bq0 r from by unfold bq1; rw [if_pos hk, List.append_nil]]
        first | exact hq | simpa using hq
      · skip
        have e3 : (r.k != 3) = true := by rw [bne_iff_ne]; omega
        go_wp2_with (at_builtin; refine app_bs2 rfl _ _ rfl HS.out.b HS.out.lo (HS.out.src.sEs HR.out HS.out.src.lt) (by have := HQ.out.l0; omega) rfl rfl ?_)
        intro va Wa ho hB hg hv
        have HSa := Lib.hid (HS.out.app ho hB)
        clear ho hB hg hv
        go_wp2_with fail
        go_meet
        have hq := HSa.out
        rw [show bq1 r = bq0 r ++ r.es from by unfold bq1; rw [if_neg hk]]
        first | exact hq | simpa using hq
    case rest =>
    have HS := Lib.hid hcut
    clear hcut
    generalize hwc : wc = V1 at *
    clear hwc
    have hcK := HS.out.src.cK
    go_upto_if 27 with fail
    go_cut [7] (fun s7 wx => KE w wx r s7 (bq2 r))
    case first =>
      by_cases hk : r.k = 4
      · skip
        have e4 : (r.k != 4) = false := by rw [bne_eq_false_iff_eq]; omega
        go_wp2_with fail
        go_meet
        have hq := HS.out
        rw [show bq2 r = bq1 r from by unfold bq2; rw [if_pos hk, List.append_nil]]
        first | exact hq | simpa using hq
      · skip
        have e4 : (r.k != 4) = true := by rw [bne_iff_ne]; omega
        have hct := HS.out.src.cTg HR.out
        go_wp2_with fail
        refine (HN4.out _).mono ?_
        rintro e Xa ⟨ga, rfl, _, hra, hBa⟩
        have HRa := Lib.hid hra
        have HTa := Lib.hid (HS.out.below hBa)
        clear hra hBa
        go_wp2_with (at_builtin; refine app_bs2 rfl _ _ rfl HTa.out.b HTa.out.lo (HRa.out) (by have := HQ.out.l1; simp; omega) rfl rfl ?_)
        intro vaz Waz ho hB hg hv
        have HSaz := Lib.hid (HTa.out.app ho hB)
        clear ho hB hg hv
        go_wp2_with fail
        go_meet
        have hq := HSaz.out
        rw [show bq2 r = bq1 r ++ be 4 r.tg from by unfold bq2; rw [if_neg hk]]
        first | exact hq | simpa using hq
    case rest =>
    have HS := Lib.hid hcut
    clear hcut
    generalize hwc : wc = V2 at *
    clear hwc
    have hcK := HS.out.src.cK
    go_upto_if 35 with fail
    go_cut [7] (fun s7 wx => KE w wx r s7 (bq3 r))
    case first =>
      by_cases hk : r.k = 2
      · skip
        have f2 : (r.k == 2) = true := by rw [beq_iff_eq]; omega
        go_wp2
        refine wp_region_held_drew (S := fun W => RtAt W w.heap.size r) (by kernel_rfl) ((HS.out.below (below_drew V2)).src) (fun hS => ?_)
        refine wpAnyH_take (i := 0) (oi := ⟨some 36, _, _, _, _, _⟩) (v := ?_) rfl (by kernel_rfl) (by kernel_rfl) (by kernel_rfl) (fun _ _ _ h => h) (Or.inl ⟨by rfl, ?_⟩) hS ?_
        rotate_left
        · intro wq hq
          first | (go_simp; done) | (go_simp; rfl)
        try simp only [Act.put, List.setIfInBounds_toArray, List.set_cons_zero, List.set_cons_succ]
        refine wpAnyH_take (i := 3) (oi := ⟨some 39, _, _, _, _, _⟩) (v := ?_) rfl (by kernel_rfl) (by kernel_rfl) (by kernel_rfl) (fun _ _ _ h => h) (Or.inl ⟨by rfl, ?_⟩) hS ?_
        rotate_left
        · intro wq hq
          first | (go_simp; done) | (go_simp; rfl)
        try simp only [Act.put, List.setIfInBounds_toArray, List.set_cons_zero, List.set_cons_succ]
        refine wpAnyH_take (i := 4) (oi := ⟨some 40, _, _, _, _, _⟩) (v := ?_) rfl (by kernel_rfl) (by kernel_rfl) (by kernel_rfl) (fun _ _ _ h => h) (Or.inl ⟨by rfl, ?_⟩) hS ?_
        rotate_left
        · intro wq hq
          first | (go_simp; done) | (go_simp; rfl)
        try simp only [Act.put, List.setIfInBounds_toArray, List.set_cons_zero, List.set_cons_succ]
        have hA := HS.out.below (below_drew V2)
        generalize V2.drew = Wa at *
        refine wpAnyH_ready (rs := [1]) (by kernel_rfl) (by simp) ?_
        refine AllReadyH.cons (o := ⟨some 37, _, _, _, _, _⟩) rfl (fun K hK => ?_) AllReadyH.nil
        rw [if_pos (by rfl)]
        go_wp2
        have hLB := rd_lit Wa [48] (oct_1 (by omega) (by omega))
        have hB := hA.lit (.cells #[.int .u8 48] 5)
        have hSB := hB.src
        refine hK.out _ _ (hSB) (fun hS => ?_)
        clear hK K
        try simp only [Act.put, List.setIfInBounds_toArray, List.set_cons_zero, List.set_cons_succ]
        clear hSB
        refine wpAnyH_ready (rs := [2]) (by kernel_rfl) (by simp) ?_
        refine AllReadyH.cons (o := ⟨some 38, _, _, _, _, _⟩) rfl (fun K hK => ?_) AllReadyH.nil
        rw [if_pos (by rfl)]
        refine app_wp6 _ _ rfl hB.b hB.lo (hLB) (by have := HQ.out.l2; simp; omega) rfl rfl ?_
        intro vC WC ho hBw hg hv
        have hC := hB.app ho hBw
        have hSC := hC.src
        refine hK.out _ _ (hSC) (fun hS => ?_)
        clear hK K
        try simp only [Act.put, List.setIfInBounds_toArray, List.set_cons_zero, List.set_cons_succ]
        clear hSC ho hBw
        refine wpAnyH_ready (rs := [5]) (by kernel_rfl) (by simp) ?_
        refine AllReadyH.cons (o := ⟨some 41, _, _, _, _, _⟩) rfl (fun K hK => ?_) AllReadyH.nil
        rw [if_pos (by rfl)]
        refine app_wp6 _ _ rfl hC.b hC.lo (hC.src.sMc HR.out hC.src.lt) (by have := HQ.out.l2; simp; omega) rfl rfl ?_
        intro vD WD ho hBw hg hv
        have hD := hC.app ho hBw
        have hSD := hD.src
        refine hK.out _ _ (hSD) (fun hS => ?_)
        clear hK K
        try simp only [Act.put, List.setIfInBounds_toArray, List.set_cons_zero, List.set_cons_succ]
        clear hSD ho hBw
        refine wpAnyH_take (i := 6) (oi := ⟨some 7, _, _, _, _, _⟩) (v := ?_) rfl (by kernel_rfl) (by kernel_rfl) (by kernel_rfl) (fun _ _ _ h => h) (Or.inl ⟨by rfl, ?_⟩) hS ?_
        rotate_left
        · intro wq hq
          first | (go_simp; done) | (go_simp; rfl)
        try simp only [Act.put, List.setIfInBounds_toArray, List.set_cons_zero, List.set_cons_succ]
        refine wpAnyH_done (by kernel_rfl) ?_ _
        have HX := Lib.hid hD
        clear hA hB hC hD hS
        go_wp2_with fail
        go_meet
        have hq := HX.out
        rw [show bq3 r = bq2 r ++ [48] ++ r.mc from by unfold bq3; rw [if_pos hk, List.append_assoc]]
        first | exact hq | simpa using hq
      · skip
        have f2 : (r.k == 2) = false := by rw [beq_eq_false_iff_ne]; omega
        go_wp2_with fail
        go_meet
        have hq := HS.out
        rw [show bq3 r = bq2 r from by unfold bq3; rw [if_neg hk, List.append_nil]]
        first | exact hq | simpa using hq
    case rest =>
    have HS := Lib.hid hcut
    clear hcut
    generalize hwc : wc = V3 at *
    clear hwc
    have hcK := HS.out.src.cK
    go_upto_if 44 with fail
    go_cut [7] (fun s7 wx => KE w wx r s7 (bq4 r))
    case first =>
      by_cases hk : r.k = 1
      · skip
        have e1 : (r.k != 1) = false := by rw [bne_eq_false_iff_eq]; omega
        go_wp2_with fail
        go_meet
        have hq := HS.out
        rw [show bq4 r = bq3 r from by unfold bq4; rw [if_pos hk, List.append_nil]]
        first | exact hq | simpa using hq
      · skip
        have e1 : (r.k != 1) = true := by rw [bne_iff_ne]; omega
        have hcP := HS.out.src.cPn HR.out
        have hcW : IntKind.u8.wrap r.pn = r.pn % 256 := by rw [IntKind.wrap_u8]
        have HT := Lib.hid (HS.out.lit (.cells #[.int .u8 (r.pn % 256)] 5))
        have HLt := Lib.hid (rd_lit V3 [r.pn % 256] (oct_1 (by omega) (by omega)))
        go_wp2_with (at_builtin; refine app_bs2 rfl _ _ rfl HT.out.b HT.out.lo (HLt.out) (by have := HQ.out.l3; simp; omega) rfl rfl ?_)
        intro va Wa ho hB hg hv
        have HSa := Lib.hid (HT.out.app ho hB)
        clear ho hB hg hv
        clear hcK hcP hcW HT HLt
        have hcK := HSa.out.src.cK
        by_cases h2 : r.k = 2
        · skip
          have hcP := HSa.out.src.cPn HR.out
          have e2 : (r.k != 2) = false := by rw [bne_eq_false_iff_eq]; exact h2
          by_cases hp : 0 < r.pn
          · skip
            go_wp2_with (first | (refine ip_fetch rfl _ rfl w.heap.size 26 r.v6 r.pl HR.out.pl rfl (HSa.out.src.rIp HR.out) ?_) | fail)
            refine (HAd.out _ r.v6 r.pl HR.out.pl HR.out.opl).mono ?_
            rintro e Xb ⟨Ab, rfl, hrb, hBb⟩
            have HRb := Lib.hid hrb
            have HTb := Lib.hid (HSa.out.below hBb)
            clear hrb hBb
            go_wp2_with (at_builtin; refine app_bs2 rfl _ _ rfl HTb.out.b HTb.out.lo (HRb.out) (by have := HQ.out.l3; have h2 : nb r.v6 ≤ 16 := nb_le16 _; simp; omega) rfl rfl ?_)
            intro vbz Wbz ho hB hg hv
            have HSbz := Lib.hid (HTb.out.app ho hB)
            clear ho hB hg hv
            go_wp2_with fail
            go_meet
            have hq := HSbz.out
            rw [show bq4 r = bq3 r ++ [r.pn % 256] ++ r.pl.take (nb r.v6) from by unfold bq4; rw [if_neg hk, if_neg (by omega), List.append_assoc]]
            first | exact hq | simpa using hq
          · skip
            go_wp2_with fail
            go_meet
            have hq := HSa.out
            rw [show bq4 r = bq3 r ++ [r.pn % 256] from by unfold bq4; rw [if_neg hk, if_pos ⟨h2, by omega⟩, List.append_nil]]
            first | exact hq | simpa using hq
        · skip
          have e2 : (r.k != 2) = true := by rw [bne_iff_ne]; exact h2
          go_wp2_with (first | (refine ip_fetch rfl _ rfl w.heap.size 26 r.v6 r.pl HR.out.pl rfl (HSa.out.src.rIp HR.out) ?_) | fail)
          refine (HAd.out _ r.v6 r.pl HR.out.pl HR.out.opl).mono ?_
          rintro e Xb ⟨Ab, rfl, hrb, hBb⟩
          have HRb := Lib.hid hrb
          have HTb := Lib.hid (HSa.out.below hBb)
          clear hrb hBb
          go_wp2_with (at_builtin; refine app_bs2 rfl _ _ rfl HTb.out.b HTb.out.lo (HRb.out) (by have := HQ.out.l3; have h2 : nb r.v6 ≤ 16 := nb_le16 _; simp; omega) rfl rfl ?_)
          intro vbz Wbz ho hB hg hv
          have HSbz := Lib.hid (HTb.out.app ho hB)
          clear ho hB hg hv
          go_wp2_with fail
          go_meet
          have hq := HSbz.out
          rw [show bq4 r = bq3 r ++ [r.pn % 256] ++ r.pl.take (nb r.v6) from by unfold bq4; rw [if_neg hk, if_neg (fun h => h2 h.1), List.append_assoc]]
          first | exact hq | simpa using hq
    case rest =>
    have HS := Lib.hid hcut
    clear hcut
    generalize hwc : wc = V4 at *
    clear hwc
    have hcK := HS.out.src.cK
    go_upto_if 69 with fail
    go_cut [7] (fun s7 wx => KE w wx r s7 (bq5 r))
    case first =>
      by_cases hk : r.k = 5
      · skip
        have f5 : (r.k == 5) = true := by rw [beq_iff_eq]; omega
        go_wp2_with (first | (refine ip_fetch rfl _ rfl w.heap.size 44 r.gv r.gl HR.out.gl rfl (HS.out.src.rGw HR.out) ?_) | fail)
        refine (HAd.out _ r.gv r.gl HR.out.gl HR.out.ogl).mono ?_
        rintro e Xb ⟨Ab, rfl, hrb, hBb⟩
        have HRb := Lib.hid hrb
        have HTb := Lib.hid (HS.out.below hBb)
        clear hrb hBb
        go_wp2_with (at_builtin; refine app_bs2 rfl _ _ rfl HTb.out.b HTb.out.lo (HRb.out) (by have := HQ.out.l4; have h2 : nb r.gv ≤ 16 := nb_le16 _; omega) rfl rfl ?_)
        intro vbz Wbz ho hB hg hv
        have HSbz := Lib.hid (HTb.out.app ho hB)
        clear ho hB hg hv
        go_wp2_with fail
        go_meet
        have hq := HSbz.out
        rw [show bq5 r = bq4 r ++ r.gl.take (nb r.gv) from by unfold bq5; rw [if_pos hk]]
        first | exact hq | simpa using hq
      · skip
        have f5 : (r.k == 5) = false := by rw [beq_eq_false_iff_ne]; omega
        go_wp2_with fail
        go_meet
        have hq := HS.out
        rw [show bq5 r = bq4 r from by unfold bq5; rw [if_neg hk, List.append_nil]]
        first | exact hq | simpa using hq
    case rest =>
    have HS := Lib.hid hcut
    clear hcut
    generalize hwc : wc = V5 at *
    clear hwc
    have hcK := HS.out.src.cK
    have hkk : r.k = 1 ∨ r.k = 2 ∨ r.k = 3 ∨ r.k = 4 ∨ r.k = 5 := by omega
    go_upto_region 17 with fail
    go_cut [7, 87] (fun s7 s8 wx => s8 = .bool (lbB r) ∧ KE w wx r s7 (bq5 r))
    case first =>
      rcases hkk with hk | hk | hk | hk | hk
      · skip
        have f1 : (r.k == 1) = true := by rw [beq_iff_eq]; omega
        have HLb : Hid (lbB r = true) := Lib.hid (by unfold lbB; simp [hk])
        clear hk
        go_wp2_with fail
        go_meet
        exact ⟨by rw [HLb.out], HS.out⟩
      · skip
        have f1 : (r.k == 1) = false := by rw [beq_eq_false_iff_ne]; omega
        have f2 : (r.k == 2) = true := by rw [beq_iff_eq]; omega
        have HLb : Hid (lbB r = true) := Lib.hid (by unfold lbB; simp [hk])
        clear hk
        go_wp2_with fail
        go_meet
        exact ⟨by rw [HLb.out], HS.out⟩
      · skip
        have f1 : (r.k == 1) = false := by rw [beq_eq_false_iff_ne]; omega
        have f2 : (r.k == 2) = false := by rw [beq_eq_false_iff_ne]; omega
        have f5 : (r.k == 5) = false := by rw [beq_eq_false_iff_ne]; omega
        have HLb : Hid (lbB r = false) := Lib.hid (by unfold lbB; simp [hk])
        clear hk
        go_wp2_with fail
        go_meet
        exact ⟨by rw [HLb.out], HS.out⟩
      · skip
        have f1 : (r.k == 1) = false := by rw [beq_eq_false_iff_ne]; omega
        have f2 : (r.k == 2) = false := by rw [beq_eq_false_iff_ne]; omega
        have f5 : (r.k == 5) = false := by rw [beq_eq_false_iff_ne]; omega
        have HLb : Hid (lbB r = false) := Lib.hid (by unfold lbB; simp [hk])
        clear hk
        go_wp2_with fail
        go_meet
        exact ⟨by rw [HLb.out], HS.out⟩
      · skip
        have f1 : (r.k == 1) = false := by rw [beq_eq_false_iff_ne]; omega
        have f2 : (r.k == 2) = false := by rw [beq_eq_false_iff_ne]; omega
        have f5 : (r.k == 5) = true := by rw [beq_iff_eq]; omega
        have HLb : Hid (lbB r = true) := Lib.hid (by unfold lbB; simp [hk])
        clear hk
        go_wp2_with fail
        go_meet
        exact ⟨by rw [HLb.out], HS.out⟩
    case rest =>
    obtain ⟨hlb, hq⟩ := hcut
    subst hlb
    have HS := Lib.hid hq
    clear hq
    generalize hwc : wc = V5 at *
    clear hwc
    obtain ⟨lv, hlv⟩ : ∃ b, b = lbB r := ⟨_, rfl⟩
    have HLv := Lib.hid hlv
    rw [← hlv]
    clear hlv hcK
    go_upto_if 87 with fail
    go_cut [7] (fun s7 wx => KE w wx r s7 (bq6 r))
    case first =>
      cases lv
      · skip
        go_wp2_with fail
        go_meet
        have hq := HS.out
        rw [show bq6 r = bq5 r from by unfold bq6; rw [if_neg (by have := HLv.out; unfold lbB at this; simpa using this.symm), List.append_nil]]
        first | exact hq | simpa using hq
      · skip
        have hcl := HS.out.src.cLb HR.out
        go_wp2_with fail
        refine (HN3.out _).mono ?_
        rintro e Xa ⟨ga, rfl, _, hra, hBa⟩
        have HRa := Lib.hid hra
        have HTa := Lib.hid (HS.out.below hBa)
        clear hra hBa
        go_wp2_with (at_builtin; refine app_bs2 rfl _ _ rfl HTa.out.b HTa.out.lo (HRa.out) (by have := HQ.out.l5; simp; omega) rfl rfl ?_)
        intro vaz Waz ho hB hg hv
        have HSaz := Lib.hid (HTa.out.app ho hB)
        clear ho hB hg hv
        go_wp2_with fail
        go_meet
        have hq := HSaz.out
        rw [show bq6 r = bq5 r ++ be 3 r.lb from by unfold bq6; rw [if_pos (by have := HLv.out; unfold lbB at this; simpa using this.symm)]]
        first | exact hq | simpa using hq
    case rest =>
    have HS := Lib.hid hcut
    clear hcut
    generalize hwc : wc = V6 at *
    clear hwc
    have hc2 := HS.out.src.cL2 HR.out
    go_upto_if 95 with fail
    go_cut [7] (fun s7 wx => KE w wx r s7 (bq7 r))
    case first =>
      by_cases hk : r.l2 = 0
      · skip
        have e0 : (r.l2 != 0) = false := by rw [bne_eq_false_iff_eq]; exact hk
        go_wp2_with fail
        go_meet
        have hq := HS.out
        rw [show bq7 r = bq6 r from by unfold bq7; unfold sec; rw [if_pos hk, List.append_nil]]
        first | exact hq | simpa using hq
      · skip
        have e0 : (r.l2 != 0) = true := by rw [bne_iff_ne]; exact hk
        go_wp2_with fail
        refine (HN2.out _).mono ?_
        rintro e Xa ⟨ga, rfl, _, hra, hBa⟩
        have HRa := Lib.hid hra
        have HTa := Lib.hid (HS.out.below hBa)
        clear hra hBa
        go_wp2_with (at_builtin; refine app_bs2 rfl _ _ rfl HTa.out.b HTa.out.lo (HRa.out) (by have := HQ.out.l6; simp; omega) rfl rfl ?_)
        intro vaz Waz ho hB hg hv
        have HSaz := Lib.hid (HTa.out.app ho hB)
        clear ho hB hg hv
        go_wp2_with fail
        go_meet
        have hq := HSaz.out
        rw [show bq7 r = bq6 r ++ be 3 r.l2 from by unfold bq7; unfold sec; rw [if_neg hk]]
        first | exact hq | simpa using hq
    case rest =>
    have HS := Lib.hid hcut
    clear hcut
    generalize hwc : wc = V7 at *
    clear hwc
    obtain ⟨A3, c3, rfl, _, hr3, _⟩ := HS.out.b.at_
    have hA0 := HS.out.src.below (below_drew V7) HS.out.src.lt
    have hR0 := (hr3.below (below_drew V7)).more (below_drew V7).size
    have hlow0 := HS.out.low.trans ((below_drew V7).mono HS.out.low.size)
    have hl0 := (HL.out.below hlow0).more hlow0.size
    have hbl : (bq7 r).length ≤ 68 := HQ.out.l7
    have HP : Hid (putR r = [r.k, ((bq7 r).length : Int)] ++ bq7 r) := Lib.hid (by rw [HBd.out]; rfl)
    have HR3 := Lib.hid hR0
    have HL3 := Lib.hid hl0
    have HLow := Lib.hid hlow0
    have HA := Lib.hid hA0
    clear hr3 hA0 hR0 hlow0 hl0 HS hs6 hs8 hs10 HN2 HN3 HN4 HAd HBd
    generalize bq7 r = bd at *
    have h256 : (bd.length : Int) < 256 := by omega
    have h255 : (0 : Int) ≤ (bd.length : Int) := by omega
    have hok : Oct [r.k, (bd.length : Int)] := fun y hy => by
      simp only [List.mem_cons, List.mem_nil_iff, or_false] at hy
      rcases hy with rfl | rfl <;> omega
    go_wp2
    refine wp_region_held_drew (S := fun W => RtAt W w.heap.size r) (by kernel_rfl) (HA.out) (fun hS => ?_)
    refine wpAnyH_take (i := 1) (oi := ⟨some 102, _, _, _, _, _⟩) (v := ?_) rfl (by kernel_rfl) (by kernel_rfl) (by kernel_rfl) (fun _ _ _ h => h) (Or.inl ⟨by rfl, ?_⟩) hS ?_
    rotate_left
    · intro wq hq
      first | (go_simp; done) | (go_simp; rfl)
    try simp only [Act.put, List.setIfInBounds_toArray, List.set_cons_zero, List.set_cons_succ]
    refine wpAnyH_take (i := 3) (oi := ⟨some 104, _, _, _, _, _⟩) (v := ?_) rfl (by kernel_rfl) (by kernel_rfl) (by kernel_rfl) (fun _ _ _ h => h) (Or.inl ⟨by rfl, ?_⟩) hS ?_
    rotate_left
    · intro wq hq
      first | (go_simp; done) | (go_simp; rfl)
    try simp only [Act.put, List.setIfInBounds_toArray, List.set_cons_zero, List.set_cons_succ]
    refine wpAnyH_take (i := 4) (oi := ⟨some 105, _, _, _, _, _⟩) (v := ?_) rfl (by kernel_rfl) (by kernel_rfl) (by kernel_rfl) (fun _ _ _ h => h) (Or.inl ⟨by rfl, ?_⟩) hS ?_
    rotate_left
    · intro wq hq
      have hc := hq.cK
      first | (go_simp; done) | (go_simp; rfl)
    try simp only [Act.put, List.setIfInBounds_toArray, List.set_cons_zero, List.set_cons_succ]
    refine wpAnyH_take (i := 5) (oi := ⟨some 106, _, _, _, _, _⟩) (v := ?_) rfl (by kernel_rfl) (by kernel_rfl) (by kernel_rfl) (fun _ _ _ h => h) (Or.inl ⟨by rfl, ?_⟩) hS ?_
    rotate_left
    · intro wq hq
      first | (go_simp; done) | (go_simp; rfl)
    try simp only [Act.put, List.setIfInBounds_toArray, List.set_cons_zero, List.set_cons_succ]
    refine wpAnyH_take (i := 6) (oi := ⟨some 107, _, _, _, _, _⟩) (v := ?_) rfl (by kernel_rfl) (by kernel_rfl) (by kernel_rfl) (fun _ _ _ h => h) (Or.inl ⟨by rfl, ?_⟩) hS ?_
    rotate_left
    · intro wq hq
      first | (go_simp; done) | (go_simp; rfl)
    try simp only [Act.put, List.setIfInBounds_toArray, List.set_cons_zero, List.set_cons_succ]
    refine wpAnyH_take (i := 7) (oi := ⟨some 108, _, _, _, _, _⟩) (v := ?_) rfl (by kernel_rfl) (by kernel_rfl) (by kernel_rfl) (fun _ _ _ h => h) (Or.inl ⟨by rfl, ?_⟩) hS ?_
    rotate_left
    · intro wq hq
      first | (go_simp; done) | (go_simp; rfl)
    try simp only [Act.put, List.setIfInBounds_toArray, List.set_cons_zero, List.set_cons_succ]
    refine wpAnyH_take (i := 8) (oi := ⟨some 109, _, _, _, _, _⟩) (v := ?_) rfl (by kernel_rfl) (by kernel_rfl) (by kernel_rfl) (fun _ _ _ h => h) (Or.inl ⟨by rfl, ?_⟩) hS ?_
    rotate_left
    · intro wq hq
      first | (go_simp; done) | (go_simp; rfl)
    try simp only [Act.put, List.setIfInBounds_toArray, List.set_cons_zero, List.set_cons_succ]
    generalize V7.drew = Wa at *
    have hloWa : Wa.heap.size ≤ Wa.heap.size := Nat.le_refl _
    have hlwWa : Below Wa.heap.size Wa Wa := Below.refl _ _
    refine wpAnyH_ready (rs := [0, 9]) (by kernel_rfl) (by simp) ?_
    refine AllReadyH.cons (o := ⟨some 101, _, _, _, _, _⟩) rfl (fun K hK => ?_) (AllReadyH.cons (o := ⟨some 110, _, _, _, _, _⟩) rfl (fun K hK => ?_) AllReadyH.nil)
    · rw [if_pos (by rfl)]
      go_wp2
      have h1 : KX w Wa (Wa.alloc (.cells #[] 5)) (.slice (some ⟨Wa.heap.size, 0, none⟩) 0 0) [] := ⟨own_lit (hloWa) [] oct_nil (by simp), hlwWa.alloc (hloWa) _⟩
      refine hK.out _ _ (HA.out.below h1.low HA.out.lt) (fun hS => ?_)
      clear hK K
      try simp only [Act.put, List.setIfInBounds_toArray, List.set_cons_zero, List.set_cons_succ]
      refine wpAnyH_ready (rs := [2, 9]) (by kernel_rfl) (by simp) ?_
      refine AllReadyH.cons (o := ⟨some 103, _, _, _, _, _⟩) rfl (fun K hK => ?_) (AllReadyH.cons (o := ⟨some 110, _, _, _, _, _⟩) rfl (fun K hK => ?_) AllReadyH.nil)
      · rw [if_pos (by rfl)]
        refine app_wp7 _ _ rfl h1.b h1.lo ((HL3.out.below h1.low).more h1.lo) (by simp; omega) rfl rfl ?_
        intro v2 W2 ho hBw hg hv
        have h2 := h1.app ho hBw
        have hg2 := hg
        clear ho hBw hg
        refine hK.out _ _ (HA.out.below h2.low HA.out.lt) (fun hS => ?_)
        clear hK K
        try simp only [Act.put, List.setIfInBounds_toArray, List.set_cons_zero, List.set_cons_succ]
        refine wpAnyH_ready (rs := [9]) (by kernel_rfl) (by simp) ?_
        refine AllReadyH.cons (o := ⟨some 110, _, _, _, _, _⟩) rfl (fun K hK => ?_) AllReadyH.nil
        rw [if_pos (by rfl)]
        go_wp2
        have hL3 := rd_lit (W2) [r.k, (bd.length : Int)] hok
        have h3 := h2.below (below_one (W2) (.cells #[.int .u8 r.k, .int .u8 (bd.length : Int)] 5))
        refine hK.out _ _ (HA.out.below h3.low HA.out.lt) (fun hS => ?_)
        clear hK K
        try simp only [Act.put, List.setIfInBounds_toArray, List.set_cons_zero, List.set_cons_succ]
        refine wpAnyH_ready (rs := [10]) (by kernel_rfl) (by simp) ?_
        refine AllReadyH.cons (o := ⟨some 111, _, _, _, _, _⟩) rfl (fun K hK => ?_) AllReadyH.nil
        rw [if_pos (by rfl)]
        refine app_wp6 _ _ rfl h3.b h3.lo (hL3) (by simp; omega) rfl rfl ?_
        intro v4 W4 ho hBw hg hv
        have h4 := h3.app ho hBw
        have hg4 := hg
        clear ho hBw hg
        refine hK.out _ _ (HA.out.below h4.low HA.out.lt) (fun hS => ?_)
        clear hK K
        try simp only [Act.put, List.setIfInBounds_toArray, List.set_cons_zero, List.set_cons_succ]
        refine wpAnyH_take (i := 11) (oi := ⟨some 8, _, _, _, _, _⟩) (v := ?_) rfl (by kernel_rfl) (by kernel_rfl) (by kernel_rfl) (fun _ _ _ h => h) (Or.inl ⟨by rfl, ?_⟩) hS ?_
        rotate_left
        · intro wq hq
          first | (go_simp; done) | (go_simp; rfl)
        try simp only [Act.put, List.setIfInBounds_toArray, List.set_cons_zero, List.set_cons_succ]
        refine wpAnyH_done (by kernel_rfl) ?_ _
        have HX := Lib.hid h4
        have HRz := Lib.hid ((HR3.out.below h4.low).more h4.lo)
        clear hS
        go_wp2_with (at_builtin; refine app_bs2 rfl _ _ rfl HX.out.b HX.out.lo HRz.out (by simp; omega) rfl rfl ?_)
        intro v9 W9 ho hB _ _
        have HO : Hid (OwnB w.heap.size W9 v9 (l ++ putR r)) := Lib.hid (by have := ho.low HLow.out.size; rw [HP.out]; simpa [List.append_assoc] using this)
        have HB9 := Lib.hid (HLow.out.trans ((HX.out.low.trans hB).mono HLow.out.size))
        clear ho hB HX HRz
        go_wp2_with fail
        go_ret2
        exact ⟨v9, by rw [HE.out]; rfl, by rw [hrr, if_pos rfl]; exact HO.out, HB9.out⟩
      · rw [if_pos (by rfl)]
        go_wp2
        have hL2 := rd_lit (Wa.alloc (.cells #[] 5)) [r.k, (bd.length : Int)] hok
        have h2 := h1.below (below_one (Wa.alloc (.cells #[] 5)) (.cells #[.int .u8 r.k, .int .u8 (bd.length : Int)] 5))
        refine hK.out _ _ (HA.out.below h2.low HA.out.lt) (fun hS => ?_)
        clear hK K
        try simp only [Act.put, List.setIfInBounds_toArray, List.set_cons_zero, List.set_cons_succ]
        have hs1 : (Wa.alloc (.cells #[] 5)).heap.size = Wa.heap.size + 1 := by simp
        rw [hs1] at hL2
        refine wpAnyH_ready (rs := [2]) (by kernel_rfl) (by simp) ?_
        refine AllReadyH.cons (o := ⟨some 103, _, _, _, _, _⟩) rfl (fun K hK => ?_) AllReadyH.nil
        rw [if_pos (by rfl)]
        refine app_wp7 _ _ rfl h2.b h2.lo ((HL3.out.below h2.low).more h2.lo) (by simp; omega) rfl rfl ?_
        intro v3 W3 ho hBw hg hv
        have h3 := h2.app ho hBw
        have hg3 := hg
        clear ho hBw hg
        refine hK.out _ _ (HA.out.below h3.low HA.out.lt) (fun hS => ?_)
        clear hK K
        try simp only [Act.put, List.setIfInBounds_toArray, List.set_cons_zero, List.set_cons_succ]
        refine wpAnyH_ready (rs := [10]) (by kernel_rfl) (by simp) ?_
        refine AllReadyH.cons (o := ⟨some 111, _, _, _, _, _⟩) rfl (fun K hK => ?_) AllReadyH.nil
        rw [if_pos (by rfl)]
        have hL3 := rd_kept hL2 (hg3.block (Wa.heap.size + 1) (by simp) (fun e => by simp [Value.ownBlock] at e)) (Nat.lt_of_lt_of_le (by simp) hg3.size)
        refine app_wp6 _ _ rfl h3.b h3.lo (hL3) (by simp; omega) rfl rfl ?_
        intro v4 W4 ho hBw hg hv
        have h4 := h3.app ho hBw
        have hg4 := hg
        clear ho hBw hg
        refine hK.out _ _ (HA.out.below h4.low HA.out.lt) (fun hS => ?_)
        clear hK K
        try simp only [Act.put, List.setIfInBounds_toArray, List.set_cons_zero, List.set_cons_succ]
        refine wpAnyH_take (i := 11) (oi := ⟨some 8, _, _, _, _, _⟩) (v := ?_) rfl (by kernel_rfl) (by kernel_rfl) (by kernel_rfl) (fun _ _ _ h => h) (Or.inl ⟨by rfl, ?_⟩) hS ?_
        rotate_left
        · intro wq hq
          first | (go_simp; done) | (go_simp; rfl)
        try simp only [Act.put, List.setIfInBounds_toArray, List.set_cons_zero, List.set_cons_succ]
        refine wpAnyH_done (by kernel_rfl) ?_ _
        have HX := Lib.hid h4
        have HRz := Lib.hid ((HR3.out.below h4.low).more h4.lo)
        clear hS
        go_wp2_with (at_builtin; refine app_bs2 rfl _ _ rfl HX.out.b HX.out.lo HRz.out (by simp; omega) rfl rfl ?_)
        intro v9 W9 ho hB _ _
        have HO : Hid (OwnB w.heap.size W9 v9 (l ++ putR r)) := Lib.hid (by have := ho.low HLow.out.size; rw [HP.out]; simpa [List.append_assoc] using this)
        have HB9 := Lib.hid (HLow.out.trans ((HX.out.low.trans hB).mono HLow.out.size))
        clear ho hB HX HRz
        go_wp2_with fail
        go_ret2
        exact ⟨v9, by rw [HE.out]; rfl, by rw [hrr, if_pos rfl]; exact HO.out, HB9.out⟩
    · rw [if_pos (by rfl)]
      go_wp2
      have hL0 := rd_lit Wa [r.k, (bd.length : Int)] hok
      have hlwWb := below_one Wa (.cells #[.int .u8 r.k, .int .u8 (bd.length : Int)] 5)
      refine hK.out _ _ (HA.out.below hlwWb HA.out.lt) (fun hS => ?_)
      clear hK K
      try simp only [Act.put, List.setIfInBounds_toArray, List.set_cons_zero, List.set_cons_succ]
      have hloWb : Wa.heap.size ≤ (Wa.alloc (.cells #[.int .u8 r.k, .int .u8 (bd.length : Int)] 5)).heap.size := hlwWb.size
      refine wpAnyH_ready (rs := [0]) (by kernel_rfl) (by simp) ?_
      refine AllReadyH.cons (o := ⟨some 101, _, _, _, _, _⟩) rfl (fun K hK => ?_) AllReadyH.nil
      rw [if_pos (by rfl)]
      go_wp2
      have h1 : KX w Wa ((Wa.alloc (.cells #[.int .u8 r.k, .int .u8 (bd.length : Int)] 5)).alloc (.cells #[] 5)) (.slice (some ⟨(Wa.alloc (.cells #[.int .u8 r.k, .int .u8 (bd.length : Int)] 5)).heap.size, 0, none⟩) 0 0) [] := ⟨own_lit hloWb [] oct_nil (by simp), hlwWb.alloc hloWb _⟩
      refine hK.out _ _ (HA.out.below h1.low HA.out.lt) (fun hS => ?_)
      clear hK K
      try simp only [Act.put, List.setIfInBounds_toArray, List.set_cons_zero, List.set_cons_succ]
      have hs1 : (Wa.alloc (.cells #[.int .u8 r.k, .int .u8 (bd.length : Int)] 5)).heap.size = Wa.heap.size + 1 := by simp
      rw [hs1] at h1
      refine wpAnyH_ready (rs := [2]) (by kernel_rfl) (by simp) ?_
      refine AllReadyH.cons (o := ⟨some 103, _, _, _, _, _⟩) rfl (fun K hK => ?_) AllReadyH.nil
      rw [if_pos (by rfl)]
      refine app_wp7 _ _ rfl h1.b h1.lo ((HL3.out.below h1.low).more h1.lo) (by simp; omega) rfl rfl ?_
      intro v2 W2 ho hBw hg hv
      have h2 := h1.app ho hBw
      have hg2 := hg
      clear ho hBw hg
      refine hK.out _ _ (HA.out.below h2.low HA.out.lt) (fun hS => ?_)
      clear hK K
      try simp only [Act.put, List.setIfInBounds_toArray, List.set_cons_zero, List.set_cons_succ]
      refine wpAnyH_ready (rs := [10]) (by kernel_rfl) (by simp) ?_
      refine AllReadyH.cons (o := ⟨some 111, _, _, _, _, _⟩) rfl (fun K hK => ?_) AllReadyH.nil
      rw [if_pos (by rfl)]
      have hL1 := (hL0.below (below_one (Wa.alloc (.cells #[.int .u8 r.k, .int .u8 (bd.length : Int)] 5)) (.cells #[] 5))).more (below_one (Wa.alloc (.cells #[.int .u8 r.k, .int .u8 (bd.length : Int)] 5)) (.cells #[] 5)).size
      have hL2 := rd_kept hL1 (hg2.block Wa.heap.size (by simp; omega) (fun e => by simp [Value.ownBlock] at e)) (Nat.lt_of_lt_of_le (by simp; omega) hg2.size)
      refine app_wp6 _ _ rfl h2.b h2.lo (hL2) (by simp; omega) rfl rfl ?_
      intro v3 W3 ho hBw hg hv
      have h3 := h2.app ho hBw
      have hg3 := hg
      clear ho hBw hg
      refine hK.out _ _ (HA.out.below h3.low HA.out.lt) (fun hS => ?_)
      clear hK K
      try simp only [Act.put, List.setIfInBounds_toArray, List.set_cons_zero, List.set_cons_succ]
      refine wpAnyH_take (i := 11) (oi := ⟨some 8, _, _, _, _, _⟩) (v := ?_) rfl (by kernel_rfl) (by kernel_rfl) (by kernel_rfl) (fun _ _ _ h => h) (Or.inl ⟨by rfl, ?_⟩) hS ?_
      rotate_left
      · intro wq hq
        first | (go_simp; done) | (go_simp; rfl)
      try simp only [Act.put, List.setIfInBounds_toArray, List.set_cons_zero, List.set_cons_succ]
      refine wpAnyH_done (by kernel_rfl) ?_ _
      have HX := Lib.hid h3
      have HRz := Lib.hid ((HR3.out.below h3.low).more h3.lo)
      clear hS
      go_wp2_with (at_builtin; refine app_bs2 rfl _ _ rfl HX.out.b HX.out.lo HRz.out (by simp; omega) rfl rfl ?_)
      intro v9 W9 ho hB _ _
      have HO : Hid (OwnB w.heap.size W9 v9 (l ++ putR r)) := Lib.hid (by have := ho.low HLow.out.size; rw [HP.out]; simpa [List.append_assoc] using this)
      have HB9 := Lib.hid (HLow.out.trans ((HX.out.low.trans hB).mono HLow.out.size))
      clear ho hB HX HRz
      go_wp2_with fail
      go_ret2
      exact ⟨v9, by rw [HE.out]; rfl, by rw [hrr, if_pos rfl]; exact HO.out, HB9.out⟩
end Go.Proofs.Ytickcfcncpnaiaa
