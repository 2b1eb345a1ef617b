/-
  The document's answer, layer 2: rd at numbers that fit, RouterRd.
-/
import Derived.Test.YtfapmedlnaikiaaDoorRefD
namespace Go.Proofs.YtfapmedlnaikiaaDoor
open Go.RowKit
set_option linter.unusedSimpArgs false
set_option linter.unusedVariables false

theorem rrd_is (w : World) (k a b : Int) (h : FitRd k a b) :
    Calls Tryd.prog 74 #[.int .i64 k, .int .u64 a, .int .u64 b] w fun e w' => e = .returned (.agg (u8s (rdB k (a * (most k + 1) + b))).toArray) ∧ Below w.heap.size w w' := by
  obtain ⟨h0, h1, h2, h3, h4, h5, h6⟩ := fit_prod h
  refine rrd_go w k a b _ _ ⟨h0, h1⟩ ⟨by omega, h6.2⟩ rfl ?_ ?_
  · rintro rfl
    rcases h with ⟨_, a0, a1, b0, b1⟩ | ⟨hk, _⟩
    · rw [IntKind.wrap_u64, Int.emod_eq_of_lt (by omega) (by omega)]
      have := or_sh a b 32 a0 b0 (by omega) (by omega) (by omega)
      exact this
    · omega
  · intro hk
    rcases h with ⟨hk0, _⟩ | ⟨hk0, a0, a1, b0, b1⟩
    · exact absurd hk0 hk
    · rw [IntKind.wrap_u64, Int.emod_eq_of_lt (by omega) (by omega)]
      have := or_sh a b 16 a0 b0 (by omega) (by omega) (by omega)
      rw [show most k = 65535 by unfold most; rw [if_neg hk]]
      exact this
set_option maxHeartbeats 4000000 in
set_option maxRecDepth 100000 in
theorem rrtr_is (w : World) (id n : Int) (hid : 0 ≤ id ∧ id ≤ 4294967295) (hn : I64 n) :
    Calls Tryd.prog 48 #[.int .u32 id, .int .i64 n] w fun e w' => e = .returned (rtrE (rtrRd id n)) ∧ Below w.heap.size w w' := by
  have HR := Lib.hid (Blk.new w 60 zr8)
  have HL : Hid (Below w.heap.size w (w.alloc (.cells zr8 60))) := Lib.hid ((Below.refl _ _).alloc (Nat.le_refl _) _)
  by_cases h : 0 ≤ n ∧ n ≤ 65535
  · have HN : Hid (rtrRd id n = some (rdB 1 (id * (most 1 + 1) + n))) := Lib.hid (by unfold rtrRd; rw [if_pos h])
    have HF : Hid (FitRd 1 id n) := Lib.hid (.inr ⟨.inl rfl, hid.1, hid.2, h.1, h.2⟩)
    have g1 : ¬ n < 0 := by omega
    have g2 : ¬ n > 65535 := by omega
    have w1 : IntKind.u64.wrap id = id := by rw [IntKind.wrap_u64]; exact Int.emod_eq_of_lt (by omega) (by omega)
    have w2 : IntKind.u64.wrap n = n := by rw [IntKind.wrap_u64]; exact Int.emod_eq_of_lt (by omega) (by omega)
    go_enter Tryd.func48, Tryd.ntmps48
    go_wp2_with fail
    refine (rrd_is _ 1 id n HF.out).mono ?_
    rintro e w1' ⟨rfl, hB⟩
    rw [show (w.alloc (.cells zr8 60)).heap.size = w.heap.size + 1 by simp] at hB
    have HR1 := Lib.hid (HR.out.below hB (by omega))
    have HL1 := Lib.hid (HL.out.trans (hB.mono (by omega)))
    have hl := rdB_len 1 (id * (most 1 + 1) + n)
    clear hB HR HL
    generalize rdB 1 (id * (most 1 + 1) + n) = l at *
    go_wp2_with (refine rd_store rfl _ _ rfl w.heap.size l hl rfl rfl 60 zr8 HR1.out rfl ?_)
    refine bodyPost_ret (v := rtrE (some l)) ?_ rfl ⟨by rw [HN.out], HL1.out.trans (below_setRow _ _ _ (Nat.le_refl _))⟩
    exact results_cell_slot rfl _ _ w.heap.size 60 _ _ _ rfl rfl (Blk.setRow HR1.out _) Tryd.underlying60 rfl (rd_size l hl)
  · have HN : Hid (rtrRd id n = none) := Lib.hid (by unfold rtrRd; rw [if_neg h])
    rcases (show n < 0 ∨ (¬ n < 0 ∧ n > 65535) by omega) with g | ⟨g, g2⟩
    all_goals
      clear h
      go_enter Tryd.func48, Tryd.ntmps48
      go_wp2_with (refine rd_store rfl _ _ rfl w.heap.size (List.replicate 8 0) rfl rfl rfl 60 zr8 HR.out rfl ?_)
      refine bodyPost_ret (v := rtrE none) ?_ rfl ⟨by rw [HN.out], HL.out.trans (below_setRow _ _ _ (Nat.le_refl _))⟩
      exact results_cell_slot rfl _ _ w.heap.size 60 _ _ _ rfl rfl (Blk.setRow HR.out _) Tryd.underlying60 rfl (by kernel_rfl)
end Go.Proofs.YtfapmedlnaikiaaDoor
