/-
  The document's answer, layer 2: number, rd, RouterRd.
-/
import Derived.Test.YtfapmedlnaikiaaDoorRefC
namespace Go.Proofs.YtfapmedlnaikiaaDoor
open Go.RowKit
set_option linter.unusedSimpArgs false
set_option linter.unusedVariables false

set_option maxHeartbeats 400000 in
theorem rnum_is (w : World) (B : Nat) (A : Option Addr) (n c : Nat) (l : List Int) (hr : Rd w B A n l) (h8 : n ≤ 7) :
    Calls Tryd.prog 70 #[.slice A n c] w fun e w' => e = .returned (.int .u64 (numOf l)) ∧ w = w' := by
  have H := Lib.hid hr
  obtain rfl := hr.len
  have HO := Lib.hid hr.oct
  clear hr
  go_enter Tryd.func70, Tryd.ntmps70
  go_wp2
  go_loop [3, 4, 7] (fun s _ i => ∃ m : Nat, m ≤ l.length ∧ i = .int .i64 m ∧ s = .int .u64 (numOf (l.take m))) (fun _ _ i => l.length - (intOf i).toNat)
  case atStart => exact ⟨0, Nat.zero_le _, rfl, rfl⟩
  case round =>
    obtain ⟨m, hm, rfl, rfl⟩ := hrel
    by_cases hlt : m < l.length
    · obtain ⟨b, off, rfl, hb, hcell⟩ := H.out.at_ (by omega)
      have hcm := hcell m hlt
      have hx := HO.out.getD m
      have HS : Hid (numOf (l.take m) * 256 + l.getD m 0 = numOf (l.take (m + 1))) := Lib.hid (by
        rw [List.take_succ_eq_append_getElem hlt, numOf_snoc]; simp [List.getD, hlt])
      have hbd := numOf_bd (l.take m) (fun x hx => HO.out x (List.mem_of_mem_take hx))
      have hp : (256 : Int) ^ (l.take m).length ≤ 281474976710656 := by
        rw [List.length_take, Nat.min_eq_left hm]
        have : ∀ m, m < 7 → (256 : Int) ^ m ≤ 281474976710656 := by decide
        exact this m (by omega)
      have hb2 : 0 ≤ numOf (l.take m) ∧ numOf (l.take m) < 281474976710656 := ⟨hbd.1, by omega⟩
      clear hcell hbd hp
      generalize numOf (l.take m) = N at *
      generalize l.getD m 0 = x at *
      go_wp2
      refine ⟨⟨m + 1, by omega, by go_num, by rw [← HS.out]⟩, by simp [intOf]; omega⟩
    · obtain rfl : m = l.length := by omega
      rw [List.take_length]
      go_wp2
      go_ret
      exact ⟨rfl, rfl⟩
theorem or_sh (a b : Int) (t : Nat) (ha0 : 0 ≤ a) (hb0 : 0 ≤ b) (hb1 : b < 2 ^ t) (h : a * 2 ^ t < 18446744073709551616) (h2 : b < 18446744073709551616) : bits .or .u64 (a * 2 ^ t) b = a * 2 ^ t + b := by
  have hp : (0 : Int) ≤ 2 ^ t := Int.le_of_lt (Int.pow_pos (by decide))
  rw [u64_or _ _ (Int.mul_nonneg ha0 hp) h hb0 h2]
  obtain ⟨x, rfl⟩ := Int.eq_ofNat_of_zero_le ha0
  obtain ⟨y, rfl⟩ := Int.eq_ofNat_of_zero_le hb0
  have hy : y < 2 ^ t := by exact_mod_cast hb1
  have e1 : ((x : Int) * 2 ^ t).toNat = x <<< t := by
    rw [Nat.shiftLeft_eq, show (x : Int) * 2 ^ t = ((x * 2 ^ t : Nat) : Int) by push_cast; rfl, Int.toNat_natCast]
  rw [e1, Int.toNat_natCast, ← Nat.shiftLeft_add_eq_or_of_lt hy, Nat.shiftLeft_eq]
  push_cast
  rfl
set_option maxHeartbeats 4000000 in
set_option maxRecDepth 100000 in
theorem rrd_go (w : World) (k a b n N0 : Int) (hk : 0 ≤ k ∧ k ≤ 2) (hn : 0 ≤ n ∧ n < 281474976710656)
    (e0 : bits .or .u64 (IntKind.u64.wrap (a * 65536)) b = N0) (e1 : k = 0 → bits .or .u64 (IntKind.u64.wrap (a * 4294967296)) b = n) (e2 : k ≠ 0 → N0 = n) :
    Calls Tryd.prog 74 #[.int .i64 k, .int .u64 a, .int .u64 b] w fun e w' => e = .returned (.agg (u8s (rdB k n)).toArray) ∧ Below w.heap.size w w' := by
  have HN0 := Blk.new (w.alloc (.cells zr8 60)) 60 zr8
  rw [show (w.alloc (.cells zr8 60)).heap.size = w.heap.size + 1 by simp] at HN0
  have hc1 := HN0.cell 1
  have hf1 := HN0.frozen 1
  have HA : Hid (Blk ((w.alloc (.cells zr8 60)).alloc (.cells (u8s [0, k, 0, 0, 0, 0, 0, 0]).toArray 60)) (w.heap.size + 1) 60 (u8s [0, k, 0, 0, 0, 0, 0, 0]).toArray) := Lib.hid (by
    have h := Blk.new (w.alloc (.cells zr8 60)) 60 (u8s [0, k, 0, 0, 0, 0, 0, 0]).toArray
    rwa [show (w.alloc (.cells zr8 60)).heap.size = w.heap.size + 1 by simp] at h)
  have HR : Hid (Blk ((w.alloc (.cells zr8 60)).alloc (.cells (u8s [0, k, 0, 0, 0, 0, 0, 0]).toArray 60)) w.heap.size 60 zr8) := Lib.hid ((Blk.new w 60 zr8).alloc _)
  have HB : Hid (Below w.heap.size w ((w.alloc (.cells zr8 60)).alloc (.cells (u8s [0, k, 0, 0, 0, 0, 0, 0]).toArray 60))) := Lib.hid (((Below.refl w.heap.size w).alloc (Nat.le_refl _) _).alloc (by simp) _)
  have wk : IntKind.u8.wrap k = k := by rw [IntKind.wrap_u8]; exact Int.emod_eq_of_lt (by omega) (by omega)
  clear HN0
  have hor : ((k == 0) = true ∧ bits .or .u64 (IntKind.u64.wrap (a * 4294967296)) b = n) ∨ ((k == 0) = false ∧ N0 = n) := by
    by_cases h : k = 0
    · exact .inl ⟨by simpa using h, e1 h⟩
    · exact .inr ⟨by simpa using h, e2 h⟩
  clear e1 e2
  rcases hor with ⟨hk0, e1⟩ | ⟨hk0, e2⟩
  · go_enter Tryd.func74, Tryd.ntmps74
    go_wp2
    clear e0 e1 wk hc1 hf1 hk0
    go_loopw [8, 9] (fun nv i wr => ∃ j : Nat, j ≤ 6 ∧ i = .int .i64 ((7 : Int) - j) ∧ nv = .int .u64 (n / 256 ^ j) ∧ Blk wr (w.heap.size + 1) 60 (u8s (0 :: k :: (List.replicate (6 - j) 0 ++ lowB j n))).toArray ∧ Blk wr w.heap.size 60 zr8 ∧ Below w.heap.size w wr) (fun _ i _ => (intOf i).toNat)
    case atStart => exact ⟨0, by omega, rfl, by simp, HA.out, HR.out, HB.out⟩
    case round =>
      obtain ⟨j, hj, rfl, rfl, ha, hz, hB⟩ := hrel
      have HAa := Lib.hid ha
      have HZ := Lib.hid hz
      have HBb := Lib.hid hB
      clear ha hz hB HA HR HB
      have hq0 : 0 ≤ n / 256 ^ j := Int.ediv_nonneg hn.1 (Int.le_of_lt (Int.pow_pos (by decide)))
      have hq1 : n / 256 ^ j ≤ n := Int.ediv_le_self _ hn.1
      by_cases hlt : j < 6
      · have hA := HAa.out
        rw [fill_rd k n j hlt] at hA
        have hlen : ((0 :: k :: List.replicate (5 - j) 0) : List Int).length = 7 - j := by simp; omega
        have hc := hA.cell (7 - j)
        rw [u8s_get _ _ _ (7 - j) hlen] at hc
        have hf := hA.frozen (7 - j)
        have hset := hA.set_ (7 - j) (.int .u8 (n / 256 ^ j % 256))
        rw [u8s_set _ _ _ _ (7 - j) hlen, fill_rd2 k n j hlt] at hset
        have HS := Lib.hid hset
        have HZ2 := Lib.hid (HZ.out.far (p := ⟨w.heap.size + 1, 7 - j, none⟩) (by simp) (.int .u8 (n / 256 ^ j % 256)))
        have HB2 := Lib.hid (HBb.out.setCell (p := ⟨w.heap.size + 1, 7 - j, none⟩) (show w.heap.size ≤ w.heap.size + 1 by omega) (.int .u8 (n / 256 ^ j % 256)))
        have HQ : Hid (n / 256 ^ j / 256 = n / 256 ^ (j + 1)) := Lib.hid (by rw [Int.pow_succ, Int.ediv_ediv_of_nonneg (Int.le_of_lt (Int.pow_pos (by decide)))])
        have m7 : (7 : Int) - (j : Int) = ((7 - j : Nat) : Int) := by omega
        have h7 : 7 - j < 8 := by omega
        have h72 : 2 ≤ 7 - j := by omega
        have HJ : Hid ((((7 - j : Nat) : Int) - 1) = (7 : Int) - ((j + 1 : Nat) : Int)) := Lib.hid (by omega)
        clear hA hset hlen HAa HZ HBb
        generalize n / 256 ^ j = nj at *
        rw [m7]
        generalize 7 - j = c at *
        go_wp2
        exact ⟨⟨j + 1, by omega, by rw [← HJ.out], by rw [← HQ.out], HS.out, HZ2.out, HB2.out⟩, by simp [intOf]; omega⟩
      · obtain rfl : j = 6 := by omega
        have HA2 : Hid (Blk wr (w.heap.size + 1) 60 (u8s (rdB k n)).toArray) := Lib.hid HAa.out
        clear HAa hq0 hq1
        generalize n / 256 ^ 6 = nj at *
        go_wp2_with (first
          | (refine rd_fetch rfl _ rfl (w.heap.size + 1) (rdB k n) (rdB_len k n) rfl HA2.out.range ?_)
          | (refine rd_store rfl _ _ rfl w.heap.size (rdB k n) (rdB_len k n) rfl rfl 60 zr8 HZ.out rfl ?_))
        refine bodyPost_ret (v := .agg (u8s (rdB k n)).toArray) ?_ rfl ⟨rfl, HBb.out.trans (below_setRow _ _ _ (Nat.le_refl _))⟩
        exact results_cell_row rfl _ _ w.heap.size 60 _ (0, 0) _ rfl (Blk.setRow HZ.out _) Tryd.underlying60 rfl (rd_size _ (rdB_len k n))
  · rw [e2] at e0
    clear e2
    go_enter Tryd.func74, Tryd.ntmps74
    go_wp2
    clear e0 wk hc1 hf1 hk0
    go_loopw [8, 9] (fun nv i wr => ∃ j : Nat, j ≤ 6 ∧ i = .int .i64 ((7 : Int) - j) ∧ nv = .int .u64 (n / 256 ^ j) ∧ Blk wr (w.heap.size + 1) 60 (u8s (0 :: k :: (List.replicate (6 - j) 0 ++ lowB j n))).toArray ∧ Blk wr w.heap.size 60 zr8 ∧ Below w.heap.size w wr) (fun _ i _ => (intOf i).toNat)
    case atStart => exact ⟨0, by omega, rfl, by simp, HA.out, HR.out, HB.out⟩
    case round =>
      obtain ⟨j, hj, rfl, rfl, ha, hz, hB⟩ := hrel
      have HAa := Lib.hid ha
      have HZ := Lib.hid hz
      have HBb := Lib.hid hB
      clear ha hz hB HA HR HB
      have hq0 : 0 ≤ n / 256 ^ j := Int.ediv_nonneg hn.1 (Int.le_of_lt (Int.pow_pos (by decide)))
      have hq1 : n / 256 ^ j ≤ n := Int.ediv_le_self _ hn.1
      by_cases hlt : j < 6
      · have hA := HAa.out
        rw [fill_rd k n j hlt] at hA
        have hlen : ((0 :: k :: List.replicate (5 - j) 0) : List Int).length = 7 - j := by simp; omega
        have hc := hA.cell (7 - j)
        rw [u8s_get _ _ _ (7 - j) hlen] at hc
        have hf := hA.frozen (7 - j)
        have hset := hA.set_ (7 - j) (.int .u8 (n / 256 ^ j % 256))
        rw [u8s_set _ _ _ _ (7 - j) hlen, fill_rd2 k n j hlt] at hset
        have HS := Lib.hid hset
        have HZ2 := Lib.hid (HZ.out.far (p := ⟨w.heap.size + 1, 7 - j, none⟩) (by simp) (.int .u8 (n / 256 ^ j % 256)))
        have HB2 := Lib.hid (HBb.out.setCell (p := ⟨w.heap.size + 1, 7 - j, none⟩) (show w.heap.size ≤ w.heap.size + 1 by omega) (.int .u8 (n / 256 ^ j % 256)))
        have HQ : Hid (n / 256 ^ j / 256 = n / 256 ^ (j + 1)) := Lib.hid (by rw [Int.pow_succ, Int.ediv_ediv_of_nonneg (Int.le_of_lt (Int.pow_pos (by decide)))])
        have m7 : (7 : Int) - (j : Int) = ((7 - j : Nat) : Int) := by omega
        have h7 : 7 - j < 8 := by omega
        have h72 : 2 ≤ 7 - j := by omega
        have HJ : Hid ((((7 - j : Nat) : Int) - 1) = (7 : Int) - ((j + 1 : Nat) : Int)) := Lib.hid (by omega)
        clear hA hset hlen HAa HZ HBb
        generalize n / 256 ^ j = nj at *
        rw [m7]
        generalize 7 - j = c at *
        go_wp2
        exact ⟨⟨j + 1, by omega, by rw [← HJ.out], by rw [← HQ.out], HS.out, HZ2.out, HB2.out⟩, by simp [intOf]; omega⟩
      · obtain rfl : j = 6 := by omega
        have HA2 : Hid (Blk wr (w.heap.size + 1) 60 (u8s (rdB k n)).toArray) := Lib.hid HAa.out
        clear HAa hq0 hq1
        generalize n / 256 ^ 6 = nj at *
        go_wp2_with (first
          | (refine rd_fetch rfl _ rfl (w.heap.size + 1) (rdB k n) (rdB_len k n) rfl HA2.out.range ?_)
          | (refine rd_store rfl _ _ rfl w.heap.size (rdB k n) (rdB_len k n) rfl rfl 60 zr8 HZ.out rfl ?_))
        refine bodyPost_ret (v := .agg (u8s (rdB k n)).toArray) ?_ rfl ⟨rfl, HBb.out.trans (below_setRow _ _ _ (Nat.le_refl _))⟩
        exact results_cell_row rfl _ _ w.heap.size 60 _ (0, 0) _ rfl (Blk.setRow HZ.out _) Tryd.underlying60 rfl (rd_size _ (rdB_len k n))
end Go.Proofs.YtfapmedlnaikiaaDoor
