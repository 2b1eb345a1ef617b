/-
  Layer 2 (addr): mostLast, makeRd.
-/
import Derived.Test.YtkaimdcepnhkdaaDoorAdS
namespace Go.Proofs.YtkaimdcepnhkdaaDoor
open Go.RowKit
set_option linter.unusedSimpArgs false
set_option linter.unusedVariables false

def most (k : Int) : Int := if k = 0 then 4294967295 else 65535
theorem ml_is (w : World) (k : Int) : Calls Tryd.prog 120 #[.int .u8 k] w fun e w' => e = .returned (.int .u64 (most k)) ∧ w = w' := by
  by_cases h : k = 0
  · subst h
    go_enter Tryd.func120, Tryd.ntmps120
    go_wp2
    go_ret
    exact ⟨rfl, rfl⟩
  · have hb : (k == 0) = false := by simpa using h
    have H : Hid (most k = 65535) := Lib.hid (by unfold most; rw [if_neg h])
    clear h
    go_enter Tryd.func120, Tryd.ntmps120
    go_wp2
    go_ret
    exact ⟨by rw [H.out]; rfl, rfl⟩
/-- The lowest k bytes of n, the highest of them first. -/
def lowB : Nat → Int → List Int
  | 0, _ => []
  | k + 1, n => (n / 256 ^ k % 256) :: lowB k n
theorem lowB_len : ∀ k n, (lowB k n).length = k
  | 0, _ => rfl
  | k + 1, n => by simp [lowB, lowB_len k n]
theorem lowB_oct : ∀ k n, Oct (lowB k n)
  | 0, _ => by intro x h; cases h
  | k + 1, n => by
    intro x h
    rcases List.mem_cons.1 h with rfl | h
    · omega
    · exact lowB_oct k n x h
/-- A distinguisher's bytes. -/
def rdB (k n : Int) : List Int := 0 :: k :: lowB 6 n
theorem rdB_len (k n : Int) : (rdB k n).length = 8 := by simp [rdB, lowB_len]
theorem rdB_oct (k n : Int) (h0 : 0 ≤ k) (h1 : k < 256) : Oct (rdB k n) := by
  intro x hx
  rcases List.mem_cons.1 hx with rfl | hx
  · omega
  · rcases List.mem_cons.1 hx with rfl | hx
    · omega
    · exact lowB_oct 6 n x hx
theorem u8s_get (xs ys : List Int) (y : Int) (k : Nat) (hk : xs.length = k) : (u8s (xs ++ y :: ys)).toArray[k]? = some (.int .u8 y) := by
  subst hk; simp
theorem u8s_set (xs ys : List Int) (y z : Int) (k : Nat) (hk : xs.length = k) : (u8s (xs ++ y :: ys)).toArray.setIfInBounds k (.int .u8 z) = (u8s (xs ++ z :: ys)).toArray := by
  subst hk; simp [List.set_append]
theorem rd_size (l : List Int) (hl : l.length = 8) : (Tryd.prog.info? 95).map (·.size) = some (u8s l).toArray.size := by
  have : (Tryd.prog.info? 95).map (·.size) = some 8 := by kernel_rfl
  rw [this]; simp [hl]
theorem rd_fetch {ops : Array Oper} {rest : List Oper} {op : Oper} {a : Act} {w : World} {Q : Exit → Act → World → Prop} (hw : Region.wanted op (yielded ops a.tmps) = true) (x : Operand) (ho : op.op = .load 95 x) (b : Nat) (l : List Int) (hl : l.length = 8)
    (hx : a.eval x = .pointer (some ⟨b, 0, none⟩)) (hc : w.rangeAt b 0 (u8s l)) (h : wpList Tryd.prog ops Q rest (a.put op.dst (.agg (u8s l).toArray)) w) : wpList Tryd.prog ops Q (op :: rest) a w :=
  BigFrame.wpList_want hw fun _ hK => wp_load_mid 95 x ho b 0 hx (u8s l) _ hc Tryd.underlying95 rfl (by simpa using rd_size l hl) (hK _ _ h)
theorem rd_store {ops : Array Oper} {rest : List Oper} {o : Oper} {a : Act} {w : World} {Q : Exit → Act → World → Prop} (hgd : o.guard = none) (x y : Operand) (ho : o.op = .store 95 x y) (g : Nat) (l : List Int) (hl : l.length = 8)
    (hx : a.eval x = .pointer (some ⟨g, 0, none⟩)) (hy : a.eval y = .agg (u8s l).toArray) (t : TypeId) (old : Array Value) (hg : Blk w g t old) (hold : old.size = 8)
    (h : wpList Tryd.prog ops Q rest (a.put o.dst undef) (w.setRow g (u8s l).toArray)) : wpList Tryd.prog ops Q (o :: rest) a w :=
  wpList_store_row hgd 95 x y ho g _ hx hy t old hg (rd_size l hl) (by rw [hold]; simp [hl]) (all_oneCell_toArray (u8s_one l)) h
abbrev zr8 : Array Value := #[Value.int .u8 0, Value.int .u8 0, Value.int .u8 0, Value.int .u8 0, Value.int .u8 0, Value.int .u8 0, Value.int .u8 0, Value.int .u8 0]
/-- Which numbers fit a kind. -/
def FitRd (k a b : Int) : Prop := (k = 0 ∧ 0 ≤ a ∧ a ≤ 65535 ∧ 0 ≤ b ∧ b ≤ 4294967295) ∨ ((k = 1 ∨ k = 2) ∧ 0 ≤ a ∧ a ≤ 4294967295 ∧ 0 ≤ b ∧ b ≤ 65535)
theorem shr_byte (n : Int) (k : Nat) : n / 2 ^ (8 * k) % 256 = n / 256 ^ k % 256 := by
  rw [Int.pow_mul]; rfl
theorem fill_rd (k n : Int) (i : Nat) (hi : i < 6) : (0 :: k :: (List.replicate (6 - i) 0 ++ lowB i n) : List Int) = (0 :: k :: List.replicate (5 - i) 0) ++ 0 :: lowB i n := by
  rw [show 6 - i = 5 - i + 1 by omega, List.replicate_succ']; simp
theorem fill_rd2 (k n : Int) (i : Nat) (hi : i < 6) : (0 :: k :: List.replicate (5 - i) 0) ++ (n / 256 ^ i % 256) :: lowB i n = (0 :: k :: (List.replicate (6 - (i + 1)) 0 ++ lowB (i + 1) n) : List Int) := by
  rw [show 6 - (i + 1) = 5 - i by omega]; simp [lowB]
set_option maxHeartbeats 2000000 in
set_option maxRecDepth 100000 in
theorem mk_go (w : World) (k a b M : Int) (hM : most k = M) (hk0 : 0 ≤ k) (hk2 : k ≤ 2) (ha0 : 0 ≤ a) (hb0 : 0 ≤ b) (hb : b ≤ M) (hM2 : 0 ≤ M ∧ M ≤ 4294967295) (hprod : 0 ≤ a * (M + 1) ∧ a * (M + 1) + b < 281474976710656) :
    Calls Tryd.prog 121 #[.int .u8 k, .int .u64 a, .int .u64 b] w fun e w' => e = .returned (.agg (u8s (rdB k (a * (M + 1) + b))).toArray) ∧ Below w.heap.size w w' := by
  have hw1 : IntKind.u64.wrap (M + 1) = M + 1 := by rw [IntKind.wrap_u64]; exact Int.emod_eq_of_lt (by omega) (by omega)
  have hw2 : IntKind.u64.wrap (a * (M + 1)) = a * (M + 1) := by rw [IntKind.wrap_u64]; exact Int.emod_eq_of_lt hprod.1 (by omega)
  have hw3 : IntKind.u64.wrap (a * (M + 1) + b) = a * (M + 1) + b := by rw [IntKind.wrap_u64]; exact Int.emod_eq_of_lt (by omega) (by omega)
  have Hm := Lib.hid (ml_is (w.alloc (.cells zr8 95)) k)
  rw [hM] at Hm
  clear hM
  go_enter Tryd.func121, Tryd.ntmps121
  go_wp2_with fail
  refine Hm.out.mono ?_
  rintro e w' ⟨rfl, rfl⟩
  clear Hm
  have HA := Lib.hid (Blk.setRow (Blk.new (w.alloc (.cells zr8 95)) 95 zr8) (u8s [0, k, 0, 0, 0, 0, 0, 0]).toArray)
  have HN := Lib.hid (Blk.new (w.alloc (.cells zr8 95)) 95 zr8)
  rw [show (w.alloc (.cells zr8 95)).heap.size = w.heap.size + 1 by simp] at HA HN
  have HR : Hid (Blk (((w.alloc (.cells zr8 95)).alloc (.cells zr8 95)).setRow (w.heap.size + 1) (u8s [0, k, 0, 0, 0, 0, 0, 0]).toArray) w.heap.size 95 zr8) := Lib.hid (((Blk.new w 95 zr8).alloc _).below (below_setRow _ (w.heap.size + 1) _ (Nat.le_refl _)) (by omega))
  have HB : Hid (Below w.heap.size w (((w.alloc (.cells zr8 95)).alloc (.cells zr8 95)).setRow (w.heap.size + 1) (u8s [0, k, 0, 0, 0, 0, 0, 0]).toArray)) := Lib.hid ((((Below.refl _ _).alloc (Nat.le_refl _) _).alloc (by simp) _).trans (below_setRow _ _ _ (by omega)))
  go_wp2_with (refine rd_store rfl _ _ rfl (w.heap.size + 1) [0, k, 0, 0, 0, 0, 0, 0] rfl rfl rfl 95 zr8 HN.out rfl ?_)
  have hn0 : 0 ≤ a * (M + 1) + b := by omega
  have hn1 := hprod.2
  generalize hn : a * (M + 1) + b = n at *
  have HNn := Lib.hid hn
  clear hw1 hw2 hw3 hprod hn
  go_loopw [9, 19] (fun _ i wr => ∃ j : Nat, j ≤ 6 ∧ i = .int .i64 j ∧ Blk wr (w.heap.size + 1) 95 (u8s (0 :: k :: (List.replicate (6 - j) 0 ++ lowB j n))).toArray ∧ Blk wr w.heap.size 95 zr8 ∧ Below w.heap.size w wr) (fun _ i _ => 6 - (intOf i).toNat)
  case atStart => exact ⟨0, by omega, rfl, HA.out, HR.out, HB.out⟩
  case round =>
    obtain ⟨j, hj, rfl, ha, hz, hB⟩ := hrel
    have HAa := Lib.hid ha
    have HZ := Lib.hid hz
    have HBb := Lib.hid hB
    clear ha hz hB HA HN HR HB
    by_cases hlt : j < 6
    · have hA := HAa.out
      rw [fill_rd k n j hlt] at hA
      have hlen : ((0 :: k :: List.replicate (5 - j) 0) : List Int).length = 7 - j := by simp; omega
      have hc := hA.cell (7 - j)
      rw [u8s_get _ _ _ (7 - j) hlen] at hc
      have hf := hA.frozen (7 - j)
      have hset := hA.set_ (7 - j) (.int .u8 (n / 256 ^ j % 256))
      rw [u8s_set _ _ _ _ (7 - j) hlen, fill_rd2 k n j hlt] at hset
      have HS := Lib.hid hset
      have HZ2 := Lib.hid (HZ.out.far (p := ⟨w.heap.size + 1, 7 - j, none⟩) (by simp) (.int .u8 (n / 256 ^ j % 256)))
      have HB2 := Lib.hid (HBb.out.setCell (p := ⟨w.heap.size + 1, 7 - j, none⟩) (show w.heap.size ≤ w.heap.size + 1 by omega) (.int .u8 (n / 256 ^ j % 256)))
      have HShr := Lib.hid (shr_byte n j)
      clear hA hset hlen HAa HZ HBb
      generalize n / 256 ^ j % 256 = x at *
      go_wp2
      rw [HShr.out]
      exact ⟨⟨j + 1, by omega, by go_num, HS.out, HZ2.out, HB2.out⟩, by simp [intOf]; omega⟩
    · obtain rfl : j = 6 := by omega
      have HA2 : Hid (Blk wr (w.heap.size + 1) 95 (u8s (rdB k n)).toArray) := Lib.hid HAa.out
      clear HAa
      go_wp2_with (first
        | (refine rd_fetch rfl _ rfl (w.heap.size + 1) (rdB k n) (rdB_len k n) rfl HA2.out.range ?_)
        | (refine rd_store rfl _ _ rfl w.heap.size (rdB k n) (rdB_len k n) rfl rfl 95 zr8 HZ.out rfl ?_))
      refine bodyPost_ret (v := .agg (u8s (rdB k n)).toArray) ?_ rfl ⟨by rw [HNn.out], HBb.out.trans (below_setRow _ _ _ (Nat.le_refl _))⟩
      exact results_cell_row rfl _ _ w.heap.size 95 _ (0, 0) _ rfl (Blk.setRow HZ.out _) Tryd.underlying95 rfl (rd_size _ (rdB_len k n))

theorem fit_prod {k a b : Int} (h : FitRd k a b) : 0 ≤ k ∧ k ≤ 2 ∧ 0 ≤ a ∧ 0 ≤ b ∧ b ≤ most k ∧ (0 ≤ most k ∧ most k ≤ 4294967295) ∧ (0 ≤ a * (most k + 1) ∧ a * (most k + 1) + b < 281474976710656) := by
  unfold most
  rcases h with ⟨rfl, h1, h2, h3, h4⟩ | ⟨h0, h1, h2, h3, h4⟩
  · rw [if_pos rfl]; omega
  · rw [if_neg (by omega)]; omega
theorem mk_is (w : World) (k a b : Int) (h : FitRd k a b) :
    Calls Tryd.prog 121 #[.int .u8 k, .int .u64 a, .int .u64 b] w fun e w' => e = .returned (.agg (u8s (rdB k (a * (most k + 1) + b))).toArray) ∧ Below w.heap.size w w' := by
  obtain ⟨h0, h1, h2, h3, h4, h5, h6⟩ := fit_prod h
  exact mk_go w k a b (most k) rfl h0 h1 h2 h3 h4 h5 h6
end Go.Proofs.YtkaimdcepnhkdaaDoor
