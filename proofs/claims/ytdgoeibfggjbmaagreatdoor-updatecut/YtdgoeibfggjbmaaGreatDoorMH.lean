/-
  Put together: AdC AdD.
-/
import Derived.Test.YtdgoeibfggjbmaaGreatDoorMR
import Derived.BigFrame
namespace Go.Proofs.YtdgoeibfggjbmaaGreatDoor
open Go.RowKit
set_option maxRecDepth 100000
set_option linter.unusedSimpArgs false
set_option linter.unusedVariables false

def bitsOf (v : Bool) : Int := if v then 128 else 32
theorem bits_is (w : World) (v : Bool) (l : List Int) :
    Calls Tryz.prog 150 #[.agg (ipc v l).toArray] w fun e w' => e = .returned (.int .i64 (bitsOf v)) ∧ Below w.heap.size w w' := by
  cases v
  · go_enter Tryz.func150, Tryz.ntmps150
    go_wp2
    go_ret
    exact ⟨rfl, (Below.refl _ _).alloc (Nat.le_refl _) _⟩
  · go_enter Tryz.func150, Tryz.ntmps150
    go_wp2
    go_ret
    exact ⟨rfl, (Below.refl _ _).alloc (Nat.le_refl _) _⟩

def keepB (b : Int) (k : Nat) : Int := b / 2 ^ (8 - k) * 2 ^ (8 - k)
def stay (n : Int) (i : Nat) : Nat := (min (max (n - 8 * i) 0) 8).toNat
def firstBits (l : List Int) (n : Int) : List Int := l.mapIdx fun i b => keepB b (stay n i)
theorem keepB_all : ∀ b : Fin 256, ∀ k : Fin 9, bits .andNot .u8 (b.val : Int) (255 / 2 ^ k.val) = keepB (b.val : Int) k.val := by decide +kernel
theorem keepB_is (b : Int) (k : Nat) (h0 : 0 ≤ b) (h1 : b < 256) (hk : k ≤ 8) : bits .andNot .u8 b (255 / 2 ^ k) = keepB b k := by
  have := keepB_all ⟨b.toNat, by omega⟩ ⟨k, by omega⟩
  simpa [Int.toNat_of_nonneg h0] using this

theorem fb_len (l : List Int) (n : Int) : (firstBits l n).length = l.length := by simp [firstBits]
theorem fb_get (l : List Int) (n : Int) (k : Nat) (hk : k < l.length) : (firstBits l n)[k]'(by rw [fb_len]; exact hk) = keepB (l.getD k 0) (stay n k) := by simp [firstBits, List.getD, hk]
theorem fb_split (l : List Int) (n : Int) (k : Nat) (hk : k < l.length) : (firstBits l n).take k ++ l.drop k = (firstBits l n).take k ++ l.getD k 0 :: l.drop (k + 1) := by
  rw [List.drop_eq_getElem_cons hk]
  simp [List.getD, hk]
theorem fb_split2 (l : List Int) (n : Int) (k : Nat) (hk : k < l.length) : (firstBits l n).take (k + 1) ++ l.drop (k + 1) = (firstBits l n).take k ++ keepB (l.getD k 0) (stay n k) :: l.drop (k + 1) := by
  rw [List.take_succ_eq_append_getElem (by rw [fb_len]; exact hk), fb_get l n k hk]
  simp
set_option maxHeartbeats 1000000 in
set_option maxRecDepth 100000 in
theorem fbits_is (w : World) (v : Bool) (l : List Int) (n : Int) (hl : l.length = 16) (ho : Oct l) (hn : 0 ≤ n) (hn2 : n ≤ 128) :
    Calls Tryz.prog 242 #[.agg (ipc v l).toArray, .int .i64 n] w fun e w' => e = .returned (.agg (ipc v (firstBits l n)).toArray) ∧ Below w.heap.size w w' := by
  go_enter Tryz.func242, Tryz.ntmps242
  go_wp2
  go_loopw [5, 6, 7] (fun _ _ i wr => ∃ k : Nat, k ≤ 16 ∧ i = .int .i64 k ∧ Blk wr w.heap.size 27 (ipc v ((firstBits l n).take k ++ l.drop k)).toArray ∧ (∃ z, Blk wr (w.heap.size + 1) 27 z ∧ z.size = 17) ∧ Below w.heap.size w wr) (fun _ _ i _ => 16 - (intOf i).toNat)
  case atStart =>
    exact ⟨0, by omega, rfl, by simpa using (Blk.new w 27 (ipc v l).toArray).alloc _, ⟨_, by simpa using Blk.new (w.alloc (.cells (ipc v l).toArray 27)) 27 _, rfl⟩, ((Below.refl _ _).alloc (Nat.le_refl _) _).alloc (by simp) _⟩
  case round =>
    obtain ⟨k, hk, rfl, hb, ⟨z, hz, hzs⟩, hB⟩ := hrel
    by_cases hlt : k < 16
    · have hkl : ((firstBits l n).take k).length = k := by simp [fb_len]; omega
      rw [fb_split l n k (by omega)] at hb
      have hc := hb.cell (1 + k)
      rw [ipc_get v _ _ _ k hkl] at hc
      have hf := hb.frozen (1 + k)
      have hset := hb.set_ (1 + k) (.int .u8 (keepB (l.getD k 0) (stay n k)))
      rw [ipc_set v _ _ _ _ k hkl, ← fb_split2 l n k (by omega)] at hset
      have Hb := Lib.hid hset
      have Hz := Lib.hid (show Blk (wr.setCell ⟨w.heap.size, 1 + k, none⟩ (.int .u8 (keepB (l.getD k 0) (stay n k)))) (w.heap.size + 1) 27 z from hz.far (by simp) _)
      have HB := Lib.hid (hB.setCell (p := ⟨w.heap.size, 1 + k, none⟩) (Nat.le_refl _) (.int .u8 (keepB (l.getD k 0) (stay n k))))
      have HZ := Lib.hid hzs
      have hx := ho.getD k
      have HK := Lib.hid (fun s hs => keepB_is (l.getD k 0) s hx.1 hx.2 hs)
      generalize hX : l.getD k 0 = x at *
      clear hset hb hB hz hzs hX hkl
      have e3 : (n - 8 * k < 0 ∧ stay n k = 0) ∨ (0 ≤ n - 8 * k ∧ n - 8 * k ≤ 8 ∧ stay n k = (n - 8 * k).toNat) ∨ (8 < n - 8 * k ∧ stay n k = 8) := by unfold stay; omega
      generalize stay n k = s at *
      have hv : (n - 8 * k < 0 ∧ bits .andNot .u8 x 255 = keepB x s) ∨ (0 ≤ n - 8 * k ∧ n - 8 * k ≤ 8 ∧ bits .andNot .u8 x (255 / 2 ^ (n - 8 * k).toNat) = keepB x s) ∨ (8 < n - 8 * k ∧ bits .andNot .u8 x 0 = keepB x s) := by
        rcases e3 with ⟨h1, rfl⟩ | ⟨h1, h2, rfl⟩ | ⟨h1, rfl⟩
        · exact .inl ⟨h1, HK.out 0 (by omega)⟩
        · exact .inr (.inl ⟨h1, h2, HK.out _ (by omega)⟩)
        · exact .inr (.inr ⟨h1, HK.out 8 (by omega)⟩)
      clear e3 HK hx
      generalize keepB x s = y at *
      rcases hv with ⟨h1, hv⟩ | ⟨h1, h2, hv⟩ | ⟨h1, hv⟩
      all_goals
        go_wp2
        go_region
        go_wp2
        exact ⟨⟨k + 1, by omega, by go_num, Hb.out, ⟨z, Hz.out, HZ.out⟩, below_drewN HB.out 1⟩, by simp [intOf]; omega⟩
    · obtain rfl : k = 16 := by omega
      rw [show (firstBits l n).take 16 ++ l.drop 16 = firstBits l n by rw [List.take_of_length_le (by rw [fb_len]; omega), List.drop_of_length_le (by omega), List.append_nil]] at hb
      have Hr := Lib.hid (show wr.rangeAt w.heap.size 0 (ipc v (firstBits l n)) from fun j u hu => by rw [hb.cell]; simpa using hu)
      have Hs := Lib.hid (ip_size v (firstBits l n) (by rw [fb_len]; exact hl))
      have Hz := Lib.hid hz
      have HZ := Lib.hid hzs
      have HB := Lib.hid hB
      clear hb hz hzs hB
      go_wp2_with (first
        | (refine wpList_load_mid rfl 27 _ rfl w.heap.size 0 rfl (ipc v (firstBits l n)) _ Hr.out Tryz.underlying27 rfl Hs.out ?_)
        | (refine wpList_store_row rfl 27 _ _ rfl (w.heap.size + 1) (ipc v (firstBits l n)).toArray rfl rfl 27 z Hz.out (by simpa using Hs.out) (by rw [HZ.out]; simp [fb_len, hl]) (by simp [Value.oneCell']) ?_))
      refine bodyPost_ret (v := .agg (ipc v (firstBits l n)).toArray) ?_ rfl ⟨rfl, HB.out.trans (below_setRow _ _ _ (by omega))⟩
      exact results_cell_row rfl _ _ (w.heap.size + 1) 27 _ (0, 0) _ rfl (Blk.setRow Hz.out _) Tryz.underlying27 rfl (by simpa using Hs.out)
theorem fb_oct (l : List Int) (n : Int) (ho : Oct l) : Oct (firstBits l n) := by
  intro x hx
  obtain ⟨i, hi, rfl⟩ := List.getElem_of_mem hx
  rw [fb_get l n i (by rwa [fb_len] at hi)]
  have hb := ho.getD i
  generalize l.getD i 0 = b at *
  have hs : stay n i ≤ 8 := by unfold stay; omega
  generalize stay n i = k at *
  unfold keepB
  have hp : (0 : Int) < 2 ^ (8 - k) := Int.pow_pos (by decide)
  have h1 := Int.mul_ediv_add_emod b (2 ^ (8 - k))
  have h2 := Int.emod_nonneg b (Int.ne_of_gt hp)
  have h3 : 0 ≤ b / 2 ^ (8 - k) := Int.ediv_nonneg hb.1 (Int.le_of_lt hp)
  rw [Int.mul_comm] at h1
  exact ⟨Int.mul_nonneg h3 (Int.le_of_lt hp), by omega⟩

abbrev pfc (v : Bool) (l : List Int) (n : Int) : List Value := Value.bool v :: (u8s l ++ [Value.int .i64 n])
def cutB (v : Bool) (l : List Int) (n : Int) : Bool := rightB v l && (decide (0 ≤ n) && decide (n ≤ bitsOf v))
def noPf : List Value := pfc false (List.replicate 16 0) 0
theorem u8s_one (l : List Int) : ∀ x ∈ u8s l, x.oneCell' = true := by
  intro x hx
  obtain ⟨y, _, rfl⟩ := List.mem_map.1 hx
  rfl
theorem pfc_one (v : Bool) (l : List Int) (n : Int) : (pfc v l n).toArray.all (·.oneCell') = true := all_oneCell_toArray (by
  intro x hx
  simp only [pfc, List.mem_cons, List.mem_append, List.mem_nil_iff, or_false] at hx
  rcases hx with rfl | hx | rfl
  · rfl
  · exact u8s_one l x hx
  · rfl)
theorem pfc_size (v : Bool) (l : List Int) (n : Int) (hl : l.length = 16) : (Tryz.prog.info? 51).map (·.size) = some (pfc v l n).toArray.size := by
  have : (Tryz.prog.info? 51).map (·.size) = some 18 := by kernel_rfl
  rw [this]; simp [hl]
theorem pf_store {ops : Array Oper} {rest : List Oper} {o : Oper} {a : Act} {w : World} {Q : Exit → Act → World → Prop} (hgd : o.guard = none) (x y : Operand) (ho : o.op = .store 51 x y) (g : Nat) (v : Bool) (l : List Int) (n : Int) (hl : l.length = 16)
    (hx : a.eval x = .pointer (some ⟨g, 0, none⟩)) (hy : a.eval y = .agg (pfc v l n).toArray) (t : TypeId) (old : Array Value) (hg : Blk w g t old) (hold : old.size = 18)
    (h : wpList Tryz.prog ops Q rest (a.put o.dst undef) (w.setRow g (pfc v l n).toArray)) : wpList Tryz.prog ops Q (o :: rest) a w :=
  wpList_store_row hgd 51 x y ho g _ hx hy t old hg (pfc_size v l n hl) (by rw [hold]; simp [hl]) (pfc_one v l n) h
theorem ip_fetch {ops : Array Oper} {rest : List Oper} {op : Oper} {a : Act} {w : World} {Q : Exit → Act → World → Prop} (hw : Region.wanted op (yielded ops a.tmps) = true) (x : Operand) (ho : op.op = .load 27 x) (b o : Nat) (v : Bool) (l : List Int) (hl : l.length = 16)
    (hx : a.eval x = .pointer (some ⟨b, o, none⟩)) (hc : w.rangeAt b o (ipc v l)) (h : wpList Tryz.prog ops Q rest (a.put op.dst (.agg (ipc v l).toArray)) w) : wpList Tryz.prog ops Q (op :: rest) a w :=
  BigFrame.wpList_want hw fun _ hK => wp_load_mid 27 x ho b o hx (ipc v l) _ hc Tryz.underlying27 rfl (ip_size v l hl) (hK _ _ h)
theorem built_pf16 (v : Bool) (b0 b1 b2 b3 b4 b5 b6 b7 b8 b9 b10 b11 b12 b13 b14 b15 n : Int) : Tryz.prog.built 51 [(0, .agg (ipc v [b0, b1, b2, b3, b4, b5, b6, b7, b8, b9, b10, b11, b12, b13, b14, b15]).toArray), (1, .int .i64 n)] = some (pfc v [b0, b1, b2, b3, b4, b5, b6, b7, b8, b9, b10, b11, b12, b13, b14, b15] n).toArray := by kernel_rfl
theorem built_pf (v : Bool) (l : List Int) (n : Int) (hl : l.length = 16) : Tryz.prog.built 51 [(0, .agg (ipc v l).toArray), (1, .int .i64 n)] = some (pfc v l n).toArray := by
  match l, hl with
  | [b0, b1, b2, b3, b4, b5, b6, b7, b8, b9, b10, b11, b12, b13, b14, b15], _ => exact built_pf16 v b0 b1 b2 b3 b4 b5 b6 b7 b8 b9 b10 b11 b12 b13 b14 b15 n
theorem pf_build {ops : Array Oper} {rest : List Oper} {o : Oper} {a : Act} {w : World} {Q : Exit → Act → World → Prop} (hg : o.guard = none) (x y : Operand) (ho : o.op = .build 51 #[(0, x), (1, y)]) (v : Bool) (l : List Int) (n : Int) (hl : l.length = 16)
    (hx : a.eval x = .agg (ipc v l).toArray) (hy : a.eval y = .int .i64 n) (h : wpList Tryz.prog ops Q rest (a.put o.dst (.agg (pfc v l n).toArray)) w) : wpList Tryz.prog ops Q (o :: rest) a w := by
  have hb := built_pf v l n hl
  have he : (#[(0, x), (1, y)].map fun (i, x) => (i, a.eval x)).toList = [(0, .agg (ipc v l).toArray), (1, .int .i64 n)] := by simp [hx, hy]
  refine wpList_build hg 51 _ ho (by rw [he, hb]; rfl) ?_
  rw [he, hb]
  exact h
def Cut (w : World) (v : Bool) (l : List Int) (n : Int) (e : Ending) (w' : World) : Prop :=
  Below w.heap.size w w' ∧ e = .returned (if cutB v l n then .tuple #[.agg (pfc v (firstBits l n) n).toArray, .int .i64 0] else .tuple #[.agg noPf.toArray, .int .i64 2])
set_option maxHeartbeats 1000000 in
set_option maxRecDepth 100000 in
theorem cut_no (w : World) (v : Bool) (l : List Int) (n : Int) (hl : l.length = 16) (ho : Oct l) (h : rightB v l = false) :
    Calls Tryz.prog 240 #[.agg (ipc v l).toArray, .int .i64 n] w (Cut w v l n) := by
  have hr := range_alloc (range_new w 27 (ipc v l)) (.cells noPf.toArray 51) (by simp)
  have Hr := Lib.hid hr
  have Hs := Lib.hid (ip_size v l hl)
  have HC := Lib.hid (show cutB v l n = false by unfold cutB; rw [h]; rfl)
  have HR := Lib.hid (right_is ((w.alloc (.cells (ipc v l).toArray 27)).alloc (.cells noPf.toArray 51)) v l hl ho)
  rw [h] at HR
  clear hr h
  go_enter Tryz.func240, Tryz.ntmps240
  go_wp2_with (refine ip_fetch rfl _ rfl w.heap.size 0 v l hl rfl Hr.out ?_)
  refine HR.out.mono ?_
  rintro e w1 ⟨rfl, hB⟩
  have HB := Lib.hid hB
  have Hz := Lib.hid ((Blk.new (w.alloc (.cells (ipc v l).toArray 27)) 51 noPf.toArray).below hB (by simp))
  rw [show (w.alloc (.cells (ipc v l).toArray 27)).heap.size = w.heap.size + 1 by simp] at Hz
  clear hB
  go_wp2_with (refine pf_store rfl _ _ rfl (w.heap.size + 1) false (List.replicate 16 0) 0 rfl rfl rfl 51 noPf.toArray Hz.out rfl ?_)
  refine bodyPost_ret (v := .tuple #[.agg noPf.toArray, .int .i64 2]) ?_ rfl ⟨?_, by rw [HC.out]; rfl⟩
  · exact results_cell_slot rfl _ _ (w.heap.size + 1) 51 _ _ _ rfl rfl (Blk.setRow Hz.out _) Tryz.underlying51 rfl (by kernel_rfl)
  · exact ((((Below.refl w.heap.size w).alloc (Nat.le_refl _) _).alloc (by simp) _).trans (HB.out.mono (by simp; omega))).trans (below_setRow _ _ _ (by omega))

set_option maxHeartbeats 1000000 in
set_option maxRecDepth 100000 in
theorem cut_low (w : World) (v : Bool) (l : List Int) (n : Int) (hl : l.length = 16) (ho : Oct l) (h : rightB v l = true) (hn : n < 0) :
    Calls Tryz.prog 240 #[.agg (ipc v l).toArray, .int .i64 n] w (Cut w v l n) := by
  have hr := range_alloc (range_new w 27 (ipc v l)) (.cells noPf.toArray 51) (by simp)
  have Hr := Lib.hid hr
  have HC := Lib.hid (show cutB v l n = false by unfold cutB; rw [decide_eq_false (show ¬ 0 ≤ n by omega), Bool.false_and, Bool.and_false])
  have HR := Lib.hid (right_is ((w.alloc (.cells (ipc v l).toArray 27)).alloc (.cells noPf.toArray 51)) v l hl ho)
  rw [h] at HR
  have hd : decide (n < 0) = true := by simpa using hn
  clear hr h
  go_enter Tryz.func240, Tryz.ntmps240
  go_wp2_with (refine ip_fetch rfl _ rfl w.heap.size 0 v l hl rfl Hr.out ?_)
  refine HR.out.mono ?_
  rintro e w1 ⟨rfl, hB⟩
  have HB := Lib.hid hB
  have Hz := Lib.hid ((Blk.new (w.alloc (.cells (ipc v l).toArray 27)) 51 noPf.toArray).below hB (by simp))
  rw [show (w.alloc (.cells (ipc v l).toArray 27)).heap.size = w.heap.size + 1 by simp] at Hz
  clear hB
  go_wp2_with (refine pf_store rfl _ _ rfl (w.heap.size + 1) false (List.replicate 16 0) 0 rfl rfl rfl 51 noPf.toArray Hz.out rfl ?_)
  refine bodyPost_ret (v := .tuple #[.agg noPf.toArray, .int .i64 2]) ?_ rfl ⟨?_, by rw [HC.out]; rfl⟩
  · exact results_cell_slot rfl _ _ (w.heap.size + 1) 51 _ _ _ rfl rfl (Blk.setRow Hz.out _) Tryz.underlying51 rfl (by kernel_rfl)
  · exact ((((Below.refl w.heap.size w).alloc (Nat.le_refl _) _).alloc (by simp) _).trans (HB.out.mono (by simp; omega))).trans (below_setRow _ _ _ (by omega))

set_option maxHeartbeats 1000000 in
set_option maxRecDepth 100000 in
theorem cut_in (w : World) (v : Bool) (l : List Int) (n : Int) (hl : l.length = 16) (ho : Oct l) (h : rightB v l = true) (hn : 0 ≤ n) :
    Calls Tryz.prog 240 #[.agg (ipc v l).toArray, .int .i64 n] w (Cut w v l n) := by
  have hr := range_alloc (range_new w 27 (ipc v l)) (.cells noPf.toArray 51) (by simp)
  have Hr := Lib.hid hr
  have HC := Lib.hid (show cutB v l n = decide (n ≤ bitsOf v) by unfold cutB; rw [h, decide_eq_true hn, Bool.true_and, Bool.true_and])
  have HR := Lib.hid (right_is ((w.alloc (.cells (ipc v l).toArray 27)).alloc (.cells noPf.toArray 51)) v l hl ho)
  rw [h] at HR
  have hd : decide (n < 0) = false := by simpa using hn
  have hb8 : bitsOf v ≤ 128 := by unfold bitsOf; split <;> omega
  clear hr h
  go_enter Tryz.func240, Tryz.ntmps240
  go_wp2_with (refine ip_fetch rfl _ rfl w.heap.size 0 v l hl rfl Hr.out ?_)
  refine HR.out.mono ?_
  rintro e w1 ⟨rfl, hB⟩
  have HB := Lib.hid hB
  have Hz := Lib.hid ((Blk.new (w.alloc (.cells (ipc v l).toArray 27)) 51 noPf.toArray).below hB (by simp))
  rw [show (w.alloc (.cells (ipc v l).toArray 27)).heap.size = w.heap.size + 1 by simp] at Hz
  have Hr1 := Lib.hid (range_below Hr.out hB (by simp; omega))
  clear hB
  go_wp2_with (refine ip_fetch rfl _ rfl w.heap.size 0 v l hl rfl Hr1.out ?_)
  refine (bits_is w1 v l).mono ?_
  rintro e w2 ⟨rfl, hB2⟩
  have HB2 := Lib.hid hB2
  have hs1 : w.heap.size + 1 < w1.heap.size := by have := HB.out.size; simp at this; omega
  have Hz2 := Lib.hid (Hz.out.below hB2 hs1)
  have Hr2 := Lib.hid (range_below Hr1.out hB2 (by omega))
  have HB02 : Hid (Below w.heap.size w w2) := Lib.hid ((((((Below.refl w.heap.size w).alloc (Nat.le_refl _) _).alloc (by simp) _).trans (HB.out.mono (by simp; omega)))).trans (HB2.out.mono (by omega)))
  have hs2 : w.heap.size + 1 < w2.heap.size := by have := HB2.out.size; omega
  clear hB2 Hr1 Hz HB HB2 Hr
  by_cases hle : n ≤ bitsOf v
  · have HL := Lib.hid hle
    have hd2 : decide (n > bitsOf v) = false := by simpa using hle
    have hd3 : decide (bitsOf v < n) = false := by simpa using hle
    go_wp2_with (refine ip_fetch rfl _ rfl w.heap.size 0 v l hl rfl Hr2.out ?_)
    refine (fbits_is w2 v l n hl ho hn (by omega)).mono ?_
    rintro e w3 ⟨rfl, hB3⟩
    have HB3 := Lib.hid hB3
    have Hz3 := Lib.hid (Hz2.out.below hB3 hs2)
    clear hB3
    go_wp2_with (first
      | (refine pf_build rfl _ _ rfl v (firstBits l n) n (by rw [fb_len]; exact hl) rfl rfl ?_)
      | (refine pf_store rfl _ _ rfl (w.heap.size + 1) v (firstBits l n) n (by rw [fb_len]; exact hl) rfl rfl 51 noPf.toArray Hz3.out rfl ?_))
    refine bodyPost_ret (v := .tuple #[.agg (pfc v (firstBits l n) n).toArray, .int .i64 0]) ?_ rfl ⟨?_, by rw [HC.out, decide_eq_true HL.out]; rfl⟩
    · exact results_cell_slot rfl _ _ (w.heap.size + 1) 51 _ _ _ rfl rfl (Blk.setRow Hz3.out _) Tryz.underlying51 rfl (pfc_size v _ n (by rw [fb_len]; exact hl))
    · exact (HB02.out.trans (HB3.out.mono (by omega))).trans (below_setRow _ _ _ (by omega))
  · have HL := Lib.hid hle
    have hd2 : decide (n > bitsOf v) = true := by simpa using hle
    have hd3 : decide (bitsOf v < n) = true := by simpa using hle
    go_wp2_with (refine pf_store rfl _ _ rfl (w.heap.size + 1) false (List.replicate 16 0) 0 rfl rfl rfl 51 noPf.toArray Hz2.out rfl ?_)
    refine bodyPost_ret (v := .tuple #[.agg noPf.toArray, .int .i64 2]) ?_ rfl ⟨?_, by rw [HC.out, decide_eq_false (Int.not_le.2 HL.out)]; rfl⟩
    · exact results_cell_slot rfl _ _ (w.heap.size + 1) 51 _ _ _ rfl rfl (Blk.setRow Hz2.out _) Tryz.underlying51 rfl (by kernel_rfl)
    · exact HB02.out.trans (below_setRow _ _ _ (by omega))

theorem cut_is (w : World) (v : Bool) (l : List Int) (n : Int) (hl : l.length = 16) (ho : Oct l) :
    Calls Tryz.prog 240 #[.agg (ipc v l).toArray, .int .i64 n] w (Cut w v l n) := by
  cases h : rightB v l
  · exact cut_no w v l n hl ho h
  · rcases Int.lt_or_le n 0 with hn | hn
    · exact cut_low w v l n hl ho h hn
    · exact cut_in w v l n hl ho h hn
end Go.Proofs.YtdgoeibfggjbmaaGreatDoor
namespace Go.Proofs.YtdgoeibfggjbmaaGreatDoor
open Go.RowKit
set_option maxRecDepth 100000
set_option linter.unusedSimpArgs false
set_option linter.unusedVariables false

abbrev I64 (n : Int) : Prop := -9223372036854775808 ≤ n ∧ n < 9223372036854775808
theorem i64_wf {n : Int} (h : I64 n) : (Lit.int .i64 n).wf = true := by
  simp [Lit.wf, IntKind.min, IntKind.max, IntKind.signed, IntKind.bits]; omega
theorem pf_lits (v : Bool) (l : List Int) (n : Int) (hl : l.length = 16) (ho : Oct l) (hn : I64 n) : Tryz.prog.keyLits 4 51 (pfc v l n) = some (.bool v :: (l.map (Lit.int .u8) ++ [.int .i64 n])) := by
  have h := ip_lits v l hl ho
  have hc1 : Tryz.prog.cellsOf 51 = 18 := by kernel_rfl
  have hc2 : Tryz.prog.cellsOf 27 = 17 := by kernel_rfl
  have hc3 : Tryz.prog.cellsOf 3 = 1 := by kernel_rfl
  unfold Program.keyLits
  rw [Tryz.underlying51]
  have hb : Tryz.prog.keyLits 3 3 [Value.int .i64 n] = some [Lit.int .i64 n] := by
    unfold Program.keyLits
    rw [Tryz.underlying3]
    simp [i64_wf hn]
  have ht : (pfc v l n).take 17 = ipc v l := by show (ipc v l ++ [Value.int .i64 n]).take 17 = _; rw [List.take_append_of_le_length (by simp [hl])]; exact List.take_of_length_le (by simp [hl])
  have hd : ((pfc v l n).drop 17).take 1 = [Value.int .i64 n] := by
    show ((ipc v l ++ [Value.int .i64 n]).drop 17).take 1 = _
    rw [show 17 = (ipc v l).length by simp [hl], List.drop_left]; rfl
  have hlen : (pfc v l n).length = 18 := by simp [hl]
  simp only [hc1, hlen, hc2, hc3, List.mapM_cons, List.mapM_nil, List.drop_zero, ht, hd, h, hb]
  simp [ht, hd, h, hb, hc2, hc3]
theorem pf_formed (v : Bool) (l : List Int) (n : Int) (hl : l.length = 16) : (Value.agg (pfc v l n).toArray).formed Tryz.prog 51 = true := by
  have hc1 : Tryz.prog.cellsOf 51 = 18 := by kernel_rfl
  simp [Value.formed, Tryz.underlying51, hc1, hl]
theorem pf_inj {v v' : Bool} {l l' : List Int} {n n' : Int} (hl : l.length = 16) (hl' : l'.length = 16) :
    (Lit.bool v :: (l.map (Lit.int .u8) ++ [Lit.int .i64 n]) = Lit.bool v' :: (l'.map (Lit.int .u8) ++ [Lit.int .i64 n'])) ↔ (v = v' ∧ l = l' ∧ n = n') := by
  constructor
  · intro h
    simp only [List.cons.injEq, Lit.bool.injEq] at h
    obtain ⟨h1, h2⟩ := List.append_inj h.2 (by simp [hl, hl'])
    simp at h2
    exact ⟨h.1, lits_inj h1, h2⟩
  · rintro ⟨rfl, rfl, rfl⟩; rfl
theorem pf_eql (v v' : Bool) (l l' : List Int) (n n' : Int) (hl : l.length = 16) (hl' : l'.length = 16) (ho : Oct l) (ho' : Oct l') (hn : I64 n) (hn' : I64 n') (b : Bool) (hb : decide (v = v' ∧ l = l' ∧ n = n') = b) (w : World) :
    (binOp .eql 51 (.agg (pfc v l n).toArray) (.agg (pfc v' l' n').toArray)).run Tryz.prog w = .ok (.bool b) w := by
  refine run_eql_key 4 4 4 (by kernel_rfl) (by omega) _ _ _ _ (pf_formed v l n hl) (pf_formed v' l' n' hl') (pf_lits v l n hl ho hn) (pf_lits v' l' n' hl' ho' hn') b ?_ w
  subst hb
  rw [decide_eq_true_eq, pf_inj hl hl']
theorem pf_fetch {ops : Array Oper} {rest : List Oper} {op : Oper} {a : Act} {w : World} {Q : Exit → Act → World → Prop} (hw : Region.wanted op (yielded ops a.tmps) = true) (x : Operand) (ho : op.op = .load 51 x) (b : Nat) (v : Bool) (l : List Int) (n : Int) (hl : l.length = 16)
    (hx : a.eval x = .pointer (some ⟨b, 0, none⟩)) (hc : w.rangeAt b 0 (pfc v l n)) (h : wpList Tryz.prog ops Q rest (a.put op.dst (.agg (pfc v l n).toArray)) w) : wpList Tryz.prog ops Q (op :: rest) a w :=
  BigFrame.wpList_want hw fun _ hK => wp_load_mid 51 x ho b 0 hx (pfc v l n) _ hc Tryz.underlying51 rfl (by simpa using pfc_size v l n hl) (hK _ _ h)

def hasB (v : Bool) (l : List Int) (n : Int) (v' : Bool) (l' : List Int) : Bool := cutB v' l' n && decide (v' = v ∧ firstBits l' n = l)

set_option maxHeartbeats 1000000 in
set_option maxRecDepth 100000 in
theorem has_is (w : World) (v : Bool) (l : List Int) (n : Int) (v' : Bool) (l' : List Int) (hl : l.length = 16) (ho : Oct l) (hl' : l'.length = 16) (ho' : Oct l') (hn : I64 n) :
    Calls Tryz.prog 233 #[.agg (pfc v l n).toArray, .agg (ipc v' l').toArray] w fun e w' => e = .returned (.bool (hasB v l n v' l')) ∧ Below w.heap.size w w' := by
  have hp := range_alloc (range_new w 51 (pfc v l n)) (.cells (ipc v' l').toArray 27) (by simp)
  have ha := range_new (w.alloc (.cells (pfc v l n).toArray 51)) 27 (ipc v' l')
  rw [show (w.alloc (.cells (pfc v l n).toArray 51)).heap.size = w.heap.size + 1 by simp] at ha
  have hc := (range_post (cs := ipc v l) (ds := [Value.int .i64 n]) hp) 0 _ rfl
  rw [show 0 + (ipc v l).length + 0 = 17 by simp [hl]] at hc
  have Hp := Lib.hid hp
  have Ha := Lib.hid ha
  clear hp ha
  go_enter Tryz.func233, Tryz.ntmps233
  go_wp2_with (refine ip_fetch rfl _ rfl (w.heap.size + 1) 0 v' l' hl' rfl Ha.out ?_)
  refine (cut_is _ v' l' n hl' ho').mono ?_
  rintro e w1 ⟨hB, he⟩
  have Hp1 := Lib.hid (range_below Hp.out hB (by simp; omega))
  have HB : Hid (Below w.heap.size w w1) := Lib.hid ((((Below.refl w.heap.size w).alloc (Nat.le_refl _) _).alloc (by simp) _).trans (hB.mono (by simp; omega)))
  have hs1 : w.heap.size < w1.heap.size := by have := hB.size; simp at this; omega
  clear hB Hp Ha hc
  cases hcut : cutB v' l' n
  · rw [hcut] at he
    subst he
    have HR := Lib.hid (show hasB v l n v' l' = false by unfold hasB; rw [hcut]; rfl)
    clear hcut
    go_wp2_with (first | (refine pf_store rfl _ _ rfl w1.heap.size false (List.replicate 16 0) 0 rfl rfl rfl 51 noPf.toArray (Blk.new w1 51 noPf.toArray) rfl ?_))
    go_ret
    exact ⟨by rw [HR.out]; rfl, (HB.out.alloc (Nat.le_of_lt hs1) _).trans (below_setRow _ _ _ (Nat.le_of_lt hs1))⟩
  · rw [hcut] at he
    subst he
    have hr0 : hasB v l n v' l' = decide (v' = v ∧ firstBits l' n = l) := by unfold hasB; rw [hcut, Bool.true_and]
    have hE : ∀ W, (binOp .eql 51 (.agg (pfc v' (firstBits l' n) n).toArray) (.agg (pfc v l n).toArray)).run Tryz.prog W = .ok (.bool (hasB v l n v' l')) W :=
      pf_eql v' v (firstBits l' n) l n n (by rw [fb_len]; exact hl') hl (fb_oct l' n ho') ho hn hn _ (by rw [hr0]; simp)
    have hfl : (firstBits l' n).length = 16 := by rw [fb_len]; exact hl'
    have HF := Lib.hid hfl
    have Hn1 : Hid (((w1.alloc (.cells noPf.toArray 51)).setRow w1.heap.size (pfc v' (firstBits l' n) n).toArray).rangeAt w1.heap.size 0 (pfc v' (firstBits l' n) n)) := Lib.hid (Blk.range (Blk.setRow (Blk.new w1 51 noPf.toArray) _))
    have Hn2 : Hid (((w1.alloc (.cells noPf.toArray 51)).setRow w1.heap.size (pfc v' (firstBits l' n) n).toArray).rangeAt w.heap.size 0 (pfc v l n)) :=
      Lib.hid (range_below (range_alloc Hp1.out _ hs1) (below_setRow _ w1.heap.size _ (Nat.le_refl _)) hs1)
    clear hcut hr0 hfl Hp1
    generalize hr : hasB v l n v' l' = r at *
    have HRR := Lib.hid hr
    clear hr
    generalize firstBits l' n = f at *
    go_wp2_with (first
      | (refine pf_store rfl _ _ rfl w1.heap.size v' f n HF.out rfl rfl 51 noPf.toArray (Blk.new w1 51 noPf.toArray) rfl ?_)
      | (refine pf_fetch rfl _ rfl w1.heap.size v' f n HF.out rfl Hn1.out ?_)
      | (refine pf_fetch rfl _ rfl w.heap.size v l n hl rfl Hn2.out ?_))
    go_ret
    exact ⟨by rw [HRR.out]; rfl, (HB.out.alloc (Nat.le_of_lt hs1) _).trans (below_setRow _ _ _ (Nat.le_of_lt hs1))⟩

def rightPfB (v : Bool) (l : List Int) (n : Int) : Bool := hasB v l n v l
set_option maxHeartbeats 1000000 in
set_option maxRecDepth 100000 in
theorem rpf_is (w : World) (v : Bool) (l : List Int) (n : Int) (hl : l.length = 16) (ho : Oct l) (hn : I64 n) :
    Calls Tryz.prog 219 #[.agg (pfc v l n).toArray] w fun e w' => e = .returned (.bool (rightPfB v l n)) ∧ Below w.heap.size w w' := by
  have hp := range_new w 51 (pfc v l n)
  have Hp := Lib.hid hp
  have Ha := Lib.hid (range_pre (cs := ipc v l) (ds := [Value.int .i64 n]) hp)
  clear hp
  go_enter Tryz.func219, Tryz.ntmps219
  go_wp2_with (first
    | (refine pf_fetch rfl _ rfl w.heap.size v l n hl rfl Hp.out ?_)
    | (refine ip_fetch rfl _ rfl w.heap.size 0 v l hl rfl Ha.out ?_))
  refine (has_is _ v l n v l hl ho hl ho hn).mono ?_
  rintro e w1 ⟨rfl, hB⟩
  have HB := Lib.hid hB
  clear hB
  go_wp2
  go_ret
  exact ⟨rfl, ((Below.refl w.heap.size w).alloc (Nat.le_refl _) _).trans (HB.out.mono (by simp))⟩
end Go.Proofs.YtdgoeibfggjbmaaGreatDoor
