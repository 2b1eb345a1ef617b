/-
  Put together: ComA ComB ComC ComD ComE ComF.
-/
import Derived.Test.YtkaimdcepnhkdaaDoorProg
import Derived.Test.YtkaimdcepnhkdaaDoorMA
import Derived.Outline
import Derived.BigFrame
import Derived.BigQuiet
import Derived.WalkLawsBesides
import Derived.Deep.RegionHeld3
import Derived.Laws.CopyRow
namespace Go.Proofs.YtkaimdcepnhkdaaDoor
open Go.RowKit
set_option linter.unusedSimpArgs false
set_option linter.unusedVariables false

theorem numOf_or32 (N x : Int) (h0 : 0 ≤ N) (h1 : N < 16777216) (hx0 : 0 ≤ x) (hx1 : x < 256) :
    bits .or .u32 (IntKind.u32.wrap (N * 256)) (IntKind.u32.wrap x) = N * 256 + x := by
  rw [IntKind.wrap_u32, IntKind.wrap_u32, Int.emod_eq_of_lt (by omega) (by omega), Int.emod_eq_of_lt (by omega) (by omega), u32_or _ _ (by omega) (by omega) (by omega) (by omega)]
  obtain ⟨n, rfl⟩ := Int.eq_ofNat_of_zero_le h0
  obtain ⟨y, rfl⟩ := Int.eq_ofNat_of_zero_le hx0
  have hy : y < 2 ^ 8 := by omega
  have e : ((n : Int) * 256).toNat = 2 ^ 8 * n := by omega
  rw [e, Int.toNat_natCast, ← Nat.two_pow_add_eq_or_of_lt hy]
  omega
theorem pow256_3 : ∀ m, m < 4 → (256 : Int) ^ m ≤ 16777216 := by decide
theorem numOf_step32 (xs : List Int) (m : Nat) (hm : m < xs.length) (h4 : xs.length ≤ 4) (ho : Oct xs) :
    bits .or .u32 (IntKind.u32.wrap (numOf (xs.take m) * 256)) (IntKind.u32.wrap xs[m]) = numOf (xs.take (m + 1)) := by
  have hb := numOf_bd_take xs ho m (by omega)
  have hx := ho xs[m] (List.getElem_mem hm)
  have hp := pow256_3 m (by omega)
  rw [numOf_or32 _ _ hb.1 (by omega) hx.1 hx.2, List.take_succ_eq_append_getElem hm, numOf_snoc]
theorem numOf_step32' (xs : List Int) (m : Nat) (hm : m < xs.length) (h4 : xs.length ≤ 4) (ho : Oct xs) :
    bits .or .u32 (numOf (xs.take m) * 256 % 4294967296) (xs[m] % 4294967296) = numOf (xs.take (m + 1)) := by
  have := numOf_step32 xs m hm h4 ho
  rwa [IntKind.wrap_u32, IntKind.wrap_u32] at this

set_option maxHeartbeats 400000 in
theorem cnum_is (w : World) (B : Nat) (A : Option Addr) (n c : Nat) (l : List Int) (hr : Rd w B A n l) (h4 : n ≤ 4) :
    Calls Tryd.prog 96 #[.slice A n c] w fun e w' => e = .returned (.int .u32 (numOf l)) ∧ w = w' := by
  have H := Lib.hid hr
  obtain rfl := hr.len
  have HO := Lib.hid hr.oct
  clear hr
  go_enter Tryd.func96, Tryd.ntmps96
  go_wp2
  go_loop [3, 5, 8] (fun s _ i => ∃ m : Nat, m ≤ l.length ∧ i = .int .i64 m ∧ s = .int .u32 (numOf (l.take m))) (fun _ _ i => l.length - (intOf i).toNat)
  case atStart => exact ⟨0, Nat.zero_le _, rfl, rfl⟩
  case round =>
    obtain ⟨m, hm, rfl, rfl⟩ := hrel
    by_cases hlt : m < l.length
    · obtain ⟨b, off, rfl, hb, hcell⟩ := H.out.at_ (by omega)
      have hcm := hcell m hlt
      have HS := Lib.hid (numOf_step32' l m hlt h4 HO.out)
      clear hcell
      go_wp2
      refine ⟨⟨m + 1, by omega, by go_num, by rw [HS.out]⟩, by simp [intOf]; omega⟩
    · obtain rfl : m = l.length := by omega
      rw [List.take_length]
      go_wp2
      go_ret
      exact ⟨rfl, rfl⟩

/-- The lowest k bytes of n, the highest of them first. -/
def be : Nat → Int → List Int
  | 0, _ => []
  | k + 1, n => (n / 256 ^ k % 256) :: be k n
theorem be_len : ∀ k n, (be k n).length = k
  | 0, _ => rfl
  | k + 1, n => by simp [be, be_len k n]
theorem be_oct : ∀ k n, Oct (be k n)
  | 0, _ => by intro x h; cases h
  | k + 1, n => by
    intro x h
    rcases List.mem_cons.1 h with rfl | h
    · omega
    · exact be_oct k n x h
theorem cell_at8 (xs ys : List Int) (y : Int) (k : Nat) (hk : xs.length = k) : (u8s (xs ++ y :: ys)).toArray[k]? = some (.int .u8 y) := by
  subst hk; simp
theorem cell_set8 (xs ys : List Int) (y z : Int) (k : Nat) (hk : xs.length = k) : (u8s (xs ++ y :: ys)).toArray.setIfInBounds k (.int .u8 z) = (u8s (xs ++ z :: ys)).toArray := by
  subst hk; simp [List.set_append]
/-- l with the lowest j of m bytes of n laid at k. -/
def laid8 (l : List Int) (k m : Nat) (n : Int) (j : Nat) : List Int := l.take (k + (m - j)) ++ (be j n ++ l.drop (k + m))
theorem laid8_zero (l : List Int) (k m : Nat) (n : Int) (h : k + m ≤ l.length) : laid8 l k m n 0 = l := by simp [laid8, be]
theorem laid8_before (l : List Int) (k m : Nat) (n : Int) (j : Nat) (h : k + m ≤ l.length) (hj : j < m) : laid8 l k m n j = l.take (k + (m - 1 - j)) ++ l.getD (k + (m - 1 - j)) 0 :: (be j n ++ l.drop (k + m)) := by
  unfold laid8
  rw [show k + (m - j) = (k + (m - 1 - j)) + 1 by omega, List.take_succ_eq_append_getElem (show k + (m - 1 - j) < l.length by omega), List.append_assoc, List.getD_eq_getElem?_getD, List.getElem?_eq_getElem (show k + (m - 1 - j) < l.length by omega)]
  rfl
theorem laid8_behind (l : List Int) (k m : Nat) (n : Int) (j : Nat) (hj : j < m) : l.take (k + (m - 1 - j)) ++ (n / 256 ^ j % 256) :: (be j n ++ l.drop (k + m)) = laid8 l k m n (j + 1) := by
  unfold laid8
  rw [show k + (m - (j + 1)) = k + (m - 1 - j) by omega]
  rfl
def put8 (l : List Int) (k m : Nat) (n : Int) : List Int := l.take k ++ (be m n ++ l.drop (k + m))
theorem laid8_all (l : List Int) (k m : Nat) (n : Int) : laid8 l k m n m = put8 l k m n := by simp [laid8, put8]
theorem put8_len (l : List Int) (k m : Nat) (n : Int) (h : k + m ≤ l.length) : (put8 l k m n).length = l.length := by simp [put8, be_len]; omega
theorem put8_oct (l : List Int) (k m : Nat) (n : Int) (h : Oct l) : Oct (put8 l k m n) := by
  intro x hx
  rcases List.mem_append.1 hx with hx | hx
  · exact h x (List.mem_of_mem_take hx)
  · rcases List.mem_append.1 hx with hx | hx
    · exact be_oct _ _ x hx
    · exact h x (List.mem_of_mem_drop hx)
theorem div_pow (n : Int) (j : Nat) : n / 256 ^ j / 256 = n / 256 ^ (j + 1) := by
  rw [Int.pow_succ, Int.ediv_ediv_of_nonneg (Int.le_of_lt (Int.pow_pos (by decide)))]
theorem divp_bd (n : Int) (j : Nat) (h0 : 0 ≤ n) (h1 : n < 4294967296) : 0 ≤ n / 256 ^ j ∧ n / 256 ^ j < 4294967296 := by
  have hp : (0 : Int) < 256 ^ j := Int.pow_pos (by decide)
  exact ⟨Int.ediv_nonneg h0 (Int.le_of_lt hp), Int.lt_of_le_of_lt (Int.ediv_le_self _ h0) h1⟩

set_option maxHeartbeats 1000000 in
set_option maxRecDepth 100000 in
theorem pn_is (w : World) (g : Nat) (t : TypeId) (l : List Int) (k m c : Nat) (n : Int) (hb : Blk w g t (u8s l).toArray) (hk : k + m ≤ l.length) (hm : m ≤ 4) (h0 : 0 ≤ n) (h1 : n < 4294967296) :
    Calls Tryd.prog 89 #[.slice (some ⟨g, k, none⟩) m c, .int .u32 n] w fun e w' => e = .returned (.tuple #[]) ∧ Blk w' g t (u8s (put8 l k m n)).toArray ∧ w.grownBy w' (some g) := by
  have HB := Lib.hid hb
  clear hb
  go_enter Tryd.func89, Tryd.ntmps89
  go_wp2
  go_loopw [1, 4, 7] (fun s _ i wr => ∃ j : Nat, j ≤ m ∧ i = .int .i64 j ∧ s = .int .u32 (n / 256 ^ j) ∧ Blk wr g t (u8s (laid8 l k m n j)).toArray ∧ w.grownBy wr (some g)) (fun _ _ i _ => m - (intOf i).toNat)
  case atStart => exact ⟨0, by omega, rfl, by simp, by rw [laid8_zero l k m n hk]; exact HB.out, only_refl _ _⟩
  case round =>
    obtain ⟨j, hj, rfl, rfl, hb, hg⟩ := hrel
    have HG := Lib.hid hg
    clear hg HB
    by_cases hlt : j < m
    · rw [laid8_before l k m n j hk hlt] at hb
      have hlen : (l.take (k + (m - 1 - j))).length = k + (m - 1 - j) := by simp; omega
      have hc := hb.cell (k + (m - 1 - j))
      rw [cell_at8 _ _ _ _ hlen] at hc
      have hf := hb.frozen (k + (m - 1 - j))
      have hset := hb.set_ (k + (m - 1 - j)) (.int .u8 (n / 256 ^ j % 256))
      rw [cell_set8 _ _ _ _ _ hlen, laid8_behind l k m n j hlt] at hset
      have HS := Lib.hid hset
      have HG2 := Lib.hid (only_setCell HG.out (p := ⟨g, k + (m - 1 - j), none⟩) (.inl rfl) (.int .u8 (n / 256 ^ j % 256)))
      have HD := Lib.hid (div_pow n j)
      have hbd := divp_bd n j h0 h1
      clear hb hset hlen
      obtain ⟨n2, hn2⟩ : ∃ n2, n2 = n / 256 ^ (j + 1) := ⟨_, rfl⟩
      rw [← hn2] at HD
      have HN2 := Lib.hid hn2
      clear hn2
      generalize n / 256 ^ j = n1 at *
      go_wp2
      exact ⟨⟨j + 1, by omega, by go_num, by rw [HD.out, HN2.out], HS.out, HG2.out⟩, by simp [intOf]; omega⟩
    · obtain rfl : j = m := by omega
      rw [laid8_all] at hb
      have HBe := Lib.hid hb
      clear hb
      go_wp2
      go_end0
      exact ⟨rfl, HBe.out, HG.out⟩
end Go.Proofs.YtkaimdcepnhkdaaDoor
namespace Go.Proofs.YtkaimdcepnhkdaaDoor
open Go.RowKit
set_option linter.unusedSimpArgs false
set_option linter.unusedVariables false

theorem u8s_one1 (l : List Int) : ∀ x ∈ u8s l, x.oneCell' = true := by
  intro x hx
  obtain ⟨y, _, rfl⟩ := List.mem_map.1 hx
  rfl
theorem comm_size (l : List Int) (hl : l.length = 8) : (Tryd.prog.info? 52).map (·.size) = some (u8s l).toArray.size := by
  have : (Tryd.prog.info? 52).map (·.size) = some 8 := by kernel_rfl
  rw [this]; simp [hl]
theorem comm_fetch {ops : Array Oper} {rest : List Oper} {op : Oper} {a : Act} {w : World} {Q : Exit → Act → World → Prop} (hw : Region.wanted op (yielded ops a.tmps) = true) (x : Operand) (ho : op.op = .load 52 x) (b : Nat) (o : Nat) (l : List Int) (hl : l.length = 8)
    (hx : a.eval x = .pointer (some ⟨b, o, none⟩)) (hc : w.rangeAt b o (u8s l)) (h : wpList Tryd.prog ops Q rest (a.put op.dst (.agg (u8s l).toArray)) w) : wpList Tryd.prog ops Q (op :: rest) a w :=
  BigFrame.wpList_want hw fun _ hK => wp_load_mid 52 x ho b o hx (u8s l) _ hc Tryd.underlying52 rfl (by simpa using comm_size l hl) (hK _ _ h)
theorem comm_store {ops : Array Oper} {rest : List Oper} {o : Oper} {a : Act} {w : World} {Q : Exit → Act → World → Prop} (hgd : o.guard = none) (x y : Operand) (ho : o.op = .store 52 x y) (g : Nat) (l : List Int) (hl : l.length = 8)
    (hx : a.eval x = .pointer (some ⟨g, 0, none⟩)) (hy : a.eval y = .agg (u8s l).toArray) (t : TypeId) (old : Array Value) (hg : Blk w g t old) (hold : old.size = 8)
    (h : wpList Tryd.prog ops Q rest (a.put o.dst undef) (w.setRow g (u8s l).toArray)) : wpList Tryd.prog ops Q (o :: rest) a w :=
  wpList_store_row hgd 52 x y ho g _ hx hy t old hg (comm_size l hl) (by rw [hold]; simp [hl]) (all_oneCell_toArray (u8s_one1 l)) h
theorem mac6_size (l : List Int) (hl : l.length = 6) : (Tryd.prog.info? 49).map (·.size) = some (u8s l).toArray.size := by
  have : (Tryd.prog.info? 49).map (·.size) = some 6 := by kernel_rfl
  rw [this]; simp [hl]
theorem mac6_fetch {ops : Array Oper} {rest : List Oper} {op : Oper} {a : Act} {w : World} {Q : Exit → Act → World → Prop} (hw : Region.wanted op (yielded ops a.tmps) = true) (x : Operand) (ho : op.op = .load 49 x) (b o : Nat) (l : List Int) (hl : l.length = 6)
    (hx : a.eval x = .pointer (some ⟨b, o, none⟩)) (hc : w.rangeAt b o (u8s l)) (h : wpList Tryd.prog ops Q rest (a.put op.dst (.agg (u8s l).toArray)) w) : wpList Tryd.prog ops Q (op :: rest) a w :=
  BigFrame.wpList_want hw fun _ hK => wp_load_mid 49 x ho b o hx (u8s l) _ hc Tryd.underlying49 rfl (by simpa using mac6_size l hl) (hK _ _ h)
abbrev zc8 : Array Value := #[Value.int .u8 0, Value.int .u8 0, Value.int .u8 0, Value.int .u8 0, Value.int .u8 0, Value.int .u8 0, Value.int .u8 0, Value.int .u8 0]
def z8 : List Int := [0, 0, 0, 0, 0, 0, 0, 0]
/-- The end of a function that answers a community. -/
theorem comm_res {fn : Func} {p : Tmp} (h : fn.results = #[.cell p 52]) (tmps : Array Value) (w : World) (g : Nat) (t : TypeId) (l : List Int) (hl : l.length = 8)
    (hp : tmps.getD p undef = .pointer (some ⟨g, 0, none⟩)) (hg : Blk w g t (u8s l).toArray) : (results fn tmps).run Tryd.prog w = .ok (.agg (u8s l).toArray) w :=
  results_cell_row h tmps w g t _ (0, 0) _ hp hg Tryd.underlying52 rfl (comm_size l hl)
theorem size_a2 (w : World) (o o' : Obj) : ((w.alloc o).alloc o').heap.size = w.heap.size + 2 := by simp
theorem size_a1 (w : World) (o : Obj) : (w.alloc o).heap.size = w.heap.size + 1 := by simp
set_option maxHeartbeats 1000000 in
set_option maxRecDepth 100000 in
theorem beg_is (w : World) (h : Int) (h0 : 0 ≤ h) (h1 : h < 4294967296) :
    Calls Tryd.prog 87 #[.int .u32 h] w fun e w' => e = .returned (.agg (u8s (put8 z8 0 2 h)).toArray) ∧ Below w.heap.size w w' := by
  have HR := Lib.hid ((Blk.new w 52 zc8).alloc (.cells zc8 52))
  have hM := Blk.new (w.alloc (.cells zc8 52)) 52 zc8
  rw [size_a1] at hM
  have HM : Hid (Blk ((w.alloc (.cells zc8 52)).alloc (.cells zc8 52)) (w.heap.size + 1) 52 (u8s z8).toArray) := Lib.hid hM
  have HL : Hid (Below w.heap.size w ((w.alloc (.cells zc8 52)).alloc (.cells zc8 52))) := Lib.hid (((Below.refl w.heap.size w).alloc (Nat.le_refl _) _).alloc (by simp) _)
  clear hM
  go_enter Tryd.func87, Tryd.ntmps87
  go_wp2_with fail
  refine (pn_is _ (w.heap.size + 1) 52 z8 0 2 8 h HM.out (by decide) (by decide) h0 h1).mono ?_
  rintro e w1 ⟨rfl, hb, hg⟩
  have HB := Lib.hid hb
  have HR1 := Lib.hid (HR.out.grown hg (by simp))
  have HL1 := Lib.hid (below_only HL.out hg HL.out.size (fun g e => by cases e; omega))
  clear hb hg HR HM HL
  go_wp2_with (first
    | (refine comm_fetch rfl _ rfl (w.heap.size + 1) 0 (put8 z8 0 2 h) (put8_len _ _ _ _ (by decide)) rfl HB.out.range ?_)
    | (refine comm_store rfl _ _ rfl w.heap.size (put8 z8 0 2 h) (put8_len _ _ _ _ (by decide)) rfl rfl 52 zc8 HR1.out rfl ?_))
  exact bodyPost_ret (comm_res rfl _ _ w.heap.size 52 (put8 z8 0 2 h) (put8_len _ _ _ _ (by decide)) rfl (Blk.setRow HR1.out _)) rfl ⟨rfl, HL1.out.trans (below_setRow _ _ _ (Nat.le_refl _))⟩
def fl (b : Bool) : Int := if b then 1 else 0
set_option maxHeartbeats 1000000 in
set_option maxRecDepth 100000 in
theorem sf_is (w : World) (g : Nat) (t : TypeId) (a b : Int) (r : List Int) (on : Bool) (hb : Blk w g t (u8s (a :: b :: 0 :: r)).toArray) :
    Calls Tryd.prog 88 #[.pointer (some ⟨g, 0, none⟩), .bool on] w fun e w' => e = .returned (.tuple #[]) ∧ Blk w' g t (u8s (a :: b :: fl on :: r)).toArray ∧ w.grownBy w' (some g) := by
  have hc : w.cell? ⟨g, 2, none⟩ = some (.int .u8 0) := by rw [hb.cell]; rfl
  have hf := hb.frozen 2
  have HB := Lib.hid hb
  have HS : Hid (Blk (w.setCell ⟨g, 2, none⟩ (.int .u8 1)) g t (u8s (a :: b :: 1 :: r)).toArray) := Lib.hid (hb.set_ 2 (.int .u8 1))
  have HG := Lib.hid (only_setCell (only_refl w (some g)) (p := ⟨g, 2, none⟩) (.inl rfl) (.int .u8 1))
  have h01 : bits .or .u8 0 1 = 1 := by decide
  clear hb
  cases on
  · go_enter Tryd.func88, Tryd.ntmps88
    go_wp2
    go_end0
    exact ⟨rfl, HB.out, only_refl _ _⟩
  · go_enter Tryd.func88, Tryd.ntmps88
    go_wp2
    go_region
    go_wp2
    go_end0
    exact ⟨rfl, HS.out, only_drewN HG.out 1⟩
end Go.Proofs.YtkaimdcepnhkdaaDoor
namespace Go.Proofs.YtkaimdcepnhkdaaDoor
open Go.RowKit
set_option linter.unusedSimpArgs false
set_option linter.unusedVariables false

/-- A function's own variable c (block g + 1, behind its result's block g), filled by the answer of begin. -/
structure Two (w0 w : World) (g : Nat) (l : List Int) : Prop where
  res : Blk w g 52 zc8
  var : Blk w (g + 1) 52 (u8s l).toArray
  low : Below g w0 w
  len : l.length = 8
theorem Two.grown {w0 w w' : World} {g : Nat} {l l' : List Int} (h : Two w0 w g l) (hb : Blk w' (g + 1) 52 (u8s l').toArray) (hg : w.grownBy w' (some (g + 1))) (hl : l'.length = 8) : Two w0 w' g l' := by
  have h1 := h.res.lt
  exact ⟨h.res.grown hg (by simp), hb, below_only h.low hg (by omega) (fun i e => by cases e; omega), hl⟩
theorem two_new (w w1 : World) (l : List Int) (hl : l.length = 8) (hB : Below (w.alloc (.cells zc8 52)).heap.size (w.alloc (.cells zc8 52)) w1) (hs : w1.heap.size = w.heap.size + 1 → True) (g1 : Nat) (hg1 : g1 = w1.heap.size) :
    Blk ((w1.alloc (.cells zc8 52)).setRow g1 (u8s l).toArray) g1 52 (u8s l).toArray ∧ Blk ((w1.alloc (.cells zc8 52)).setRow g1 (u8s l).toArray) w.heap.size 52 zc8 ∧ Below w.heap.size w ((w1.alloc (.cells zc8 52)).setRow g1 (u8s l).toArray) ∧ w.heap.size < g1 := by
  subst hg1
  rw [size_a1] at hB
  have hz := hB.size
  rw [size_a1] at hz
  refine ⟨Blk.setRow (Blk.new w1 52 zc8) _, ?_, ?_, by omega⟩
  · exact (((Blk.new w 52 zc8).below hB (by omega)).alloc _).below (below_setRow _ w1.heap.size _ (Nat.le_refl _)) (by omega)
  · exact (((Below.refl w.heap.size w).alloc (Nat.le_refl _) _).trans (hB.mono (by omega))).alloc (by omega) _ |>.trans (below_setRow _ _ _ (by omega))
/-- The variable g1 beside the result's block w0.heap.size. -/
structure Var (w0 w : World) (g1 : Nat) (l : List Int) : Prop where
  res : Blk w w0.heap.size 52 zc8
  var : Blk w g1 52 (u8s l).toArray
  low : Below w0.heap.size w0 w
  lt : w0.heap.size < g1
  len : l.length = 8
theorem Var.grown {w0 w w' : World} {g : Nat} {l l' : List Int} (h : Var w0 w g l) (hb : Blk w' g 52 (u8s l').toArray) (hg : w.grownBy w' (some g)) (hl : l'.length = 8) : Var w0 w' g l' := by
  have h1 := h.res.lt
  have h2 := h.lt
  exact ⟨h.res.grown hg (by simp; omega), hb, below_only h.low hg (by omega) (fun i e => by cases e; omega), h2, hl⟩
theorem var_new (w w1 : World) (l : List Int) (hl : l.length = 8) (hB : Below (w.alloc (.cells zc8 52)).heap.size (w.alloc (.cells zc8 52)) w1) : Var w ((w1.alloc (.cells zc8 52)).setRow w1.heap.size (u8s l).toArray) w1.heap.size l := by
  obtain ⟨a, b, c, d⟩ := two_new w w1 l hl hB (fun _ => trivial) _ rfl
  exact ⟨b, a, c, d, hl⟩
def tgtL (h : Int) (e : Nat) (as_ n : Int) : List Int := put8 (put8 (put8 z8 0 2 h) 2 (e - 2) as_) e (8 - e) n
theorem p0_len (h : Int) : (put8 z8 0 2 h).length = 8 := put8_len _ _ _ _ (by decide)
theorem p1_len (h : Int) (e : Nat) (a : Int) (he : 2 ≤ e ∧ e ≤ 8) : (put8 (put8 z8 0 2 h) 2 (e - 2) a).length = 8 := by rw [put8_len _ _ _ _ (by rw [p0_len]; omega), p0_len]
theorem tgtL_len (h : Int) (e : Nat) (a n : Int) (he : 2 ≤ e ∧ e ≤ 8) : (tgtL h e a n).length = 8 := by unfold tgtL; rw [put8_len _ _ _ _ (by rw [p1_len h e a he]; omega), p1_len h e a he]
set_option maxHeartbeats 2000000 in
set_option maxRecDepth 100000 in
theorem mkt_is (w : World) (h : Int) (e : Nat) (a n : Int) (he : e = 4 ∨ e = 6) (h0 : 0 ≤ h) (h1 : h < 4294967296) (a0 : 0 ≤ a) (a1 : a < 4294967296) (n0 : 0 ≤ n) (n1 : n < 4294967296) :
    Calls Tryd.prog 85 #[.int .u32 h, .int .i64 e, .int .u32 a, .int .u32 n] w fun x w' => x = .returned (.agg (u8s (tgtL h e a n)).toArray) ∧ Below w.heap.size w w' := by
  rcases he with rfl | rfl
  · go_enter Tryd.func85, Tryd.ntmps85
    go_wp2_with fail
    refine (beg_is _ h h0 h1).mono ?_
    rintro x w1 ⟨rfl, hB⟩
    have HV := Lib.hid (var_new w w1 _ (p0_len h) hB)
    have HN := Lib.hid (Blk.new w1 52 zc8)
    clear hB
    go_wp2_with (refine comm_store rfl _ _ rfl w1.heap.size (put8 z8 0 2 h) (p0_len h) rfl rfl 52 zc8 HN.out rfl ?_)
    refine (pn_is _ w1.heap.size 52 _ 2 2 6 a HV.out.var (by rw [p0_len]; omega) (by omega) a0 a1).mono ?_
    rintro x w2 ⟨rfl, hb, hg⟩
    have HV2 := Lib.hid (HV.out.grown hb hg (p1_len h 4 a (by omega)))
    clear hb hg HV HN
    go_wp2_with fail
    refine (pn_is _ w1.heap.size 52 _ 4 4 4 n HV2.out.var (by rw [p1_len h 4 a (by omega)]; omega) (by omega) n0 n1).mono ?_
    rintro x w3 ⟨rfl, hb, hg⟩
    have HV3 := Lib.hid (HV2.out.grown hb hg (tgtL_len h 4 a n (by omega)))
    clear hb hg HV2
    go_wp2_with (first
      | (refine comm_fetch rfl _ rfl w1.heap.size 0 (tgtL h 4 a n) (tgtL_len h 4 a n (by omega)) rfl HV3.out.var.range ?_)
      | (refine comm_store rfl _ _ rfl w.heap.size (tgtL h 4 a n) (tgtL_len h 4 a n (by omega)) rfl rfl 52 zc8 HV3.out.res rfl ?_))
    exact bodyPost_ret (comm_res rfl _ _ w.heap.size 52 (tgtL h 4 a n) (tgtL_len h 4 a n (by omega)) rfl (Blk.setRow HV3.out.res _)) rfl ⟨rfl, HV3.out.low.trans (below_setRow _ _ _ (Nat.le_refl _))⟩
  · go_enter Tryd.func85, Tryd.ntmps85
    go_wp2_with fail
    refine (beg_is _ h h0 h1).mono ?_
    rintro x w1 ⟨rfl, hB⟩
    have HV := Lib.hid (var_new w w1 _ (p0_len h) hB)
    have HN := Lib.hid (Blk.new w1 52 zc8)
    clear hB
    go_wp2_with (refine comm_store rfl _ _ rfl w1.heap.size (put8 z8 0 2 h) (p0_len h) rfl rfl 52 zc8 HN.out rfl ?_)
    refine (pn_is _ w1.heap.size 52 _ 2 4 6 a HV.out.var (by rw [p0_len]; omega) (by omega) a0 a1).mono ?_
    rintro x w2 ⟨rfl, hb, hg⟩
    have HV2 := Lib.hid (HV.out.grown hb hg (p1_len h 6 a (by omega)))
    clear hb hg HV HN
    go_wp2_with fail
    refine (pn_is _ w1.heap.size 52 _ 6 2 2 n HV2.out.var (by rw [p1_len h 6 a (by omega)]; omega) (by omega) n0 n1).mono ?_
    rintro x w3 ⟨rfl, hb, hg⟩
    have HV3 := Lib.hid (HV2.out.grown hb hg (tgtL_len h 6 a n (by omega)))
    clear hb hg HV2
    go_wp2_with (first
      | (refine comm_fetch rfl _ rfl w1.heap.size 0 (tgtL h 6 a n) (tgtL_len h 6 a n (by omega)) rfl HV3.out.var.range ?_)
      | (refine comm_store rfl _ _ rfl w.heap.size (tgtL h 6 a n) (tgtL_len h 6 a n (by omega)) rfl rfl 52 zc8 HV3.out.res rfl ?_))
    exact bodyPost_ret (comm_res rfl _ _ w.heap.size 52 (tgtL h 6 a n) (tgtL_len h 6 a n (by omega)) rfl (Blk.setRow HV3.out.res _)) rfl ⟨rfl, HV3.out.low.trans (below_setRow _ _ _ (Nat.le_refl _))⟩
/-- The target of a and n. -/
def tgt (a n : Int) : List Int := if a ≤ 65535 then [0, 2] ++ be 2 a ++ be 4 n else [2, 2] ++ be 4 a ++ be 2 n
theorem tgtL_4 (a n : Int) (h : a ≤ 65535) : tgtL 2 4 a n = tgt a n := by unfold tgt; rw [if_pos h]; rfl
theorem tgtL_6 (a n : Int) (h : ¬ a ≤ 65535) : tgtL 514 6 a n = tgt a n := by unfold tgt; rw [if_neg h]; rfl
theorem tgt_len (a n : Int) : (tgt a n).length = 8 := by unfold tgt; split <;> simp [be_len]
def commE (o : Option (List Int)) : Value := match o with
  | some l => .tuple #[.agg (u8s l).toArray, .int .i64 0]
  | none => .tuple #[.agg (u8s z8).toArray, .int .i64 2]
def mtO (a n : Int) : Option (List Int) := if a ≤ 65535 then some (tgt a n) else if n ≤ 65535 then some (tgt a n) else none
theorem z8_len : z8.length = 8 := rfl
set_option maxHeartbeats 2000000 in
set_option maxRecDepth 100000 in
theorem mt_is (w : World) (a n : Int) (a0 : 0 ≤ a) (a1 : a < 4294967296) (n0 : 0 ≤ n) (n1 : n < 4294967296) :
    Calls Tryd.prog 36 #[.int .u32 a, .int .u32 n] w fun x w' => x = .returned (commE (mtO a n)) ∧ Below w.heap.size w w' := by
  have HR := Lib.hid (Blk.new w 52 zc8)
  have HL := Lib.hid ((Below.refl w.heap.size w).alloc (Nat.le_refl _) (.cells zc8 52))
  by_cases ha : a ≤ 65535
  · have HO : Hid (mtO a n = some (tgt a n)) := Lib.hid (by unfold mtO; rw [if_pos ha])
    have HT := Lib.hid (tgtL_4 a n ha)
    go_enter Tryd.func36, Tryd.ntmps36
    go_wp2_with fail
    refine (mkt_is _ 2 4 a n (.inl rfl) (by decide) (by decide) a0 a1 n0 n1).mono ?_
    rintro x w1 ⟨rfl, hB⟩
    rw [HT.out]
    rw [size_a1] at hB
    have HR1 := Lib.hid (HR.out.below hB (by omega))
    have HL1 := Lib.hid (HL.out.trans (hB.mono (by omega)))
    clear hB HR HL HT
    go_wp2_with (refine comm_store rfl _ _ rfl w.heap.size (tgt a n) (tgt_len a n) rfl rfl 52 zc8 HR1.out rfl ?_)
    refine bodyPost_ret (v := commE (some (tgt a n))) ?_ rfl ⟨by rw [HO.out], HL1.out.trans (below_setRow _ _ _ (Nat.le_refl _))⟩
    exact results_cell_slot rfl _ _ w.heap.size 52 _ _ _ rfl rfl (Blk.setRow HR1.out _) Tryd.underlying52 rfl (comm_size _ (tgt_len a n))
  · by_cases hn : n ≤ 65535
    · have HO : Hid (mtO a n = some (tgt a n)) := Lib.hid (by unfold mtO; rw [if_neg ha, if_pos hn])
      have HT := Lib.hid (tgtL_6 a n ha)
      go_enter Tryd.func36, Tryd.ntmps36
      go_wp2_with fail
      refine (mkt_is _ 514 6 a n (.inr rfl) (by decide) (by decide) a0 a1 n0 n1).mono ?_
      rintro x w1 ⟨rfl, hB⟩
      rw [HT.out]
      rw [size_a1] at hB
      have HR1 := Lib.hid (HR.out.below hB (by omega))
      have HL1 := Lib.hid (HL.out.trans (hB.mono (by omega)))
      clear hB HR HL HT
      go_wp2_with (refine comm_store rfl _ _ rfl w.heap.size (tgt a n) (tgt_len a n) rfl rfl 52 zc8 HR1.out rfl ?_)
      refine bodyPost_ret (v := commE (some (tgt a n))) ?_ rfl ⟨by rw [HO.out], HL1.out.trans (below_setRow _ _ _ (Nat.le_refl _))⟩
      exact results_cell_slot rfl _ _ w.heap.size 52 _ _ _ rfl rfl (Blk.setRow HR1.out _) Tryd.underlying52 rfl (comm_size _ (tgt_len a n))
    · have HO : Hid (mtO a n = none) := Lib.hid (by unfold mtO; rw [if_neg ha, if_neg hn])
      go_enter Tryd.func36, Tryd.ntmps36
      go_wp2_with (refine comm_store rfl _ _ rfl w.heap.size z8 rfl rfl rfl 52 zc8 HR.out rfl ?_)
      refine bodyPost_ret (v := commE none) ?_ rfl ⟨by rw [HO.out], HL.out.trans (below_setRow _ _ _ (Nat.le_refl _))⟩
      exact results_cell_slot rfl _ _ w.heap.size 52 _ _ _ rfl rfl (Blk.setRow HR.out _) Tryd.underlying52 rfl (comm_size _ z8_len)
def mob (b : Bool) (n : Int) : List Int := [6, 0, fl b, 0] ++ be 4 n
def lab (b : Bool) (n : Int) : List Int := [6, 1, fl b, 0, 0] ++ be 3 n
def enc (k : Int) : List Int := [3, 12, 0, 0, 0, 0] ++ be 2 k
theorem mob_len (b : Bool) (n : Int) : (mob b n).length = 8 := by simp [mob, be_len]
theorem lab_len (b : Bool) (n : Int) : (lab b n).length = 8 := by simp [lab, be_len]
theorem enc_len (k : Int) : (enc k).length = 8 := by simp [enc, be_len]
theorem p_mob : put8 z8 0 2 1536 = [6, 0, 0, 0, 0, 0, 0, 0] := by decide
theorem p_lab : put8 z8 0 2 1537 = [6, 1, 0, 0, 0, 0, 0, 0] := by decide
theorem p_enc : put8 z8 0 2 780 = [3, 12, 0, 0, 0, 0, 0, 0] := by decide
set_option maxHeartbeats 2000000 in
set_option maxRecDepth 100000 in
theorem mm_is (w : World) (b : Bool) (n : Int) (n0 : 0 ≤ n) (n1 : n < 4294967296) :
    Calls Tryd.prog 40 #[.bool b, .int .u32 n] w fun x w' => x = .returned (.agg (u8s (mob b n)).toArray) ∧ Below w.heap.size w w' := by
  go_enter Tryd.func40, Tryd.ntmps40
  go_wp2_with fail
  refine (beg_is _ 1536 (by decide) (by decide)).mono ?_
  rintro x w1 ⟨rfl, hB⟩
  rw [p_mob]
  have HV := Lib.hid (var_new w w1 [6, 0, 0, 0, 0, 0, 0, 0] rfl hB)
  have HN := Lib.hid (Blk.new w1 52 zc8)
  clear hB
  go_wp2_with (refine comm_store rfl _ _ rfl w1.heap.size [6, 0, 0, 0, 0, 0, 0, 0] rfl rfl rfl 52 zc8 HN.out rfl ?_)
  refine (sf_is _ w1.heap.size 52 6 0 [0, 0, 0, 0, 0] b HV.out.var).mono ?_
  rintro x w2 ⟨rfl, hb, hg⟩
  have HV2 := Lib.hid (HV.out.grown hb hg rfl)
  clear hb hg HV HN
  go_wp2_with fail
  refine (pn_is _ w1.heap.size 52 _ 4 4 4 n HV2.out.var (by simp) (by omega) n0 n1).mono ?_
  rintro x w3 ⟨rfl, hb, hg⟩
  have HV3 : Hid (Var w w3 w1.heap.size (mob b n)) := Lib.hid (HV2.out.grown hb hg rfl)
  clear hb hg HV2
  go_wp2_with (first
    | (refine comm_fetch rfl _ rfl w1.heap.size 0 (mob b n) (mob_len b n) rfl HV3.out.var.range ?_)
    | (refine comm_store rfl _ _ rfl w.heap.size (mob b n) (mob_len b n) rfl rfl 52 zc8 HV3.out.res rfl ?_))
  exact bodyPost_ret (comm_res rfl _ _ w.heap.size 52 (mob b n) (mob_len b n) rfl (Blk.setRow HV3.out.res _)) rfl ⟨rfl, HV3.out.low.trans (below_setRow _ _ _ (Nat.le_refl _))⟩
def mlO (b : Bool) (n : Int) : Option (List Int) := if n ≤ 16777215 then some (lab b n) else none
set_option maxHeartbeats 2000000 in
set_option maxRecDepth 100000 in
theorem ml_is' (w : World) (b : Bool) (n : Int) (n0 : 0 ≤ n) (n1 : n < 4294967296) :
    Calls Tryd.prog 38 #[.bool b, .int .u32 n] w fun x w' => x = .returned (commE (mlO b n)) ∧ Below w.heap.size w w' := by
  by_cases hn : n ≤ 16777215
  · have HO : Hid (mlO b n = some (lab b n)) := Lib.hid (by unfold mlO; rw [if_pos hn])
    have hn' : ¬ n > 16777215 := by omega
    go_enter Tryd.func38, Tryd.ntmps38
    go_wp2_with fail
    refine (beg_is _ 1537 (by decide) (by decide)).mono ?_
    rintro x w1 ⟨rfl, hB⟩
    rw [p_lab]
    have HV := Lib.hid (var_new w w1 [6, 1, 0, 0, 0, 0, 0, 0] rfl hB)
    have HN := Lib.hid (Blk.new w1 52 zc8)
    clear hB
    go_wp2_with (refine comm_store rfl _ _ rfl w1.heap.size [6, 1, 0, 0, 0, 0, 0, 0] rfl rfl rfl 52 zc8 HN.out rfl ?_)
    refine (sf_is _ w1.heap.size 52 6 1 [0, 0, 0, 0, 0] b HV.out.var).mono ?_
    rintro x w2 ⟨rfl, hb, hg⟩
    have HV2 := Lib.hid (HV.out.grown hb hg rfl)
    clear hb hg HV HN
    go_wp2_with fail
    refine (pn_is _ w1.heap.size 52 _ 5 3 3 n HV2.out.var (by simp) (by omega) n0 n1).mono ?_
    rintro x w3 ⟨rfl, hb, hg⟩
    have HV3 : Hid (Var w w3 w1.heap.size (lab b n)) := Lib.hid (HV2.out.grown hb hg rfl)
    clear hb hg HV2
    go_wp2_with (first
      | (refine comm_fetch rfl _ rfl w1.heap.size 0 (lab b n) (lab_len b n) rfl HV3.out.var.range ?_)
      | (refine comm_store rfl _ _ rfl w.heap.size (lab b n) (lab_len b n) rfl rfl 52 zc8 HV3.out.res rfl ?_))
    refine bodyPost_ret (v := commE (some (lab b n))) ?_ rfl ⟨by rw [HO.out], HV3.out.low.trans (below_setRow _ _ _ (Nat.le_refl _))⟩
    exact results_cell_slot rfl _ _ w.heap.size 52 _ _ _ rfl rfl (Blk.setRow HV3.out.res _) Tryd.underlying52 rfl (comm_size _ (lab_len b n))
  · have HO : Hid (mlO b n = none) := Lib.hid (by unfold mlO; rw [if_neg hn])
    have HR := Lib.hid (Blk.new w 52 zc8)
    have HL := Lib.hid ((Below.refl w.heap.size w).alloc (Nat.le_refl _) (.cells zc8 52))
    have hn' : n > 16777215 := by omega
    go_enter Tryd.func38, Tryd.ntmps38
    go_wp2_with (refine comm_store rfl _ _ rfl w.heap.size z8 rfl rfl rfl 52 zc8 HR.out rfl ?_)
    refine bodyPost_ret (v := commE none) ?_ rfl ⟨by rw [HO.out], HL.out.trans (below_setRow _ _ _ (Nat.le_refl _))⟩
    exact results_cell_slot rfl _ _ w.heap.size 52 _ _ _ rfl rfl (Blk.setRow HR.out _) Tryd.underlying52 rfl (comm_size _ z8_len)
set_option maxHeartbeats 2000000 in
set_option maxRecDepth 100000 in
theorem me_is (w : World) (k : Int) (k0 : 0 ≤ k) (k1 : k < 65536) :
    Calls Tryd.prog 46 #[.int .u16 k] w fun x w' => x = .returned (.agg (u8s (enc k)).toArray) ∧ Below w.heap.size w w' := by
  have hk : k % 4294967296 = k := Int.emod_eq_of_lt k0 (by omega)
  go_enter Tryd.func46, Tryd.ntmps46
  go_wp2_with fail
  refine (beg_is _ 780 (by decide) (by decide)).mono ?_
  rintro x w1 ⟨rfl, hB⟩
  rw [p_enc]
  have HV := Lib.hid (var_new w w1 [3, 12, 0, 0, 0, 0, 0, 0] rfl hB)
  have HN := Lib.hid (Blk.new w1 52 zc8)
  clear hB
  go_wp2_with (refine comm_store rfl _ _ rfl w1.heap.size [3, 12, 0, 0, 0, 0, 0, 0] rfl rfl rfl 52 zc8 HN.out rfl ?_)
  refine (pn_is _ w1.heap.size 52 _ 6 2 2 k HV.out.var (by simp) (by omega) k0 (by omega)).mono ?_
  rintro x w3 ⟨rfl, hb, hg⟩
  have HV3 : Hid (Var w w3 w1.heap.size (enc k)) := Lib.hid (HV.out.grown hb hg rfl)
  clear hb hg HV HN
  go_wp2_with (first
    | (refine comm_fetch rfl _ rfl w1.heap.size 0 (enc k) (enc_len k) rfl HV3.out.var.range ?_)
    | (refine comm_store rfl _ _ rfl w.heap.size (enc k) (enc_len k) rfl rfl 52 zc8 HV3.out.res rfl ?_))
  exact bodyPost_ret (comm_res rfl _ _ w.heap.size 52 (enc k) (enc_len k) rfl (Blk.setRow HV3.out.res _)) rfl ⟨rfl, HV3.out.low.trans (below_setRow _ _ _ (Nat.le_refl _))⟩
end Go.Proofs.YtkaimdcepnhkdaaDoor
namespace Go.Proofs.YtkaimdcepnhkdaaDoor
open Go.RowKit
set_option linter.unusedSimpArgs false
set_option linter.unusedVariables false

theorem src8' {w : World} {g : Nat} {t : TypeId} {l : List Int} (h : Blk w g t (u8s l).toArray) : ∀ (j : Nat) (v : Value), (u8s l)[j]? = some v → w.cell? ((⟨g, 0, none⟩ : Addr).add j) = some v := by
  intro j v hv
  have e : (⟨g, 0, none⟩ : Addr).add j = ⟨g, j, none⟩ := by unfold Addr.add; split <;> simp_all
  rw [e, h.cell]
  simpa using hv
def withM (x y : Int) (m : List Int) : List Int := x :: y :: m
theorem withM_len (x y : Int) (m : List Int) (h : m.length = 6) : (withM x y m).length = 8 := by simp [withM, h]
set_option maxRecDepth 100000 in
/-- 'copy(c[2:], m[:])'. -/
theorem copy_mac (w : World) (g g2 : Nat) (x y : Int) (m : List Int) (hm : m.length = 6) (hb : Blk w g 52 (u8s [x, y, 0, 0, 0, 0, 0, 0]).toArray) (hs : Blk w g2 49 (u8s m).toArray) (ty : TypeId) :
    (Builtin.copy_ #[79, 79] ty #[.slice (some ⟨g, 2, none⟩) 6 6, .slice (some ⟨g2, 0, none⟩) 6 6]).run Tryd.prog w = .ok (.int .i64 6) (w.setRow g (u8s (withM x y m)).toArray) := by
  have h := run_copy_row (P := Tryd.prog) w 79 79 ty 5 g 2 6 6 ⟨g2, 0, none⟩ 6 6 (u8s [x, y, 0, 0, 0, 0, 0, 0]).toArray 52 (u8s m) Tryd.underlying79 (by kernel_rfl) hb (by simp [hm]) (src8' hs) (by simp [hm]) (u8s_one1 m)
  rw [show (u8s m).length = 6 by simp [hm]] at h
  refine h.trans ?_
  congr 2
  simp [withM, hm]
theorem Blk.drew' {w : World} {g : Nat} {t : TypeId} {cs : Array Value} (h : Blk w g t cs) (n : Nat) : Blk (w.drewN n) g t cs := h
set_option maxHeartbeats 2000000 in
set_option maxRecDepth 100000 in
theorem mkm_is (w : World) (h : Int) (x y : Int) (m : List Int) (hm : m.length = 6) (h0 : 0 ≤ h) (h1 : h < 4294967296) (hp : put8 z8 0 2 h = [x, y, 0, 0, 0, 0, 0, 0]) :
    Calls Tryd.prog 91 #[.int .u32 h, .agg (u8s m).toArray] w fun e w' => e = .returned (.agg (u8s (withM x y m)).toArray) ∧ Below w.heap.size w w' := by
  have HP := Lib.hid hp
  clear hp
  have hM0 := (Blk.new w 49 (u8s m).toArray).alloc (.cells zc8 52)
  have hR0 := Blk.new (w.alloc (.cells (u8s m).toArray 49)) 52 zc8
  rw [size_a1] at hR0
  have HM0 := Lib.hid hM0
  have HR0 := Lib.hid hR0
  have HL0 : Hid (Below w.heap.size w ((w.alloc (.cells (u8s m).toArray 49)).alloc (.cells zc8 52))) := Lib.hid (((Below.refl w.heap.size w).alloc (Nat.le_refl _) _).alloc (by simp) _)
  clear hM0 hR0
  go_enter Tryd.func91, Tryd.ntmps91
  go_wp2_with fail
  refine (beg_is _ h h0 h1).mono ?_
  rintro e w1 ⟨rfl, hB⟩
  rw [HP.out]
  rw [size_a2] at hB
  have hz := hB.size
  rw [size_a2] at hz
  have HM1 := Lib.hid (((HM0.out.below hB (by omega)).alloc (.cells zc8 52)).below (below_setRow _ w1.heap.size (u8s [x, y, 0, 0, 0, 0, 0, 0]).toArray (Nat.le_refl _)) (by omega))
  have HR1 := Lib.hid (((HR0.out.below hB (by omega)).alloc (.cells zc8 52)).below (below_setRow _ w1.heap.size (u8s [x, y, 0, 0, 0, 0, 0, 0]).toArray (Nat.le_refl _)) (by omega))
  have HC1 := Lib.hid (Blk.setRow (Blk.new w1 52 zc8) (u8s [x, y, 0, 0, 0, 0, 0, 0]).toArray)
  have HL1 := Lib.hid (((HL0.out.trans (hB.mono (by omega))).alloc (by omega) (.cells zc8 52)).trans (below_setRow _ w1.heap.size (u8s [x, y, 0, 0, 0, 0, 0, 0]).toArray (by omega)))
  have HN := Lib.hid (Blk.new w1 52 zc8)
  clear hB HM0 HR0 HL0 HP
  go_wp2_with (refine comm_store rfl _ _ rfl w1.heap.size [x, y, 0, 0, 0, 0, 0, 0] rfl rfl rfl 52 zc8 HN.out rfl ?_)
  generalize (w1.alloc (.cells zc8 52)).setRow w1.heap.size (u8s [x, y, 0, 0, 0, 0, 0, 0]).toArray = w2 at *
  generalize w1.heap.size = g at *
  clear HN
  have hcp := copy_mac w2.drew g w.heap.size x y m hm HC1.out HM1.out 3
  have HR3 : Hid (Blk (w2.drew.setRow g (u8s (withM x y m)).toArray) (w.heap.size + 1) 52 zc8) := Lib.hid ((show Blk w2.drew (w.heap.size + 1) 52 zc8 from HR1.out).below (below_setRow _ g _ (Nat.le_refl _)) (by omega))
  have HC3 : Hid (Blk (w2.drew.setRow g (u8s (withM x y m)).toArray) g 52 (u8s (withM x y m)).toArray) := Lib.hid (Blk.setRow (show Blk w2.drew g 52 _ from HC1.out) _)
  have HL3 : Hid (Below w.heap.size w (w2.drew.setRow g (u8s (withM x y m)).toArray)) := Lib.hid ((below_drewN HL1.out 1).trans (below_setRow _ g _ (by omega)))
  clear HR1 HM1 HC1
  refine wp_region_held_drew (S := fun w' => True) (by kernel_rfl) (trivial) (fun hS => ?_)
  refine wpAnyH_take (i := 0) (oi := ⟨some 8, _, _, _, _, _⟩) (v := ?_) rfl (by kernel_rfl) (by kernel_rfl) (by kernel_rfl) (fun _ _ _ h => h) (Or.inl ⟨by rfl, ?_⟩) hS ?_
  rotate_left
  · intro wq hq
    first | (go_simp; done) | (go_simp; rfl)
  try simp only [Act.put, List.setIfInBounds_toArray, List.set_cons_zero, List.set_cons_succ]
  refine wpAnyH_take (i := 1) (oi := ⟨some 9, _, _, _, _, _⟩) (v := ?_) rfl (by kernel_rfl) (by kernel_rfl) (by kernel_rfl) (fun _ _ _ h => h) (Or.inl ⟨by rfl, ?_⟩) hS ?_
  rotate_left
  · intro wq hq
    first | (go_simp; done) | (go_simp; rfl)
  try simp only [Act.put, List.setIfInBounds_toArray, List.set_cons_zero, List.set_cons_succ]
  refine wpAnyH_ready (rs := [2]) (by kernel_rfl) (by simp) ?_
  refine AllReadyH.cons (o := ⟨some 10, _, _, _, _, _⟩) rfl (fun K hK => ?_) AllReadyH.nil
  rw [if_pos (by rfl)]
  go_wp2
  refine hK.out _ _ trivial (fun hS => ?_)
  clear hK K hcp
  try simp only [Act.put, List.setIfInBounds_toArray, List.set_cons_zero, List.set_cons_succ]
  refine wpAnyH_done (by kernel_rfl) ?_ _
  generalize w2.drew.setRow g (u8s (withM x y m)).toArray = w3 at *
  clear hS
  go_wp2_with (first
    | (refine comm_fetch rfl _ rfl g 0 (withM x y m) (withM_len x y m hm) rfl HC3.out.range ?_)
    | (refine comm_store rfl _ _ rfl (w.heap.size + 1) (withM x y m) (withM_len x y m hm) rfl rfl 52 zc8 HR3.out rfl ?_))
  exact bodyPost_ret (comm_res rfl _ _ (w.heap.size + 1) 52 (withM x y m) (withM_len x y m hm) rfl (Blk.setRow HR3.out _)) rfl ⟨rfl, HL3.out.trans (below_setRow _ _ _ (by omega))⟩
theorem p_imp : put8 z8 0 2 1538 = [6, 2, 0, 0, 0, 0, 0, 0] := by decide
theorem p_rtr : put8 z8 0 2 1539 = [6, 3, 0, 0, 0, 0, 0, 0] := by decide
set_option maxHeartbeats 2000000 in
set_option maxRecDepth 100000 in
theorem mi_is (w : World) (m : List Int) (hm : m.length = 6) :
    Calls Tryd.prog 42 #[.agg (u8s m).toArray] w fun e w' => e = .returned (.agg (u8s (withM 6 2 m)).toArray) ∧ Below w.heap.size w w' := by
  have HM0 := Lib.hid ((Blk.new w 49 (u8s m).toArray).alloc (.cells zc8 52))
  have hR0 := Blk.new (w.alloc (.cells (u8s m).toArray 49)) 52 zc8
  rw [size_a1] at hR0
  have HR0 := Lib.hid hR0
  have HL0 : Hid (Below w.heap.size w ((w.alloc (.cells (u8s m).toArray 49)).alloc (.cells zc8 52))) := Lib.hid (((Below.refl w.heap.size w).alloc (Nat.le_refl _) _).alloc (by simp) _)
  clear hR0
  go_enter Tryd.func42, Tryd.ntmps42
  go_wp2_with (refine mac6_fetch rfl _ rfl w.heap.size 0 m hm rfl HM0.out.range ?_)
  refine (mkm_is _ 1538 6 2 m hm (by decide) (by decide) p_imp).mono ?_
  rintro e w1 ⟨rfl, hB⟩
  rw [size_a2] at hB
  have HR1 := Lib.hid (HR0.out.below hB (by omega))
  have HL1 := Lib.hid (HL0.out.trans (hB.mono (by omega)))
  clear hB HM0 HR0 HL0
  go_wp2_with (refine comm_store rfl _ _ rfl (w.heap.size + 1) (withM 6 2 m) (withM_len 6 2 m hm) rfl rfl 52 zc8 HR1.out rfl ?_)
  exact bodyPost_ret (comm_res rfl _ _ (w.heap.size + 1) 52 (withM 6 2 m) (withM_len 6 2 m hm) rfl (Blk.setRow HR1.out _)) rfl ⟨rfl, HL1.out.trans (below_setRow _ _ _ (by omega))⟩
set_option maxHeartbeats 2000000 in
set_option maxRecDepth 100000 in
theorem mr_is (w : World) (m : List Int) (hm : m.length = 6) :
    Calls Tryd.prog 44 #[.agg (u8s m).toArray] w fun e w' => e = .returned (.agg (u8s (withM 6 3 m)).toArray) ∧ Below w.heap.size w w' := by
  have HM0 := Lib.hid ((Blk.new w 49 (u8s m).toArray).alloc (.cells zc8 52))
  have hR0 := Blk.new (w.alloc (.cells (u8s m).toArray 49)) 52 zc8
  rw [size_a1] at hR0
  have HR0 := Lib.hid hR0
  have HL0 : Hid (Below w.heap.size w ((w.alloc (.cells (u8s m).toArray 49)).alloc (.cells zc8 52))) := Lib.hid (((Below.refl w.heap.size w).alloc (Nat.le_refl _) _).alloc (by simp) _)
  clear hR0
  go_enter Tryd.func44, Tryd.ntmps44
  go_wp2_with (refine mac6_fetch rfl _ rfl w.heap.size 0 m hm rfl HM0.out.range ?_)
  refine (mkm_is _ 1539 6 3 m hm (by decide) (by decide) p_rtr).mono ?_
  rintro e w1 ⟨rfl, hB⟩
  rw [size_a2] at hB
  have HR1 := Lib.hid (HR0.out.below hB (by omega))
  have HL1 := Lib.hid (HL0.out.trans (hB.mono (by omega)))
  clear hB HM0 HR0 HL0
  go_wp2_with (refine comm_store rfl _ _ rfl (w.heap.size + 1) (withM 6 3 m) (withM_len 6 3 m hm) rfl rfl 52 zc8 HR1.out rfl ?_)
  exact bodyPost_ret (comm_res rfl _ _ (w.heap.size + 1) 52 (withM 6 3 m) (withM_len 6 3 m hm) rfl (Blk.setRow HR1.out _)) rfl ⟨rfl, HL1.out.trans (below_setRow _ _ _ (by omega))⟩
end Go.Proofs.YtkaimdcepnhkdaaDoor
namespace Go.Proofs.YtkaimdcepnhkdaaDoor
open Go.RowKit
set_option linter.unusedSimpArgs false
set_option linter.unusedVariables false

theorem laid8_len (l : List Int) (k m : Nat) (n : Int) (j : Nat) (h : k + m ≤ l.length) (hj : j ≤ m) : (laid8 l k m n j).length = l.length := by simp [laid8, be_len]; omega
set_option maxHeartbeats 2000000 in
set_option maxRecDepth 100000 in
theorem rput_is (w : World) (l : List Int) (k m : Nat) (n : Int) (hl : l.length = 8) (hk : k + m ≤ 8) (hm1 : 1 ≤ m) (hm : m ≤ 4) (h0 : 0 ≤ n) (h1 : n < 4294967296) (t : Int) (ht : t = (k + m - 1 : Nat)) :
    Calls Tryd.prog 86 #[.agg (u8s l).toArray, .int .i64 k, .int .i64 t, .int .u32 n] w fun e w' => e = .returned (.agg (u8s (put8 l k m n)).toArray) ∧ Below w.heap.size w w' := by
  have HB : Hid (Blk ((w.alloc (.cells (u8s l).toArray 52)).alloc (.cells zc8 52)) w.heap.size 52 (u8s l).toArray) := Lib.hid ((Blk.new w 52 (u8s l).toArray).alloc _)
  have hR0 := Blk.new (w.alloc (.cells (u8s l).toArray 52)) 52 zc8
  rw [size_a1] at hR0
  have HR := Lib.hid hR0
  have HL : Hid (Below w.heap.size w ((w.alloc (.cells (u8s l).toArray 52)).alloc (.cells zc8 52))) := Lib.hid (((Below.refl w.heap.size w).alloc (Nat.le_refl _) _).alloc (by simp) _)
  clear hR0
  subst ht
  go_enter Tryd.func86, Tryd.ntmps86
  go_wp2
  go_loopw [3, 9] (fun s i wr => ∃ j : Nat, j ≤ m ∧ i = .int .i64 ((k : Int) + m - 1 - j) ∧ s = .int .u32 (n / 256 ^ j) ∧ Blk wr w.heap.size 52 (u8s (laid8 l k m n j)).toArray ∧ Blk wr (w.heap.size + 1) 52 zc8 ∧ Below w.heap.size w wr) (fun _ i _ => (intOf i - k + 1).toNat)
  case atStart => exact ⟨0, by omega, by simp only [Value.int.injEq, true_and]; omega, by simp, by rw [laid8_zero l k m n (by omega)]; exact HB.out, HR.out, HL.out⟩
  case round =>
    obtain ⟨j, hj, rfl, rfl, hb, hr, hB⟩ := hrel
    have HR2 := Lib.hid hr
    have HL2 := Lib.hid hB
    clear hr hB HB HR HL
    by_cases hlt : j < m
    · rw [laid8_before l k m n j (by omega) hlt] at hb
      have hlen : (l.take (k + (m - 1 - j))).length = k + (m - 1 - j) := by simp; omega
      have hc := hb.cell (k + (m - 1 - j))
      rw [cell_at8 _ _ _ _ hlen] at hc
      have hf := hb.frozen (k + (m - 1 - j))
      have hset := hb.set_ (k + (m - 1 - j)) (.int .u8 (n / 256 ^ j % 256))
      rw [cell_set8 _ _ _ _ _ hlen, laid8_behind l k m n j hlt] at hset
      have HS := Lib.hid hset
      have HR3 := Lib.hid (HR2.out.far (p := ⟨w.heap.size, k + (m - 1 - j), none⟩) (by simp) (.int .u8 (n / 256 ^ j % 256)))
      have HL3 := Lib.hid (HL2.out.setCell (p := ⟨w.heap.size, k + (m - 1 - j), none⟩) (Nat.le_refl _) (.int .u8 (n / 256 ^ j % 256)))
      have HD := Lib.hid (div_pow n j)
      have hbd := divp_bd n j h0 h1
      obtain ⟨n2, hn2⟩ : ∃ n2, n2 = n / 256 ^ (j + 1) := ⟨_, rfl⟩
      rw [← hn2] at HD
      have HN2 := Lib.hid hn2
      have hi : (k : Int) + m - 1 - j = ((k + (m - 1 - j) : Nat) : Int) := by omega
      have hq8 : k + (m - 1 - j) < 8 := by omega
      have hqk : k ≤ k + (m - 1 - j) := by omega
      have HI : Hid (((k + (m - 1 - j) : Nat) : Int) - 1 = (k : Int) + m - 1 - ((j + 1 : Nat) : Int)) := Lib.hid (by omega)
      clear hn2 hb hset hlen
      rw [hi]
      generalize n / 256 ^ j = n1 at *
      clear hi
      generalize k + (m - 1 - j) = q at *
      have hqk' : (k : Int) ≤ q := by omega
      have hq8' : (q : Int) < 8 := by omega
      go_wp2
      exact ⟨⟨j + 1, by omega, by simp only [Value.int.injEq, true_and]; exact HI.out, by rw [HD.out, HN2.out], HS.out, HR3.out, HL3.out⟩, by simp [intOf]; omega⟩
    · obtain rfl : j = m := by omega
      rw [laid8_all] at hb
      have HBe := Lib.hid hb
      have hlt2 : ¬ (k : Int) + j - 1 - j ≥ k := by omega
      clear hb
      go_wp2_with (first
        | (refine comm_fetch rfl _ rfl w.heap.size 0 (put8 l k j n) (by rw [put8_len _ _ _ _ (by omega)]; exact hl) rfl HBe.out.range ?_)
        | (refine comm_store rfl _ _ rfl (w.heap.size + 1) (put8 l k j n) (by rw [put8_len _ _ _ _ (by omega)]; exact hl) rfl rfl 52 zc8 HR2.out rfl ?_))
      exact bodyPost_ret (comm_res rfl _ _ (w.heap.size + 1) 52 (put8 l k j n) (by rw [put8_len _ _ _ _ (by omega)]; exact hl) rfl (Blk.setRow HR2.out _)) rfl ⟨rfl, HL2.out.trans (below_setRow _ _ _ (by omega))⟩
theorem rfl_is (w : World) (b : Bool) : Calls Tryd.prog 90 #[.bool b] w fun e w' => e = .returned (.int .u8 (fl b)) ∧ w = w' := by
  cases b
  all_goals
    go_enter Tryd.func90, Tryd.ntmps90
    go_wp2
    go_ret
    exact ⟨rfl, rfl⟩
theorem tgt_4 (a n : Int) (h : a ≤ 65535) : put8 (put8 [0, 2, 0, 0, 0, 0, 0, 0] 2 2 a) 4 4 n = tgt a n := by unfold tgt; rw [if_pos h]; rfl
theorem tgt_6 (a n : Int) (h : ¬ a ≤ 65535) : put8 (put8 [2, 2, 0, 0, 0, 0, 0, 0] 2 4 a) 6 2 n = tgt a n := by unfold tgt; rw [if_neg h]; rfl
set_option maxHeartbeats 2000000 in
set_option maxRecDepth 100000 in
theorem rmt_is (w : World) (a n : Int) (a0 : 0 ≤ a) (a1 : a < 4294967296) (n0 : 0 ≤ n) (n1 : n < 4294967296) :
    Calls Tryd.prog 37 #[.int .u32 a, .int .u32 n] w fun x w' => x = .returned (commE (mtO a n)) ∧ Below w.heap.size w w' := by
  have HR := Lib.hid (Blk.new w 52 zc8)
  have HL := Lib.hid ((Below.refl w.heap.size w).alloc (Nat.le_refl _) (.cells zc8 52))
  by_cases ha : a ≤ 65535
  · have HO : Hid (mtO a n = some (tgt a n)) := Lib.hid (by unfold mtO; rw [if_pos ha])
    have HT := Lib.hid (tgt_4 a n ha)
    go_enter Tryd.func37, Tryd.ntmps37
    go_wp2_with fail
    refine (rput_is _ [0, 2, 0, 0, 0, 0, 0, 0] 2 2 a rfl (by decide) (by decide) (by decide) a0 a1 3 rfl).mono ?_
    rintro x w1 ⟨rfl, hB⟩
    rw [size_a1] at hB
    have HR1 := Lib.hid (HR.out.below hB (by omega))
    have HL1 := Lib.hid (HL.out.trans (hB.mono (by omega)))
    have hz1 := hB.size
    rw [size_a1] at hz1
    clear hB HR HL
    go_wp2_with fail
    refine (rput_is _ (put8 [0, 2, 0, 0, 0, 0, 0, 0] 2 2 a) 4 4 n (put8_len _ _ _ _ (by decide)) (by decide) (by decide) (by decide) n0 n1 7 rfl).mono ?_
    rintro x w2 ⟨rfl, hB⟩
    rw [HT.out]
    have HR2 := Lib.hid (HR1.out.below hB (by omega))
    have HL2 := Lib.hid (HL1.out.trans (hB.mono (by omega)))
    clear hB HR1 HL1 HT
    go_wp2_with (refine comm_store rfl _ _ rfl w.heap.size (tgt a n) (tgt_len a n) rfl rfl 52 zc8 HR2.out rfl ?_)
    refine bodyPost_ret (v := commE (some (tgt a n))) ?_ rfl ⟨by rw [HO.out], HL2.out.trans (below_setRow _ _ _ (Nat.le_refl _))⟩
    exact results_cell_slot rfl _ _ w.heap.size 52 _ _ _ rfl rfl (Blk.setRow HR2.out _) Tryd.underlying52 rfl (comm_size _ (tgt_len a n))
  · by_cases hn : n ≤ 65535
    · have HO : Hid (mtO a n = some (tgt a n)) := Lib.hid (by unfold mtO; rw [if_neg ha, if_pos hn])
      have HT := Lib.hid (tgt_6 a n ha)
      have hn' : ¬ n > 65535 := by omega
      go_enter Tryd.func37, Tryd.ntmps37
      go_wp2_with fail
      refine (rput_is _ [2, 2, 0, 0, 0, 0, 0, 0] 2 4 a rfl (by decide) (by decide) (by decide) a0 a1 5 rfl).mono ?_
      rintro x w1 ⟨rfl, hB⟩
      rw [size_a1] at hB
      have HR1 := Lib.hid (HR.out.below hB (by omega))
      have HL1 := Lib.hid (HL.out.trans (hB.mono (by omega)))
      have hz1 := hB.size
      rw [size_a1] at hz1
      clear hB HR HL
      go_wp2_with fail
      refine (rput_is _ (put8 [2, 2, 0, 0, 0, 0, 0, 0] 2 4 a) 6 2 n (put8_len _ _ _ _ (by decide)) (by decide) (by decide) (by decide) n0 n1 7 rfl).mono ?_
      rintro x w2 ⟨rfl, hB⟩
      rw [HT.out]
      have HR2 := Lib.hid (HR1.out.below hB (by omega))
      have HL2 := Lib.hid (HL1.out.trans (hB.mono (by omega)))
      clear hB HR1 HL1 HT
      go_wp2_with (refine comm_store rfl _ _ rfl w.heap.size (tgt a n) (tgt_len a n) rfl rfl 52 zc8 HR2.out rfl ?_)
      refine bodyPost_ret (v := commE (some (tgt a n))) ?_ rfl ⟨by rw [HO.out], HL2.out.trans (below_setRow _ _ _ (Nat.le_refl _))⟩
      exact results_cell_slot rfl _ _ w.heap.size 52 _ _ _ rfl rfl (Blk.setRow HR2.out _) Tryd.underlying52 rfl (comm_size _ (tgt_len a n))
    · have HO : Hid (mtO a n = none) := Lib.hid (by unfold mtO; rw [if_neg ha, if_neg hn])
      have hn' : n > 65535 := by omega
      go_enter Tryd.func37, Tryd.ntmps37
      go_wp2_with (refine comm_store rfl _ _ rfl w.heap.size z8 rfl rfl rfl 52 zc8 HR.out rfl ?_)
      refine bodyPost_ret (v := commE none) ?_ rfl ⟨by rw [HO.out], HL.out.trans (below_setRow _ _ _ (Nat.le_refl _))⟩
      exact results_cell_slot rfl _ _ w.heap.size 52 _ _ _ rfl rfl (Blk.setRow HR.out _) Tryd.underlying52 rfl (comm_size _ z8_len)
theorem mob_4 (b : Bool) (n : Int) : put8 [6, 0, fl b, 0, 0, 0, 0, 0] 4 4 n = mob b n := rfl
theorem lab_5 (b : Bool) (n : Int) : put8 [6, 1, fl b, 0, 0, 0, 0, 0] 5 3 n = lab b n := rfl
theorem enc_6 (k : Int) : put8 [3, 12, 0, 0, 0, 0, 0, 0] 6 2 k = enc k := rfl
set_option maxHeartbeats 2000000 in
set_option maxRecDepth 100000 in
theorem rmm_is (w : World) (b : Bool) (n : Int) (n0 : 0 ≤ n) (n1 : n < 4294967296) :
    Calls Tryd.prog 41 #[.bool b, .int .u32 n] w fun x w' => x = .returned (.agg (u8s (mob b n)).toArray) ∧ Below w.heap.size w w' := by
  have HR := Lib.hid (Blk.new w 52 zc8)
  have HL := Lib.hid ((Below.refl w.heap.size w).alloc (Nat.le_refl _) (.cells zc8 52))
  go_enter Tryd.func41, Tryd.ntmps41
  go_wp2_with fail
  refine (rfl_is _ b).mono ?_
  rintro x w1 ⟨rfl, rfl⟩
  go_wp2_with fail
  refine (rput_is _ [6, 0, fl b, 0, 0, 0, 0, 0] 4 4 n rfl (by decide) (by decide) (by decide) n0 n1 7 rfl).mono ?_
  rintro x w2 ⟨rfl, hB⟩
  rw [mob_4]
  rw [size_a1] at hB
  have HR2 := Lib.hid (HR.out.below hB (by omega))
  have HL2 := Lib.hid (HL.out.trans (hB.mono (by omega)))
  clear hB HR HL
  go_wp2_with (refine comm_store rfl _ _ rfl w.heap.size (mob b n) (mob_len b n) rfl rfl 52 zc8 HR2.out rfl ?_)
  exact bodyPost_ret (comm_res rfl _ _ w.heap.size 52 (mob b n) (mob_len b n) rfl (Blk.setRow HR2.out _)) rfl ⟨rfl, HL2.out.trans (below_setRow _ _ _ (Nat.le_refl _))⟩
set_option maxHeartbeats 2000000 in
set_option maxRecDepth 100000 in
theorem rml_is (w : World) (b : Bool) (n : Int) (n0 : 0 ≤ n) (n1 : n < 4294967296) :
    Calls Tryd.prog 39 #[.bool b, .int .u32 n] w fun x w' => x = .returned (commE (mlO b n)) ∧ Below w.heap.size w w' := by
  have HR := Lib.hid (Blk.new w 52 zc8)
  have HL := Lib.hid ((Below.refl w.heap.size w).alloc (Nat.le_refl _) (.cells zc8 52))
  by_cases hn : n ≤ 16777215
  · have HO : Hid (mlO b n = some (lab b n)) := Lib.hid (by unfold mlO; rw [if_pos hn])
    have hn' : ¬ n > 16777215 := by omega
    go_enter Tryd.func39, Tryd.ntmps39
    go_wp2_with fail
    refine (rfl_is _ b).mono ?_
    rintro x w1 ⟨rfl, rfl⟩
    go_wp2_with fail
    refine (rput_is _ [6, 1, fl b, 0, 0, 0, 0, 0] 5 3 n rfl (by decide) (by decide) (by decide) n0 n1 7 rfl).mono ?_
    rintro x w2 ⟨rfl, hB⟩
    rw [lab_5]
    rw [size_a1] at hB
    have HR2 := Lib.hid (HR.out.below hB (by omega))
    have HL2 := Lib.hid (HL.out.trans (hB.mono (by omega)))
    clear hB HR HL
    go_wp2_with (refine comm_store rfl _ _ rfl w.heap.size (lab b n) (lab_len b n) rfl rfl 52 zc8 HR2.out rfl ?_)
    refine bodyPost_ret (v := commE (some (lab b n))) ?_ rfl ⟨by rw [HO.out], HL2.out.trans (below_setRow _ _ _ (Nat.le_refl _))⟩
    exact results_cell_slot rfl _ _ w.heap.size 52 _ _ _ rfl rfl (Blk.setRow HR2.out _) Tryd.underlying52 rfl (comm_size _ (lab_len b n))
  · have HO : Hid (mlO b n = none) := Lib.hid (by unfold mlO; rw [if_neg hn])
    have hn' : n > 16777215 := by omega
    go_enter Tryd.func39, Tryd.ntmps39
    go_wp2_with (refine comm_store rfl _ _ rfl w.heap.size z8 rfl rfl rfl 52 zc8 HR.out rfl ?_)
    refine bodyPost_ret (v := commE none) ?_ rfl ⟨by rw [HO.out], HL.out.trans (below_setRow _ _ _ (Nat.le_refl _))⟩
    exact results_cell_slot rfl _ _ w.heap.size 52 _ _ _ rfl rfl (Blk.setRow HR.out _) Tryd.underlying52 rfl (comm_size _ z8_len)
set_option maxHeartbeats 2000000 in
set_option maxRecDepth 100000 in
theorem rme_is (w : World) (k : Int) (k0 : 0 ≤ k) (k1 : k < 65536) :
    Calls Tryd.prog 47 #[.int .u16 k] w fun x w' => x = .returned (.agg (u8s (enc k)).toArray) ∧ Below w.heap.size w w' := by
  have HR := Lib.hid (Blk.new w 52 zc8)
  have HL := Lib.hid ((Below.refl w.heap.size w).alloc (Nat.le_refl _) (.cells zc8 52))
  have hk : k % 4294967296 = k := Int.emod_eq_of_lt k0 (by omega)
  go_enter Tryd.func47, Tryd.ntmps47
  go_wp2_with fail
  refine (rput_is _ [3, 12, 0, 0, 0, 0, 0, 0] 6 2 k rfl (by decide) (by decide) (by decide) k0 (by omega) 7 rfl).mono ?_
  rintro x w2 ⟨rfl, hB⟩
  rw [enc_6]
  rw [size_a1] at hB
  have HR2 := Lib.hid (HR.out.below hB (by omega))
  have HL2 := Lib.hid (HL.out.trans (hB.mono (by omega)))
  clear hB HR HL
  go_wp2_with (refine comm_store rfl _ _ rfl w.heap.size (enc k) (enc_len k) rfl rfl 52 zc8 HR2.out rfl ?_)
  exact bodyPost_ret (comm_res rfl _ _ w.heap.size 52 (enc k) (enc_len k) rfl (Blk.setRow HR2.out _)) rfl ⟨rfl, HL2.out.trans (below_setRow _ _ _ (Nat.le_refl _))⟩
set_option maxHeartbeats 2000000 in
set_option maxRecDepth 100000 in
theorem rwm_is (w : World) (y : Int) (m : List Int) (hm : m.length = 6) :
    Calls Tryd.prog 92 #[.int .u8 y, .agg (u8s m).toArray] w fun e w' => e = .returned (.agg (u8s (withM 6 y m)).toArray) ∧ Below w.heap.size w w' := by
  have HM0 := Lib.hid ((Blk.new w 49 (u8s m).toArray).alloc (.cells zc8 52))
  have hR0 := Blk.new (w.alloc (.cells (u8s m).toArray 49)) 52 zc8
  rw [size_a1] at hR0
  have HR0 := Lib.hid hR0
  have HL0 : Hid (Below w.heap.size w ((w.alloc (.cells (u8s m).toArray 49)).alloc (.cells zc8 52))) := Lib.hid (((Below.refl w.heap.size w).alloc (Nat.le_refl _) _).alloc (by simp) _)
  have hz : ((w.alloc (.cells (u8s m).toArray 49)).alloc (.cells zc8 52)).heap.size = w.heap.size + 2 := size_a2 _ _ _
  have hN := Blk.new ((w.alloc (.cells (u8s m).toArray 49)).alloc (.cells zc8 52)) 52 zc8
  rw [hz] at hN
  have HN := Lib.hid hN
  have HC1 := Lib.hid (Blk.setRow hN (u8s [6, y, 0, 0, 0, 0, 0, 0]).toArray)
  have HM1 := Lib.hid ((HM0.out.alloc (.cells zc8 52)).below (below_setRow _ (w.heap.size + 2) (u8s [6, y, 0, 0, 0, 0, 0, 0]).toArray (Nat.le_refl _)) (by omega))
  have HR1 := Lib.hid ((HR0.out.alloc (.cells zc8 52)).below (below_setRow _ (w.heap.size + 2) (u8s [6, y, 0, 0, 0, 0, 0, 0]).toArray (Nat.le_refl _)) (by omega))
  have HL1 := Lib.hid ((HL0.out.alloc (by rw [hz]; omega) (.cells zc8 52)).trans (below_setRow _ (w.heap.size + 2) (u8s [6, y, 0, 0, 0, 0, 0, 0]).toArray (by omega)))
  clear hR0 hN hz HM0 HR0 HL0
  go_enter Tryd.func92, Tryd.ntmps92
  go_wp2_with (refine comm_store rfl _ _ rfl (w.heap.size + 2) [6, y, 0, 0, 0, 0, 0, 0] rfl rfl rfl 52 zc8 HN.out rfl ?_)
  clear HN
  generalize (((w.alloc (.cells (u8s m).toArray 49)).alloc (.cells zc8 52)).alloc (.cells zc8 52)).setRow (w.heap.size + 2) (u8s [6, y, 0, 0, 0, 0, 0, 0]).toArray = w2 at *
  have hcp := copy_mac w2.drew (w.heap.size + 2) w.heap.size 6 y m hm HC1.out HM1.out 3
  have HR3 : Hid (Blk (w2.drew.setRow (w.heap.size + 2) (u8s (withM 6 y m)).toArray) (w.heap.size + 1) 52 zc8) := Lib.hid ((show Blk w2.drew (w.heap.size + 1) 52 zc8 from HR1.out).below (below_setRow _ (w.heap.size + 2) _ (Nat.le_refl _)) (by omega))
  have HC3 : Hid (Blk (w2.drew.setRow (w.heap.size + 2) (u8s (withM 6 y m)).toArray) (w.heap.size + 2) 52 (u8s (withM 6 y m)).toArray) := Lib.hid (Blk.setRow (show Blk w2.drew (w.heap.size + 2) 52 _ from HC1.out) _)
  have HL3 : Hid (Below w.heap.size w (w2.drew.setRow (w.heap.size + 2) (u8s (withM 6 y m)).toArray)) := Lib.hid ((below_drewN HL1.out 1).trans (below_setRow _ (w.heap.size + 2) _ (by omega)))
  clear HR1 HM1 HC1
  refine wp_region_held_drew (S := fun w' => True) (by kernel_rfl) (trivial) (fun hS => ?_)
  refine wpAnyH_take (i := 0) (oi := ⟨some 8, _, _, _, _, _⟩) (v := ?_) rfl (by kernel_rfl) (by kernel_rfl) (by kernel_rfl) (fun _ _ _ h => h) (Or.inl ⟨by rfl, ?_⟩) hS ?_
  rotate_left
  · intro wq hq
    first | (go_simp; done) | (go_simp; rfl)
  try simp only [Act.put, List.setIfInBounds_toArray, List.set_cons_zero, List.set_cons_succ]
  refine wpAnyH_take (i := 1) (oi := ⟨some 9, _, _, _, _, _⟩) (v := ?_) rfl (by kernel_rfl) (by kernel_rfl) (by kernel_rfl) (fun _ _ _ h => h) (Or.inl ⟨by rfl, ?_⟩) hS ?_
  rotate_left
  · intro wq hq
    first | (go_simp; done) | (go_simp; rfl)
  try simp only [Act.put, List.setIfInBounds_toArray, List.set_cons_zero, List.set_cons_succ]
  refine wpAnyH_ready (rs := [2]) (by kernel_rfl) (by simp) ?_
  refine AllReadyH.cons (o := ⟨some 10, _, _, _, _, _⟩) rfl (fun K hK => ?_) AllReadyH.nil
  rw [if_pos (by rfl)]
  go_wp2
  refine hK.out _ _ trivial (fun hS => ?_)
  clear hK K hcp
  try simp only [Act.put, List.setIfInBounds_toArray, List.set_cons_zero, List.set_cons_succ]
  refine wpAnyH_done (by kernel_rfl) ?_ _
  generalize w2.drew.setRow (w.heap.size + 2) (u8s (withM 6 y m)).toArray = w3 at *
  clear hS
  go_wp2_with (first
    | (refine comm_fetch rfl _ rfl (w.heap.size + 2) 0 (withM 6 y m) (withM_len 6 y m hm) rfl HC3.out.range ?_)
    | (refine comm_store rfl _ _ rfl (w.heap.size + 1) (withM 6 y m) (withM_len 6 y m hm) rfl rfl 52 zc8 HR3.out rfl ?_))
  exact bodyPost_ret (comm_res rfl _ _ (w.heap.size + 1) 52 (withM 6 y m) (withM_len 6 y m hm) rfl (Blk.setRow HR3.out _)) rfl ⟨rfl, HL3.out.trans (below_setRow _ _ _ (by omega))⟩
set_option maxHeartbeats 2000000 in
set_option maxRecDepth 100000 in
theorem rmi_is (w : World) (m : List Int) (hm : m.length = 6) :
    Calls Tryd.prog 43 #[.agg (u8s m).toArray] w fun e w' => e = .returned (.agg (u8s (withM 6 2 m)).toArray) ∧ Below w.heap.size w w' := by
  have HM0 := Lib.hid ((Blk.new w 49 (u8s m).toArray).alloc (.cells zc8 52))
  have hR0 := Blk.new (w.alloc (.cells (u8s m).toArray 49)) 52 zc8
  rw [size_a1] at hR0
  have HR0 := Lib.hid hR0
  have HL0 : Hid (Below w.heap.size w ((w.alloc (.cells (u8s m).toArray 49)).alloc (.cells zc8 52))) := Lib.hid (((Below.refl w.heap.size w).alloc (Nat.le_refl _) _).alloc (by simp) _)
  clear hR0
  go_enter Tryd.func43, Tryd.ntmps43
  go_wp2_with (refine mac6_fetch rfl _ rfl w.heap.size 0 m hm rfl HM0.out.range ?_)
  refine (rwm_is _ 2 m hm).mono ?_
  rintro e w1 ⟨rfl, hB⟩
  rw [size_a2] at hB
  have HR1 := Lib.hid (HR0.out.below hB (by omega))
  have HL1 := Lib.hid (HL0.out.trans (hB.mono (by omega)))
  clear hB HM0 HR0 HL0
  go_wp2_with (refine comm_store rfl _ _ rfl (w.heap.size + 1) (withM 6 2 m) (withM_len 6 2 m hm) rfl rfl 52 zc8 HR1.out rfl ?_)
  exact bodyPost_ret (comm_res rfl _ _ (w.heap.size + 1) 52 (withM 6 2 m) (withM_len 6 2 m hm) rfl (Blk.setRow HR1.out _)) rfl ⟨rfl, HL1.out.trans (below_setRow _ _ _ (by omega))⟩
set_option maxHeartbeats 2000000 in
set_option maxRecDepth 100000 in
theorem rmr_is (w : World) (m : List Int) (hm : m.length = 6) :
    Calls Tryd.prog 45 #[.agg (u8s m).toArray] w fun e w' => e = .returned (.agg (u8s (withM 6 3 m)).toArray) ∧ Below w.heap.size w w' := by
  have HM0 := Lib.hid ((Blk.new w 49 (u8s m).toArray).alloc (.cells zc8 52))
  have hR0 := Blk.new (w.alloc (.cells (u8s m).toArray 49)) 52 zc8
  rw [size_a1] at hR0
  have HR0 := Lib.hid hR0
  have HL0 : Hid (Below w.heap.size w ((w.alloc (.cells (u8s m).toArray 49)).alloc (.cells zc8 52))) := Lib.hid (((Below.refl w.heap.size w).alloc (Nat.le_refl _) _).alloc (by simp) _)
  clear hR0
  go_enter Tryd.func45, Tryd.ntmps45
  go_wp2_with (refine mac6_fetch rfl _ rfl w.heap.size 0 m hm rfl HM0.out.range ?_)
  refine (rwm_is _ 3 m hm).mono ?_
  rintro e w1 ⟨rfl, hB⟩
  rw [size_a2] at hB
  have HR1 := Lib.hid (HR0.out.below hB (by omega))
  have HL1 := Lib.hid (HL0.out.trans (hB.mono (by omega)))
  clear hB HM0 HR0 HL0
  go_wp2_with (refine comm_store rfl _ _ rfl (w.heap.size + 1) (withM 6 3 m) (withM_len 6 3 m hm) rfl rfl 52 zc8 HR1.out rfl ?_)
  exact bodyPost_ret (comm_res rfl _ _ (w.heap.size + 1) 52 (withM 6 3 m) (withM_len 6 3 m hm) rfl (Blk.setRow HR1.out _)) rfl ⟨rfl, HL1.out.trans (below_setRow _ _ _ (by omega))⟩
end Go.Proofs.YtkaimdcepnhkdaaDoor
namespace Go.Proofs.YtkaimdcepnhkdaaDoor
open Go.RowKit
set_option linter.unusedSimpArgs false
set_option linter.unusedVariables false

/-- m bytes from k on. -/
def seg (l : List Int) (k m : Nat) : List Int := (l.drop k).take m
theorem seg_len (l : List Int) (k m : Nat) (h : k + m ≤ l.length) : (seg l k m).length = m := by simp [seg]; omega
theorem seg_oct (l : List Int) (k m : Nat) (h : Oct l) : Oct (seg l k m) := fun x hx => h x (List.mem_of_mem_drop (List.mem_of_mem_take hx))
/-- The first two bytes as one number. -/
def hd (l : List Int) : Int := numOf (seg l 0 2)
/-- Kind and form by the first two bytes. -/
def kf (h : Int) : Int × Int := if h = 2 then (1, 0) else if h = 258 then (1, 1) else if h = 514 then (1, 2) else if h = 1536 then (2, 0) else if h = 1537 then (3, 0) else if h = 1538 then (4, 0) else if h = 1539 then (5, 0) else if h = 780 then (6, 0) else (0, 0)
theorem kinds (h : Int) : h = 2 ∨ h = 258 ∨ h = 514 ∨ h = 1536 ∨ h = 1537 ∨ h = 1538 ∨ h = 1539 ∨ h = 780 ∨ (h ≠ 2 ∧ h ≠ 258 ∧ h ≠ 514 ∧ h ≠ 1536 ∧ h ≠ 1537 ∧ h ≠ 1538 ∧ h ≠ 1539 ∧ h ≠ 780) := by omega
theorem kf_other {h : Int} (a : h ≠ 2 ∧ h ≠ 258 ∧ h ≠ 514 ∧ h ≠ 1536 ∧ h ≠ 1537 ∧ h ≠ 1538 ∧ h ≠ 1539 ∧ h ≠ 780) : kf h = (0, 0) := by
  unfold kf
  rw [if_neg a.1, if_neg a.2.1, if_neg a.2.2.1, if_neg a.2.2.2.1, if_neg a.2.2.2.2.1, if_neg a.2.2.2.2.2.1, if_neg a.2.2.2.2.2.2.1, if_neg a.2.2.2.2.2.2.2]
theorem rd_comm {w : World} {g : Nat} {l : List Int} (h : Blk w g 52 (u8s l).toArray) (ho : Oct l) (k m : Nat) (hm : k + m ≤ l.length) : Rd w w.heap.size (some ⟨g, k, none⟩) m (seg l k m) := by
  have := rd_range (pre := []) (post := []) (l := l) (B := w.heap.size) (by simpa using h.range) ho k m hm h.lt
  simpa [seg] using this
set_option maxHeartbeats 2000000 in
set_option maxRecDepth 100000 in
theorem ko_is (w : World) (l : List Int) (hl : l.length = 8) (ho : Oct l) :
    Calls Tryd.prog 93 #[.agg (u8s l).toArray] w fun e w' => e = .returned (.tuple #[.int .i64 (kf (hd l)).1, .int .i64 (kf (hd l)).2]) ∧ Below w.heap.size w w' := by
  have HB := Lib.hid (Blk.new w 52 (u8s l).toArray)
  have HL := Lib.hid ((Below.refl w.heap.size w).alloc (Nat.le_refl _) (.cells (u8s l).toArray 52))
  go_enter Tryd.func93, Tryd.ntmps93
  go_wp2_with fail
  refine (cnum_is _ _ _ 2 8 (seg l 0 2) (rd_comm HB.out ho 0 2 (by omega)) (by omega)).mono ?_
  rintro e w1 ⟨rfl, rfl⟩
  rw [show numOf (seg l 0 2) = hd l from rfl]
  generalize hH : hd l = h
  have HH := Lib.hid hH
  clear hH HB
  rcases kinds h with rfl | rfl | rfl | rfl | rfl | rfl | rfl | rfl | a
  · go_wp2
    go_ret2
    exact ⟨by rw [HH.out]; rfl, HL.out⟩
  · go_wp2
    go_ret2
    exact ⟨by rw [HH.out]; rfl, HL.out⟩
  · go_wp2
    go_ret2
    exact ⟨by rw [HH.out]; rfl, HL.out⟩
  · go_wp2
    go_ret2
    exact ⟨by rw [HH.out]; rfl, HL.out⟩
  · go_wp2
    go_ret2
    exact ⟨by rw [HH.out]; rfl, HL.out⟩
  · go_wp2
    go_ret2
    exact ⟨by rw [HH.out]; rfl, HL.out⟩
  · go_wp2
    go_ret2
    exact ⟨by rw [HH.out]; rfl, HL.out⟩
  · go_wp2
    go_ret2
    exact ⟨by rw [HH.out]; rfl, HL.out⟩
  · have HK := Lib.hid (kf_other a)
    obtain ⟨a1, a2, a3, a4, a5, a6, a7, a8⟩ := a
    have b1 : (h == 2) = false := by simpa using a1
    have b2 : (h == 258) = false := by simpa using a2
    have b3 : (h == 514) = false := by simpa using a3
    have b4 : (h == 1536) = false := by simpa using a4
    have b5 : (h == 1537) = false := by simpa using a5
    have b6 : (h == 1538) = false := by simpa using a6
    have b7 : (h == 1539) = false := by simpa using a7
    have b8 : (h == 780) = false := by simpa using a8
    clear a1 a2 a3 a4 a5 a6 a7 a8
    go_wp2
    go_ret2
    exact ⟨by rw [HH.out, HK.out]; rfl, HL.out⟩
set_option maxHeartbeats 2000000 in
set_option maxRecDepth 100000 in
theorem io_is (w : World) (l : List Int) (k : Int) (hl : l.length = 8) (ho : Oct l) :
    Calls Tryd.prog 107 #[.agg (u8s l).toArray, .int .i64 k] w fun e w' => e = .returned (.bool (decide ((kf (hd l)).1 = k))) ∧ Below w.heap.size w w' := by
  have HB := Lib.hid (Blk.new w 52 (u8s l).toArray)
  have HL := Lib.hid ((Below.refl w.heap.size w).alloc (Nat.le_refl _) (.cells (u8s l).toArray 52))
  go_enter Tryd.func107, Tryd.ntmps107
  go_wp2_with (refine comm_fetch rfl _ rfl w.heap.size 0 l hl rfl HB.out.range ?_)
  refine (ko_is _ l hl ho).mono ?_
  rintro e w1 ⟨rfl, hB⟩
  have HL1 := Lib.hid (HL.out.trans (hB.mono (by simp)))
  clear hB HB HL
  generalize hA : (kf (hd l)).1 = a
  have HA := Lib.hid hA
  clear hA
  generalize (kf (hd l)).2 = b
  go_wp2
  go_ret
  exact ⟨by rw [HA.out]; simp [BEq.beq], HL1.out⟩
def tnA (f : Int) (l : List Int) : Int := if f = 0 then numOf (seg l 2 2) else numOf (seg l 2 4)
def tnN (f : Int) (l : List Int) : Int := if f = 0 then numOf (seg l 4 4) else numOf (seg l 6 2)
set_option maxHeartbeats 2000000 in
set_option maxRecDepth 100000 in
theorem tn_is (w : World) (l : List Int) (f : Int) (hl : l.length = 8) (ho : Oct l) :
    Calls Tryd.prog 94 #[.agg (u8s l).toArray, .int .i64 f] w fun e w' => e = .returned (.tuple #[.int .u32 (tnA f l), .int .u32 (tnN f l)]) ∧ Below w.heap.size w w' := by
  have HB := Lib.hid (Blk.new w 52 (u8s l).toArray)
  have HL := Lib.hid ((Below.refl w.heap.size w).alloc (Nat.le_refl _) (.cells (u8s l).toArray 52))
  by_cases hf : f = 0
  · subst hf
    go_enter Tryd.func94, Tryd.ntmps94
    go_wp2
    refine wp_region_held_drew (S := fun w' => Blk w' w.heap.size 52 (u8s l).toArray ∧ Below w.heap.size w w') (by kernel_rfl) (⟨HB.out, below_drewN HL.out 1⟩) (fun hS => ?_)
    refine wpAnyH_take (i := 0) (oi := ⟨some 8, _, _, _, _, _⟩) (v := ?_) rfl (by kernel_rfl) (by kernel_rfl) (by kernel_rfl) (fun _ _ _ h => h) (Or.inl ⟨by rfl, ?_⟩) hS ?_
    rotate_left
    · intro wq hq
      first | (go_simp; done) | (go_simp; rfl)
    try simp only [Act.put, List.setIfInBounds_toArray, List.set_cons_zero, List.set_cons_succ]
    refine wpAnyH_take (i := 2) (oi := ⟨some 10, _, _, _, _, _⟩) (v := ?_) rfl (by kernel_rfl) (by kernel_rfl) (by kernel_rfl) (fun _ _ _ h => h) (Or.inl ⟨by rfl, ?_⟩) hS ?_
    rotate_left
    · intro wq hq
      first | (go_simp; done) | (go_simp; rfl)
    try simp only [Act.put, List.setIfInBounds_toArray, List.set_cons_zero, List.set_cons_succ]
    refine wpAnyH_ready (rs := [1]) (by kernel_rfl) (by simp) ?_
    refine AllReadyH.cons (o := ⟨some 9, _, _, _, _, _⟩) rfl (fun K hK => ?_) AllReadyH.nil
    rw [if_pos (by rfl)]
    go_wp2_with fail
    refine (cnum_is _ _ _ 2 6 (seg l 2 2) (rd_comm hS.1 ho 2 2 (by omega)) (by omega)).mono ?_
    rintro e w1 ⟨rfl, rfl⟩
    have hS1 := hS
    refine hK.out _ _ (hS1) (fun hS => ?_)
    clear hK K
    try simp only [Act.put, List.setIfInBounds_toArray, List.set_cons_zero, List.set_cons_succ]
    refine wpAnyH_ready (rs := [3]) (by kernel_rfl) (by simp) ?_
    refine AllReadyH.cons (o := ⟨some 11, _, _, _, _, _⟩) rfl (fun K hK => ?_) AllReadyH.nil
    rw [if_pos (by rfl)]
    go_wp2_with fail
    refine (cnum_is _ _ _ 4 4 (seg l 4 4) (rd_comm hS.1 ho 4 4 (by omega)) (by omega)).mono ?_
    rintro e w1 ⟨rfl, rfl⟩
    refine hK.out _ _ (hS1) (fun hS => ?_)
    clear hK K
    try simp only [Act.put, List.setIfInBounds_toArray, List.set_cons_zero, List.set_cons_succ]
    refine wpAnyH_take (i := 4) (oi := ⟨some 4, _, _, _, _, _⟩) (v := ?_) rfl (by kernel_rfl) (by kernel_rfl) (by kernel_rfl) (fun _ _ _ h => h) (Or.inl ⟨by rfl, ?_⟩) hS ?_
    rotate_left
    · intro wq hq
      first | (go_simp; done) | (go_simp; rfl)
    try simp only [Act.put, List.setIfInBounds_toArray, List.set_cons_zero, List.set_cons_succ]
    refine wpAnyH_take (i := 5) (oi := ⟨some 5, _, _, _, _, _⟩) (v := ?_) rfl (by kernel_rfl) (by kernel_rfl) (by kernel_rfl) (fun _ _ _ h => h) (Or.inl ⟨by rfl, ?_⟩) hS ?_
    rotate_left
    · intro wq hq
      first | (go_simp; done) | (go_simp; rfl)
    try simp only [Act.put, List.setIfInBounds_toArray, List.set_cons_zero, List.set_cons_succ]
    refine wpAnyH_done (by kernel_rfl) ?_ _
    go_wp2
    go_ret2
    exact ⟨rfl, hS.2⟩
  · have hb : (f == 0) = false := by simpa using hf
    have HA : Hid (tnA f l = numOf (seg l 2 4)) := Lib.hid (by unfold tnA; rw [if_neg hf])
    have HN : Hid (tnN f l = numOf (seg l 6 2)) := Lib.hid (by unfold tnN; rw [if_neg hf])
    clear hf
    go_enter Tryd.func94, Tryd.ntmps94
    go_wp2
    refine wp_region_held_drew (S := fun w' => Blk w' w.heap.size 52 (u8s l).toArray ∧ Below w.heap.size w w') (by kernel_rfl) (⟨HB.out, below_drewN HL.out 1⟩) (fun hS => ?_)
    refine wpAnyH_take (i := 0) (oi := ⟨some 12, _, _, _, _, _⟩) (v := ?_) rfl (by kernel_rfl) (by kernel_rfl) (by kernel_rfl) (fun _ _ _ h => h) (Or.inl ⟨by rfl, ?_⟩) hS ?_
    rotate_left
    · intro wq hq
      first | (go_simp; done) | (go_simp; rfl)
    try simp only [Act.put, List.setIfInBounds_toArray, List.set_cons_zero, List.set_cons_succ]
    refine wpAnyH_take (i := 2) (oi := ⟨some 14, _, _, _, _, _⟩) (v := ?_) rfl (by kernel_rfl) (by kernel_rfl) (by kernel_rfl) (fun _ _ _ h => h) (Or.inl ⟨by rfl, ?_⟩) hS ?_
    rotate_left
    · intro wq hq
      first | (go_simp; done) | (go_simp; rfl)
    try simp only [Act.put, List.setIfInBounds_toArray, List.set_cons_zero, List.set_cons_succ]
    refine wpAnyH_ready (rs := [1]) (by kernel_rfl) (by simp) ?_
    refine AllReadyH.cons (o := ⟨some 13, _, _, _, _, _⟩) rfl (fun K hK => ?_) AllReadyH.nil
    rw [if_pos (by rfl)]
    go_wp2_with fail
    refine (cnum_is _ _ _ 4 6 (seg l 2 4) (rd_comm hS.1 ho 2 4 (by omega)) (by omega)).mono ?_
    rintro e w1 ⟨rfl, rfl⟩
    have hS1 := hS
    refine hK.out _ _ (hS1) (fun hS => ?_)
    clear hK K
    try simp only [Act.put, List.setIfInBounds_toArray, List.set_cons_zero, List.set_cons_succ]
    refine wpAnyH_ready (rs := [3]) (by kernel_rfl) (by simp) ?_
    refine AllReadyH.cons (o := ⟨some 15, _, _, _, _, _⟩) rfl (fun K hK => ?_) AllReadyH.nil
    rw [if_pos (by rfl)]
    go_wp2_with fail
    refine (cnum_is _ _ _ 2 2 (seg l 6 2) (rd_comm hS.1 ho 6 2 (by omega)) (by omega)).mono ?_
    rintro e w1 ⟨rfl, rfl⟩
    refine hK.out _ _ (hS1) (fun hS => ?_)
    clear hK K
    try simp only [Act.put, List.setIfInBounds_toArray, List.set_cons_zero, List.set_cons_succ]
    refine wpAnyH_take (i := 4) (oi := ⟨some 4, _, _, _, _, _⟩) (v := ?_) rfl (by kernel_rfl) (by kernel_rfl) (by kernel_rfl) (fun _ _ _ h => h) (Or.inl ⟨by rfl, ?_⟩) hS ?_
    rotate_left
    · intro wq hq
      first | (go_simp; done) | (go_simp; rfl)
    try simp only [Act.put, List.setIfInBounds_toArray, List.set_cons_zero, List.set_cons_succ]
    refine wpAnyH_take (i := 5) (oi := ⟨some 5, _, _, _, _, _⟩) (v := ?_) rfl (by kernel_rfl) (by kernel_rfl) (by kernel_rfl) (fun _ _ _ h => h) (Or.inl ⟨by rfl, ?_⟩) hS ?_
    rotate_left
    · intro wq hq
      first | (go_simp; done) | (go_simp; rfl)
    try simp only [Act.put, List.setIfInBounds_toArray, List.set_cons_zero, List.set_cons_succ]
    refine wpAnyH_done (by kernel_rfl) ?_ _
    go_wp2
    go_ret2
    exact ⟨by rw [HA.out, HN.out]; rfl, hS.2⟩
theorem and_1 : ∀ x : Fin 256, bits .and .u8 (x.val : Int) 1 = (x.val : Int) % 2 := by decide +kernel
theorem and1_8 (x : Int) (h0 : 0 ≤ x) (h1 : x < 256) : bits .and .u8 x 1 = x % 2 := by
  obtain ⟨m, rfl⟩ := Int.eq_ofNat_of_zero_le h0
  exact and_1 ⟨m, by omega⟩
def flagOf (l : List Int) : Bool := decide (l.getD 2 0 % 2 = 1)
set_option maxHeartbeats 2000000 in
set_option maxRecDepth 100000 in
theorem isf_is (w : World) (l : List Int) (hl : l.length = 8) (ho : Oct l) :
    Calls Tryd.prog 95 #[.agg (u8s l).toArray] w fun e w' => e = .returned (.bool (flagOf l)) ∧ Below w.heap.size w w' := by
  have hc : (w.alloc (.cells (u8s l).toArray 52)).cell? ⟨w.heap.size, 2, none⟩ = some (.int .u8 (l.getD 2 0)) := by
    rw [(Blk.new w 52 (u8s l).toArray).cell]
    simp [List.getD, show 2 < l.length by omega]
  have HL := Lib.hid ((Below.refl w.heap.size w).alloc (Nat.le_refl _) (.cells (u8s l).toArray 52))
  have hx := ho.getD 2
  have ha := and1_8 _ hx.1 hx.2
  have HF : Hid (flagOf l = decide (l.getD 2 0 % 2 = 1)) := Lib.hid rfl
  generalize flagOf l = F at *
  generalize l.getD 2 0 = x at *
  rcases (show x % 2 = 0 ∨ x % 2 = 1 by omega) with h | h
  · rw [h] at ha HF
    clear h
    go_enter Tryd.func95, Tryd.ntmps95
    go_wp2
    go_ret
    exact ⟨by rw [HF.out]; rfl, HL.out⟩
  · rw [h] at ha HF
    clear h
    go_enter Tryd.func95, Tryd.ntmps95
    go_wp2
    go_ret
    exact ⟨by rw [HF.out]; rfl, HL.out⟩
theorem seg_cell (l : List Int) (k m j : Nat) (hk : k + m ≤ l.length) (hj : j < m) : (seg l k m)[j]'(by rw [seg_len l k m hk]; exact hj) = l.getD (k + j) 0 := by
  simp [seg, List.getD, show k + j < l.length by omega]
set_option maxHeartbeats 2000000 in
set_option maxRecDepth 100000 in
theorem rnum_is' (w : World) (l : List Int) (k m : Nat) (hl : l.length = 8) (ho : Oct l) (hk : k + m ≤ 8) (hm1 : 1 ≤ m) (hm : m ≤ 4) (t : Int) (ht : t = (k + m - 1 : Nat)) :
    Calls Tryd.prog 97 #[.agg (u8s l).toArray, .int .i64 k, .int .i64 t] w fun e w' => e = .returned (.int .u32 (numOf (seg l k m))) ∧ Below w.heap.size w w' := by
  have HB := Lib.hid (Blk.new w 52 (u8s l).toArray)
  have HL := Lib.hid ((Below.refl w.heap.size w).alloc (Nat.le_refl _) (.cells (u8s l).toArray 52))
  have HSL := Lib.hid (seg_len l k m (by omega))
  have HSO := Lib.hid (seg_oct l k m ho)
  subst ht
  have htt : ((k + m - 1 : Nat) : Int) = (k : Int) + m - 1 := by omega
  rw [htt]
  clear htt
  go_enter Tryd.func97, Tryd.ntmps97
  go_wp2
  go_loop [7, 8] (fun s i => ∃ j : Nat, j ≤ m ∧ i = .int .i64 ((k + j : Nat) : Int) ∧ s = .int .u32 (numOf ((seg l k m).take j))) (fun _ i => (k + m - intOf i).toNat)
  case atStart => exact ⟨0, by omega, rfl, rfl⟩
  case round =>
    obtain ⟨j, hj, rfl, rfl⟩ := hrel
    by_cases hlt : j < m
    · have hsl := HSL.out
      have hbd := numOf_bd_take (seg l k m) HSO.out j (by omega)
      have hp := pow256_3 j (by omega)
      have hst : numOf ((seg l k m).take (j + 1)) = numOf ((seg l k m).take j) * 256 + l.getD (k + j) 0 := by
        rw [List.take_succ_eq_append_getElem (by omega), numOf_snoc, seg_cell l k m j (by omega) hlt]
      have hx := ho.getD (k + j)
      have hc : (w.alloc (.cells (u8s l).toArray 52)).cell? ⟨w.heap.size, k + j, none⟩ = some (.int .u8 (l.getD (k + j) 0)) := by
        rw [HB.out.cell]
        simp [List.getD, show k + j < l.length by omega]
      obtain ⟨N2, hN2⟩ : ∃ N2, N2 = numOf ((seg l k m).take (j + 1)) := ⟨_, rfl⟩
      have HN2 := Lib.hid hN2
      rw [← hN2] at hst
      clear hN2
      generalize numOf ((seg l k m).take j) = N at *
      generalize l.getD (k + j) 0 = x at *
      have hN : N < 16777216 := by omega
      have hN0 := hbd.1
      have hle : ((k + j : Nat) : Int) ≤ (k : Int) + m - 1 := by omega
      have hq8 : ((k + j : Nat) : Int) < 8 := by omega
      have HI : Hid (((k + j : Nat) : Int) + 1 = ((k + (j + 1) : Nat) : Int)) := Lib.hid (by omega)
      have HE : Hid ((N * 256 % 4294967296 + x % 4294967296) % 4294967296 = N2) := Lib.hid (by omega)
      have HE2 : Hid (N * 256 + x = N2) := Lib.hid (by omega)
      have HM : Hid (((k : Int) + m - ((k + (j + 1) : Nat) : Int)).toNat < ((k : Int) + m - ((k + j : Nat) : Int)).toNat) := Lib.hid (by omega)
      clear hst hbd hp hsl
      generalize k + j = q at *
      go_wp2
      exact ⟨⟨j + 1, by omega, by simp only [Value.int.injEq, true_and]; exact HI.out, by rw [← HN2.out]; simp only [Value.int.injEq, true_and]; first | exact HE.out | exact HE2.out⟩, by simp only [intOf]; rw [HI.out]; exact HM.out⟩
    · obtain rfl : j = m := by omega
      have hsl := HSL.out
      rw [List.take_of_length_le (by omega)]
      have hgt : ¬ ((k + j : Nat) : Int) ≤ (k : Int) + j - 1 := by omega
      clear hsl
      generalize k + j = q at *
      go_wp2
      go_ret
      exact ⟨rfl, HL.out⟩
end Go.Proofs.YtkaimdcepnhkdaaDoor
