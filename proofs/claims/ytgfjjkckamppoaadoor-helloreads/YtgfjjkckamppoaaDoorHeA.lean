/-
  Layer 8: words for hellos; contracts of the small functions.
-/
import Derived.Test.YtgfjjkckamppoaaDoorNlD
import Derived.Test.YtgfjjkckamppoaaDoorOctE
namespace Go.Proofs.YtgfjjkckamppoaaDoor
open Go.RowKit
set_option maxRecDepth 100000
set_option linter.unusedSimpArgs false
set_option linter.unusedVariables false

/-- A hello. -/
structure Hl where
  as_ : Int
  hold : Int
  id_ : Int
  ev : Bool
  wd : Bool
  rf : Bool
/-- Its cells. -/
def hlc (h : Hl) : List Value := [.int .u32 h.as_, .int .i64 h.hold, .int .u32 h.id_, .bool h.ev, .bool h.wd, .bool h.rf]
structure HlOk (h : Hl) : Prop where
  as_ : 0 ≤ h.as_ ∧ h.as_ < 4294967296
  hold : -9223372036854775808 ≤ h.hold ∧ h.hold < 9223372036854775808
  id_ : 0 ≤ h.id_ ∧ h.id_ < 4294967296
def hl0 : Hl := ⟨0, 0, 0, false, false, false⟩
theorem hl0_ok : HlOk hl0 := ⟨by decide, by decide, by decide⟩
abbrev HlAt (w : World) (g : Nat) (h : Hl) : Prop := Blk w g 24 (hlc h).toArray
theorem hlc_one (h : Hl) : ((hlc h).toArray.all fun v => v.oneCell') = true := by kernel_rfl
theorem hsz : (Tryd.prog.info? 24).map (·.size) = some 6 := by kernel_rfl
theorem fsz : (Tryd.prog.info? 34).map (·.size) = some 3 := by kernel_rfl
theorem h_fetch {ops : Array Oper} {rest : List Oper} {op : Oper} {a : Act} {w : World} {Q : Exit → Act → World → Prop} (hw : Region.wanted op (yielded ops a.tmps) = true) (x : Operand) (ho : op.op = .load 24 x)
    (g : Nat) (h : Hl) (t : TypeId) (hx : a.eval x = .pointer (some ⟨g, 0, none⟩)) (hc : Blk w g t (hlc h).toArray) (k : wpList Tryd.prog ops Q rest (a.put op.dst (.agg (hlc h).toArray)) w) : wpList Tryd.prog ops Q (op :: rest) a w :=
  BigFrame.wpList_want hw fun _ hK => wp_load_mid 24 x ho g 0 hx (hlc h) _ hc.range Tryd.underlying24 rfl hsz (hK _ _ k)
theorem h_store {ops : Array Oper} {rest : List Oper} {o : Oper} {a : Act} {w : World} {Q : Exit → Act → World → Prop} (hgd : o.guard = none) (x y : Operand) (ho : o.op = .store 24 x y) (g : Nat) (h : Hl)
    (hx : a.eval x = .pointer (some ⟨g, 0, none⟩)) (hy : a.eval y = .agg (hlc h).toArray) (t : TypeId) (old : Array Value) (hg : Blk w g t old) (hold : old.size = 6)
    (k : wpList Tryd.prog ops Q rest (a.put o.dst undef) (w.setRow g (hlc h).toArray)) : wpList Tryd.prog ops Q (o :: rest) a w :=
  wpList_store_row hgd 24 x y ho g _ hx hy t old hg hsz (by rw [hold]; rfl) (hlc_one h) k
/-- A fault's cells. -/
def ftc (f : Int × Int × Option Addr × Nat × Nat) : Array Value := #[.int .i64 f.1, .int .i64 f.2.1, .slice f.2.2.1 f.2.2.2.1 f.2.2.2.2]
theorem f_store {ops : Array Oper} {rest : List Oper} {o : Oper} {a : Act} {w : World} {Q : Exit → Act → World → Prop} (hgd : o.guard = none) (x y : Operand) (ho : o.op = .store 34 x y) (g : Nat) (c s : Int) (A : Option Addr) (n k : Nat)
    (hx : a.eval x = .pointer (some ⟨g, 0, none⟩)) (hy : a.eval y = .agg #[.int .i64 c, .int .i64 s, .slice A n k]) (t : TypeId) (old : Array Value) (hg : Blk w g t old) (hold : old.size = 3)
    (h : wpList Tryd.prog ops Q rest (a.put o.dst undef) (w.setRow g #[.int .i64 c, .int .i64 s, .slice A n k])) : wpList Tryd.prog ops Q (o :: rest) a w :=
  wpList_store_row hgd 34 x y ho g _ hx hy t old hg fsz (by rw [hold]; rfl) (by kernel_rfl) h
theorem f_fetch {ops : Array Oper} {rest : List Oper} {op : Oper} {a : Act} {w : World} {Q : Exit → Act → World → Prop} (hw : Region.wanted op (yielded ops a.tmps) = true) (x : Operand) (ho : op.op = .load 34 x)
    (g : Nat) (c s : Int) (A : Option Addr) (n m : Nat) (t : TypeId) (hx : a.eval x = .pointer (some ⟨g, 0, none⟩)) (hc : Blk w g t #[.int .i64 c, .int .i64 s, .slice A n m]) (k : wpList Tryd.prog ops Q rest (a.put op.dst (.agg #[.int .i64 c, .int .i64 s, .slice A n m])) w) : wpList Tryd.prog ops Q (op :: rest) a w :=
  BigFrame.wpList_want hw fun _ hK => wp_load_mid 34 x ho g 0 hx [.int .i64 c, .int .i64 s, .slice A n m] _ (Blk.range hc) Tryd.underlying34 rfl fsz (hK _ _ k)

/-- Three results: two variables of several cells, and a slot. -/
theorem results_cells3 {P : Program} {fn : Func} {p q r : Tmp} {ty ty2 : TypeId} (h : fn.results = #[.cell p ty, .cell q ty2, .tmp r]) (tmps : Array Value) (w : World) (g g2 : Nat) (t t2 : TypeId) (cs cs2 : Array Value) (d d2 : TypeDesc) (u : Value)
    (hp : tmps.getD p undef = .pointer (some ⟨g, 0, none⟩)) (hq : tmps.getD q undef = .pointer (some ⟨g2, 0, none⟩)) (hr : tmps.getD r undef = u) (hg : Blk w g t cs) (hg2 : Blk w g2 t2 cs2)
    (hu : P.underlying ty = some d) (hd : (match d with | .struct _ | .array _ _ => true | _ => false) = true) (hi : (P.info? ty).map (·.size) = some cs.size)
    (hu2 : P.underlying ty2 = some d2) (hd2 : (match d2 with | .struct _ | .array _ _ => true | _ => false) = true) (hi2 : (P.info? ty2).map (·.size) = some cs2.size) :
    (results fn tmps).run P w = .ok (.tuple #[.agg cs, .agg cs2, u]) w := by
  have hp' : tmps[p]?.getD undef = .pointer (some ⟨g, 0, none⟩) := by simpa using hp
  have hq' : tmps[q]?.getD undef = .pointer (some ⟨g2, 0, none⟩) := by simpa using hq
  have hr' : tmps[r]?.getD undef = u := by simpa using hr
  simp [results, h, hp', hq', hr', asAddr, run_loadVar_row w g t ty cs (0, 0) d hg hu hd hi, run_loadVar_row w g2 t2 ty2 cs2 (0, 0) d2 hg2 hu2 hd2 hi2]

/-- The family's bytes lie where the program's text lays them. -/
structure EnvF (w : World) : Prop where
  at_ : w.rangeAt 0 0 [.int .u8 0, .int .u8 25, .int .u8 0, .int .u8 70]
  lt : 0 < w.heap.size
theorem EnvF.below {w w' : World} (h : EnvF w) (hb : Below w.heap.size w w') : EnvF w' := ⟨fun j v hv => (hb.cell (p := ⟨0, 0 + j, none⟩) h.lt).trans (h.at_ j v hv), Nat.lt_of_lt_of_le h.lt hb.size⟩
theorem EnvF.low {w w' : World} {B : Nat} (h : EnvF w) (hb : Below B w w') (hB : 0 < B) : EnvF w' := ⟨fun j v hv => (hb.cell (p := ⟨0, 0 + j, none⟩) hB).trans (h.at_ j v hv), Nat.lt_of_lt_of_le h.lt hb.size⟩
theorem EnvF.grown {w w' : World} {g : Nat} (h : EnvF w) (hb : w.grownBy w' (some g)) (hg : 0 < g) : EnvF w' :=
  ⟨fun j v hv => (World.cell?_of_block (a := ⟨0, 0 + j, none⟩) (hb.block 0 h.lt (fun e => by injection e; omega))).trans (h.at_ j v hv), Nat.lt_of_lt_of_le h.lt hb.size⟩
abbrev fam : List Int := [0, 25, 0, 70]
theorem fam_oct : Oct fam := by intro x hx; simp at hx; omega
theorem below_one8 (W : World) (o : Obj) : Below W.heap.size W (W.alloc o) := (Below.refl _ _).alloc (Nat.le_refl _) _
theorem below_drew8 (W : World) : Below W.heap.size W W.drew := below_drewN (Below.refl _ _) 1

set_option maxHeartbeats 1000000 in
theorem family_is (w : World) (E : EnvF w) : Calls Tryd.prog 57 #[] w fun e w' => e = .returned (.slice (some ⟨w.heap.size, 0, none⟩) 4 4) ∧ Byt w' w.heap.size 85 fam ∧ Below w.heap.size w w' := by
  have c0 : w.cell? ⟨0, 0, none⟩ = some (.int .u8 0) := E.at_ 0 _ rfl
  have c1 : w.cell? ⟨0, 1, none⟩ = some (.int .u8 25) := E.at_ 1 _ rfl
  have c2 : w.cell? ⟨0, 2, none⟩ = some (.int .u8 0) := E.at_ 2 _ rfl
  have c3 : w.cell? ⟨0, 3, none⟩ = some (.int .u8 70) := E.at_ 3 _ rfl
  have hlt := E.lt
  clear E
  go_enter Tryd.func57, Tryd.ntmps57
  go_wp2
  go_ret
  exact ⟨rfl, Blk.new w 85 #[.int .u8 0, .int .u8 25, .int .u8 0, .int .u8 70], below_one8 _ _⟩

def shA (n : Int) : Int := if 65535 < n then 23456 else n
theorem shortAs_is (w : World) (n : Int) : Calls Tryd.prog 37 #[.int .u32 n] w fun e w' => e = .returned (.int .u32 (shA n)) ∧ w = w' := by
  by_cases h : 65535 < n
  · have hE : Hid (23456 = shA n) := Lib.hid (by unfold shA; rw [if_pos h])
    go_enter Tryd.func37, Tryd.ntmps37
    go_wp2
    go_ret
    exact ⟨by rw [← hE.out]; rfl, rfl⟩
  · have hE : Hid (n = shA n) := Lib.hid (by unfold shA; rw [if_neg h])
    go_enter Tryd.func37, Tryd.ntmps37
    go_wp2
    go_ret
    exact ⟨by rw [← hE.out]; rfl, rfl⟩
theorem isByteH_is (w : World) (n : Int) : Calls Tryd.prog 61 #[.int .i64 n] w fun e w' => e = .returned (.bool (decide (0 ≤ n ∧ n ≤ 255))) ∧ w = w' := by
  by_cases h0 : 0 ≤ n
  · by_cases h1 : n ≤ 255
    · go_enter Tryd.func61, Tryd.ntmps61
      go_wp2
      go_ret
      exact ⟨by simp [h0, h1], rfl⟩
    · go_enter Tryd.func61, Tryd.ntmps61
      go_wp2
      go_ret
      exact ⟨by simp [h1], rfl⟩
  · go_enter Tryd.func61, Tryd.ntmps61
    go_wp2
    go_ret
    exact ⟨by simp [show ¬ 0 ≤ n by omega], rfl⟩
/-- A third, rounded down. -/
def thd (n : Int) : Int := n / 3
theorem tdiv3 (n : Int) : (0 ≤ n ∧ n.tdiv 3 = n / 3 ∧ n.tmod 3 = n % 3) ∨ (n < 0 ∧ n.tdiv 3 = -((-n) / 3) ∧ n.tmod 3 = -((-n) % 3)) := by
  rcases Int.lt_or_le n 0 with h | h
  · obtain ⟨m, rfl⟩ : ∃ m : Int, n = -m := ⟨-n, by omega⟩
    refine Or.inr ⟨h, ?_, ?_⟩
    · rw [Int.neg_tdiv, Int.tdiv_eq_ediv_of_nonneg (by omega), Int.neg_neg]
    · rw [Int.neg_tmod, Int.tmod_eq_emod_of_nonneg (by omega), Int.neg_neg]
  · exact Or.inl ⟨h, Int.tdiv_eq_ediv_of_nonneg h, Int.tmod_eq_emod_of_nonneg h⟩
set_option maxHeartbeats 1000000 in
theorem third_is (w : World) (n : Int) (hn : -9223372036854775808 ≤ n ∧ n < 9223372036854775808) : Calls Tryd.prog 58 #[.int .i64 n] w fun e w' => e = .returned (.int .i64 (thd n)) ∧ w = w' := by
  have h3 := tdiv3 n
  have hr : IntKind.i64.wrap (n.tmod 3) = n.tmod 3 := by rw [IntKind.wrap_i64]; omega
  have hq : IntKind.i64.wrap (n.tdiv 3) = n.tdiv 3 := by rw [IntKind.wrap_i64]; omega
  by_cases h : n.tmod 3 < 0
  · have hE : Hid (n.tdiv 3 - 1 = thd n) := Lib.hid (by unfold thd; omega)
    have hlo : -9223372036854775808 ≤ n.tdiv 3 - 1 ∧ n.tdiv 3 - 1 ≤ 9223372036854775807 := by omega
    clear hn h3
    go_enter Tryd.func58, Tryd.ntmps58
    go_wp2
    go_ret
    exact ⟨by rw [← hE.out]; rfl, rfl⟩
  · have hE : Hid (n.tdiv 3 = thd n) := Lib.hid (by unfold thd; omega)
    clear hn h3
    go_enter Tryd.func58, Tryd.ntmps58
    go_wp2
    go_ret
    exact ⟨by rw [← hE.out]; rfl, rfl⟩

theorem fault_is (w : World) (s : Int) (A : Option Addr) (n c : Nat) : Calls Tryd.prog 55 #[.int .i64 s, .slice A n c] w fun e w' => e = .returned (.agg #[.int .i64 2, .int .i64 s, .slice A n c]) ∧ Below w.heap.size w w' := by
  have HN := Lib.hid (Blk.new w 34 #[.int .i64 0, .int .i64 0, .slice none 0 0])
  have HB := Lib.hid (below_one8 w (.cells #[.int .i64 0, .int .i64 0, .slice none 0 0] 34))
  go_enter Tryd.func55, Tryd.ntmps55
  go_wp2_with (refine f_store rfl _ _ rfl w.heap.size 2 s A n c rfl rfl 34 _ HN.out rfl ?_)
  try simp only [Exit.inBlock, Exit.then]
  exact bodyPost_ret (results_cell_row rfl _ _ w.heap.size 34 _ (0, 0) _ rfl (Blk.setRow HN.out _) Tryd.underlying34 rfl fsz) rfl ⟨rfl, HB.out.trans (below_setRow _ _ _ (Nat.le_refl _))⟩

/-- Bytes that are read, and nothing else has turned. -/
def Bts (w : World) (l : List Int) (e : Ending) (w' : World) : Prop := ∃ A c, e = .returned (.slice A l.length c) ∧ l.length ≤ c ∧ Rd w' w'.heap.size A l.length l ∧ Below w.heap.size w w'
theorem numb_is (w : World) (n : Int) (s : Nat) (h0 : 0 ≤ n) (h1 : 1 ≤ s) (h8 : s ≤ 8) (hf : n < 256 ^ s) (hn : n < 18446744073709551616) : Calls Tryd.prog 36 #[.int .u64 n, .int .i64 s] w (Bts w (be s n)) := by
  have HP := Lib.hid (put_fits w none 0 0 [] n s (Rd.nil_ none) (by omega) h0 hn (by omega) (by omega) (by simpa using hf))
  clear hf
  go_enter Tryd.func36, Tryd.ntmps36
  go_wp2_with fail
  refine HP.out.mono ?_
  rintro e w1 ⟨rfl, hb, hB⟩
  have hb2 := hb.rd_all (B := w1.heap.size) (fun x hx => be_oct _ _ x (by simpa using hx)) hb.lt
  have HEnd : Hid (Bts w (be s n) (.returned (.slice (some ⟨w.heap.size, 0, none⟩) s s)) w1) := Lib.hid ⟨_, s, by rw [be_len], by rw [be_len]; omega, by simpa [be_len] using hb2, hB⟩
  clear hb hB hb2
  simp only [List.length_nil, Nat.zero_add, Int.toNat_natCast]
  go_wp2
  go_ret
  exact HEnd.out
end Go.Proofs.YtgfjjkckamppoaaDoor
