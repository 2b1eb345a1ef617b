/-
  Put together: AtA AtB AtM AtR AtE AtF.
-/
import Derived.Test.YtdgoeibfggjbmaaGreatDoorMO
import Derived.Maps.AppendAt
import Derived.OwnWalk
import Derived.Laws.AppendOwnNone
namespace Go.Proofs.YtdgoeibfggjbmaaGreatDoor
open Go.RowKit
set_option maxRecDepth 100000
set_option linter.unusedSimpArgs false
set_option linter.unusedVariables false

def kAt : Nat → Int × Int × Int
  | 0 => (1, 64, 2) | 1 => (2, 64, 2) | 2 => (3, 64, 2) | 3 => (4, 128, 2) | 4 => (5, 64, 2) | 5 => (6, 64, 1) | 6 => (7, 192, 1) | 7 => (9, 128, 2) | 8 => (10, 128, 2) | 9 => (14, 128, 3) | 10 => (15, 128, 3) | 11 => (16, 192, 2) | 12 => (22, 192, 2) | _ => (0, 0, 0)
def knownC : List Value := (List.range 13).flatMap fun i => [.int .i64 (kAt i).1, .int .i64 (kAt i).2.1, .int .i64 (kAt i).2.2]
def bnd (k : Int) : Option (Int × Int) :=
  if k = 1 ∨ k = 2 ∨ k = 3 ∨ k = 5 then some (64, 2) else if k = 6 then some (64, 1) else if k = 4 ∨ k = 9 ∨ k = 10 then some (128, 2)
  else if k = 14 ∨ k = 15 then some (128, 3) else if k = 7 then some (192, 1) else if k = 16 ∨ k = 22 then some (192, 2) else none
theorem bnd_at : ∀ m, m < 13 → bnd (kAt m).1 = some ((kAt m).2.1, (kAt m).2.2) := by decide
theorem bnd_no {k : Int} (h : ∀ j, j < 13 → (kAt j).1 ≠ k) : bnd k = none := by
  have h0 := h 0 (by omega); have h1 := h 1 (by omega); have h2 := h 2 (by omega); have h3 := h 3 (by omega); have h4 := h 4 (by omega); have h5 := h 5 (by omega); have h6 := h 6 (by omega)
  have h7 := h 7 (by omega); have h8 := h 8 (by omega); have h9 := h 9 (by omega); have h10 := h 10 (by omega); have h11 := h 11 (by omega); have h12 := h 12 (by omega)
  simp only [kAt] at *
  unfold bnd
  rw [if_neg (by omega), if_neg (by omega), if_neg (by omega), if_neg (by omega), if_neg (by omega), if_neg (by omega)]
structure EnvK (w : World) : Prop where
  at_ : w.rangeAt 0 0 knownC
  lt : 0 < w.heap.size
theorem EnvK.below {w w' : World} (h : EnvK w) (hb : Below w.heap.size w w') : EnvK w' := ⟨fun j v hv => (hb.cell (p := ⟨0, 0 + j, none⟩) h.lt).trans (h.at_ j v hv), Nat.lt_of_lt_of_le h.lt hb.size⟩
theorem EnvK.low {w w' : World} {B : Nat} (h : EnvK w) (hb : Below B w w') (hB : 0 < B) : EnvK w' := ⟨fun j v hv => (hb.cell (p := ⟨0, 0 + j, none⟩) hB).trans (h.at_ j v hv), Nat.lt_of_lt_of_le h.lt hb.size⟩
theorem EnvK.grown {w w' : World} {g : Nat} (h : EnvK w) (hb : w.grownBy w' (some g)) (hg : 0 < g) : EnvK w' :=
  ⟨fun j v hv => (World.cell?_of_block (a := ⟨0, 0 + j, none⟩) (hb.block 0 h.lt (fun e => by injection e; omega))).trans (h.at_ j v hv), Nat.lt_of_lt_of_le h.lt hb.size⟩

theorem known_fetch {ops : Array Oper} {rest : List Oper} {op : Oper} {a : Act} {w : World} {Q : Exit → Act → World → Prop} (hw : Region.wanted op (yielded ops a.tmps) = true) (x : Operand) (ho : op.op = .load 247 x)
    (hx : a.eval x = .pointer (some ⟨0, 0, none⟩)) (hc : w.rangeAt 0 0 knownC) (h : wpList Tryz.prog ops Q rest (a.put op.dst (.agg knownC.toArray)) w) : wpList Tryz.prog ops Q (op :: rest) a w :=
  BigFrame.wpList_want hw fun _ hK => wp_load_mid 247 x ho 0 0 hx knownC _ hc Tryz.underlying247 rfl (by kernel_rfl) (hK _ _ h)
theorem known_index : ∀ (k : Nat) (_ : k < 13) (W : World), (Instr.index 247 (.agg knownC.toArray) (.int .i64 (k : Int))).run Tryz.prog W = .ok (.agg #[.int .i64 (kAt k).1, .int .i64 (kAt k).2.1, .int .i64 (kAt k).2.2]) W
  | 0, _, W => by kernel_rfl
  | 1, _, W => by kernel_rfl
  | 2, _, W => by kernel_rfl
  | 3, _, W => by kernel_rfl
  | 4, _, W => by kernel_rfl
  | 5, _, W => by kernel_rfl
  | 6, _, W => by kernel_rfl
  | 7, _, W => by kernel_rfl
  | 8, _, W => by kernel_rfl
  | 9, _, W => by kernel_rfl
  | 10, _, W => by kernel_rfl
  | 11, _, W => by kernel_rfl
  | 12, _, W => by kernel_rfl
  | k + 13, h, W => absurd h (by omega)

theorem bsz : (Tryz.prog.info? 217).map (·.size) = some 3 := by kernel_rfl
theorem b_store {ops : Array Oper} {rest : List Oper} {o : Oper} {a : Act} {w : World} {Q : Exit → Act → World → Prop} (hgd : o.guard = none) (x y : Operand) (ho : o.op = .store 217 x y) (g : Nat) (r1 r2 r3 : Int)
    (hx : a.eval x = .pointer (some ⟨g, 0, none⟩)) (hy : a.eval y = .agg #[.int .i64 r1, .int .i64 r2, .int .i64 r3]) (t : TypeId) (old : Array Value) (hg : Blk w g t old) (hold : old.size = 3)
    (h : wpList Tryz.prog ops Q rest (a.put o.dst undef) (w.setRow g #[.int .i64 r1, .int .i64 r2, .int .i64 r3])) : wpList Tryz.prog ops Q (o :: rest) a w :=
  wpList_store_row hgd 217 x y ho g _ hx hy t old hg bsz (by rw [hold]; rfl) (by kernel_rfl) h

def bndV (k : Int) : Value := match bnd k with
  | some (f, c) => .tuple #[.agg #[.int .i64 k, .int .i64 f, .int .i64 c], .bool true]
  | none => .tuple #[.agg #[.int .i64 0, .int .i64 0, .int .i64 0], .bool false]

set_option maxHeartbeats 1000000 in
set_option maxRecDepth 100000 in
theorem boundsOf_is (w : World) (E : EnvK w) (k : Int) :
    Calls Tryz.prog 168 #[.int .i64 k] w fun e w' => e = .returned (bndV k) ∧ Below w.heap.size w w' := by
  have hr0 : (w.alloc (.cells #[.int .i64 0, .int .i64 0, .int .i64 0] 217)).rangeAt 0 0 knownC := (E.below ((Below.refl _ _).alloc (Nat.le_refl _) _)).at_
  have HR := Lib.hid hr0
  have HN : Hid (Blk (w.alloc (.cells #[.int .i64 0, .int .i64 0, .int .i64 0] 217)) w.heap.size 217 #[.int .i64 0, .int .i64 0, .int .i64 0]) := Lib.hid (Blk.new w 217 _)
  have HB : Hid (Below w.heap.size w (w.alloc (.cells #[.int .i64 0, .int .i64 0, .int .i64 0] 217))) := Lib.hid ((Below.refl _ _).alloc (Nat.le_refl _) _)
  clear hr0 E
  go_enter Tryz.func168, Tryz.ntmps168
  go_wp2_with (refine known_fetch rfl _ rfl rfl HR.out ?_)
  go_loopw [5, 7] (fun _ i wr => ∃ m : Nat, m ≤ 13 ∧ i = .int .i64 m ∧ Blk wr w.heap.size 217 #[.int .i64 0, .int .i64 0, .int .i64 0] ∧ Below w.heap.size w wr ∧ ∀ j, j < m → (kAt j).1 ≠ k) (fun _ i _ => 13 - (intOf i).toNat)
  case atStart => exact ⟨0, Nat.zero_le _, rfl, HN.out, HB.out, fun j hj => by omega⟩
  case round =>
    obtain ⟨m, hm, rfl, hb, hw, hno⟩ := hrel
    have HNo := Lib.hid hno
    have HW := Lib.hid hw
    have hsz := hw.size
    have hlt := hb.lt
    by_cases hlt13 : m < 13
    · have hix := known_index m hlt13
      have HBA := Lib.hid (bnd_at m hlt13)
      generalize hr : kAt m = r at *
      obtain ⟨r1, r2, r3⟩ := r
      have HK := Lib.hid hr
      simp only at hix HBA
      have hA := Blk.new wr 217 #[.int .i64 r1, .int .i64 r2, .int .i64 r3]
      have hsB : Below wr.heap.size wr (wr.alloc (.cells #[.int .i64 r1, .int .i64 r2, .int .i64 r3] 217)) := (Below.refl _ _).alloc (Nat.le_refl _) _
      have HA := Lib.hid hA
      have HB1 := Lib.hid (hb.below hsB hlt)
      have HS := Lib.hid (hw.trans (hsB.mono hsz))
      clear hno hw hb HR HN HB hr hA hsB
      by_cases he : r1 = k
      · subst he
        have e1 : (r1 == r1) = true := by simp
        go_wp2_with (first
          | (refine BigFrame.wpList_want rfl fun _ hK => wp_load_mid 217 _ rfl wr.heap.size 0 rfl [.int .i64 r1, .int .i64 r2, .int .i64 r3] _ HA.out.range Tryz.underlying217 rfl bsz (hK _ _ ?_))
          | (refine b_store rfl _ _ rfl w.heap.size r1 r2 r3 rfl rfl 217 _ HB1.out rfl ?_))
        try simp only [Exit.inBlock, Exit.then]
        refine bodyPost_ret (v := .tuple #[.agg #[.int .i64 r1, .int .i64 r2, .int .i64 r3], .bool true]) ?_ rfl ⟨by unfold bndV; rw [HBA.out], HS.out.trans (below_setRow _ _ _ (Nat.le_refl _))⟩
        exact results_cell_slot rfl _ _ w.heap.size 217 _ _ _ rfl rfl (Blk.setRow HB1.out _) Tryz.underlying217 rfl bsz
      · have e1 : (r1 == k) = false := by simpa using he
        go_wp2
        refine ⟨⟨m + 1, by omega, by go_num, HB1.out, HS.out, ?_⟩, by simp [intOf]; omega⟩
        intro j hj
        by_cases hjm : j = m
        · subst hjm; rw [HK.out]; exact he
        · exact HNo.out j (by omega)
    · obtain rfl : m = 13 := by omega
      have HBN := Lib.hid (bnd_no hno)
      have HB1 := Lib.hid hb
      clear hno hw hb HR HN HB HNo
      go_wp2_with (refine b_store rfl _ _ rfl w.heap.size 0 0 0 rfl rfl 217 _ HB1.out rfl ?_)
      try simp only [Exit.inBlock, Exit.then]
      refine bodyPost_ret (v := .tuple #[.agg #[.int .i64 0, .int .i64 0, .int .i64 0], .bool false]) ?_ rfl ⟨by unfold bndV; rw [HBN.out], HW.out.trans (below_setRow _ _ _ (Nat.le_refl _))⟩
      exact results_cell_slot rfl _ _ w.heap.size 217 _ _ _ rfl rfl (Blk.setRow HB1.out _) Tryz.underlying217 rfl bsz

theorem isByte_is (w : World) (n : Int) : Calls Tryz.prog 155 #[.int .i64 n] w fun e w' => e = .returned (.bool (decide (0 ≤ n ∧ n ≤ 255))) ∧ w = w' := by
  by_cases h0 : 0 ≤ n
  · by_cases h1 : n ≤ 255
    · go_enter Tryz.func155, Tryz.ntmps155
      go_wp2
      go_ret
      exact ⟨by simp [h0, h1], rfl⟩
    · go_enter Tryz.func155, Tryz.ntmps155
      go_wp2
      go_ret
      exact ⟨by simp [h1], rfl⟩
  · go_enter Tryz.func155, Tryz.ntmps155
    go_wp2
    go_ret
    exact ⟨by simp [show ¬ 0 ≤ n by omega], rfl⟩
theorem isOrigin_is (w : World) (n : Int) : Calls Tryz.prog 194 #[.int .i64 n] w fun e w' => e = .returned (.bool (decide (0 ≤ n ∧ n ≤ 2))) ∧ w = w' := by
  by_cases h0 : 0 ≤ n
  · by_cases h1 : n ≤ 2
    · go_enter Tryz.func194, Tryz.ntmps194
      go_wp2
      go_ret
      exact ⟨by simp [h0, h1], rfl⟩
    · go_enter Tryz.func194, Tryz.ntmps194
      go_wp2
      go_ret
      exact ⟨by simp [h1], rfl⟩
  · go_enter Tryz.func194, Tryz.ntmps194
    go_wp2
    go_ret
    exact ⟨by simp [show ¬ 0 ≤ n by omega], rfl⟩
def lng (f : Int) : Bool := bits .and .i64 f 16 != 0
def lsz (f : Int) : Nat := if lng f then 2 else 1
theorem lsz_12 (f : Int) : lsz f = 1 ∨ lsz f = 2 := by unfold lsz; split <;> simp
theorem lengthSize_is (w : World) (f : Int) : Calls Tryz.prog 156 #[.int .i64 f] w fun e w' => e = .returned (.int .i64 (lsz f : Nat)) ∧ w = w' := by
  cases h : bits .and .i64 f 16 != 0
  · have H := Lib.hid h
    go_enter Tryz.func156, Tryz.ntmps156
    go_wp2
    go_ret
    exact ⟨by unfold lsz lng; rw [H.out]; rfl, rfl⟩
  · have H := Lib.hid h
    go_enter Tryz.func156, Tryz.ntmps156
    go_wp2
    go_ret
    exact ⟨by unfold lsz lng; rw [H.out]; rfl, rfl⟩
def unk (f : Int) : Int := if bits .and .i64 f 128 == 0 then 3 else 0
theorem judgeUnknown_is (w : World) (f : Int) : Calls Tryz.prog 209 #[.int .i64 f] w fun e w' => e = .returned (.int .i64 (unk f)) ∧ w = w' := by
  cases h : bits .and .i64 f 128 == 0
  · have H := Lib.hid h
    go_enter Tryz.func209, Tryz.ntmps209
    go_wp2
    go_ret
    exact ⟨by unfold unk; rw [H.out]; rfl, rfl⟩
  · have H := Lib.hid h
    go_enter Tryz.func209, Tryz.ntmps209
    go_wp2
    go_ret
    exact ⟨by unfold unk; rw [H.out]; rfl, rfl⟩
end Go.Proofs.YtdgoeibfggjbmaaGreatDoor
namespace Go.Proofs.YtdgoeibfggjbmaaGreatDoor
open Go.RowKit
set_option maxRecDepth 100000
set_option linter.unusedSimpArgs false
set_option linter.unusedVariables false

def okPath (v : List Int) : Bool := decide (v.length = 0) || (decide (2 ≤ v.length) && (decide (v.getD 0 0 = 2) && (decide (0 < v.getD 1 0) && decide ((v.length : Int) = 2 + 4 * v.getD 1 0))))
def okPmsi (v : List Int) : Bool := decide (5 ≤ v.length) && (decide (v.getD 1 0 ≠ 6) || (decide (v.length = 9) || decide (v.length = 21)))
def okV (k : Int) (v : List Int) : Bool :=
  if k = 1 then decide (v.length = 1) && decide (v.getD 0 0 ≤ 2) else if k = 2 then okPath v else if k = 3 ∨ k = 4 ∨ k = 5 then decide (v.length = 4) else if k = 6 then decide (v.length = 0)
  else if k = 7 then decide (v.length = 8) else if k = 9 then decide (v.length = 4) && decide (numOf v ≠ 0) else if k = 10 then decide (0 < v.length) && decide (v.length % 4 = 0)
  else if k = 16 then decide (0 < v.length) && decide (v.length % 8 = 0) else if k = 22 then okPmsi v else true
def judge (f k : Int) (v : List Int) : Int := match bnd k with
  | none => unk f
  | some (fl, cl) => if bits .and .i64 f 192 == fl && okV k v then 0 else cl

set_option maxHeartbeats 1000000 in
theorem isPath_is (w : World) (B : Nat) (A : Option Addr) (n c : Nat) (v : List Int) (hr : Rd w B A n v) (hm : n ≤ 281474976710656) :
    Calls Tryz.prog 228 #[.slice A n c] w fun e w' => e = .returned (.bool (okPath v)) ∧ w = w' := by
  have hl := hr.len
  have H : Hid (v.length = n) := Lib.hid hl
  rcases Nat.eq_zero_or_pos n with h0 | h0
  · subst h0
    clear hr hl
    go_enter Tryz.func228, Tryz.ntmps228
    go_wp2
    go_ret
    exact ⟨by unfold okPath; rw [H.out]; rfl, rfl⟩
  · have e0 : ((n : Int) == 0) = false := by simp; omega
    by_cases h2 : n < 2
    · have h2' : (n : Int) < 2 := by omega
      clear hr hl
      go_enter Tryz.func228, Tryz.ntmps228
      go_wp2
      go_ret
      refine ⟨?_, rfl⟩
      unfold okPath; rw [H.out]; simp; omega
    · obtain ⟨b, off, rfl, hb, hc⟩ := hr.at_ h0
      have c0 : w.cell? ⟨b, off, none⟩ = some (.int .u8 (v.getD 0 0)) := hc 0 (by omega)
      have c1 := hc 1 (by omega)
      have o0 := hr.oct.getD 0
      have o1 := hr.oct.getD 1
      have HP : Hid (∀ x y, v.getD 0 0 = x → v.getD 1 0 = y → okPath v = (decide (x = 2) && (decide (0 < y) && decide ((n : Int) = 2 + 4 * y)))) := Lib.hid (by
        intro x y hx hy
        unfold okPath
        rw [hx, hy, hl]
        simp [show n ≠ 0 by omega, show 2 ≤ n by omega])
      generalize hx : v.getD 0 0 = x at *
      generalize hy : v.getD 1 0 = y at *
      have HP2 := Lib.hid (HP.out x y rfl rfl)
      clear hc hr hl hx hy HP
      have h2' : ¬ (n : Int) < 2 := by omega
      by_cases hx2 : x = 2
      · subst hx2
        by_cases hy0 : y = 0
        · subst hy0
          go_enter Tryz.func228, Tryz.ntmps228
          go_wp2
          go_ret
          exact ⟨by rw [HP2.out]; rfl, rfl⟩
        · have ey : (y == 0) = false := by simpa using hy0
          have ep : 0 < y := by omega
          have ew : IntKind.i64.wrap (4 * y) = 4 * y := by rw [IntKind.wrap_i64]; omega
          go_enter Tryz.func228, Tryz.ntmps228
          go_wp2
          go_ret
          refine ⟨?_, rfl⟩
          rw [HP2.out]
          simp [ep]
          rfl
      · have ex : (x != 2) = true := by simpa using hx2
        go_enter Tryz.func228, Tryz.ntmps228
        go_wp2
        go_ret
        exact ⟨by rw [HP2.out]; simp [hx2], rfl⟩

set_option maxHeartbeats 1000000 in
theorem isPmsi_is (w : World) (B : Nat) (A : Option Addr) (n c : Nat) (v : List Int) (hr : Rd w B A n v) (hm : n ≤ 281474976710656) :
    Calls Tryz.prog 229 #[.slice A n c] w fun e w' => e = .returned (.bool (okPmsi v)) ∧ w = w' := by
  have hl := hr.len
  have H : Hid (v.length = n) := Lib.hid hl
  by_cases h5 : n < 5
  · have h5' : (n : Int) < 5 := by omega
    clear hr hl
    go_enter Tryz.func229, Tryz.ntmps229
    go_wp2
    go_ret
    refine ⟨?_, rfl⟩
    unfold okPmsi; rw [H.out]; simp [show ¬ 5 ≤ n by omega]
  · obtain ⟨b, off, rfl, hb, hc⟩ := hr.at_ (by omega)
    have c1 := hc 1 (by omega)
    have o1 := hr.oct.getD 1
    have HP : Hid (∀ y, v.getD 1 0 = y → okPmsi v = (decide (y ≠ 6) || (decide (n = 9) || decide (n = 21)))) := Lib.hid (by
      intro y hy
      unfold okPmsi
      rw [hy, hl]
      simp [show 5 ≤ n by omega])
    generalize hy : v.getD 1 0 = y at *
    have HP2 := Lib.hid (HP.out y rfl)
    clear hc hr hl hy HP
    have h5' : ¬ (n : Int) < 5 := by omega
    by_cases hy6 : y = 6
    · subst hy6
      by_cases h9 : n = 9
      · subst h9
        go_enter Tryz.func229, Tryz.ntmps229
        go_wp2
        go_ret
        exact ⟨by rw [HP2.out]; rfl, rfl⟩
      · have e9 : ((n : Int) - 5 == 4) = false := by simp; omega
        cases e21 : ((n : Int) - 5 == 16)
        · have h21 : n ≠ 21 := by rintro rfl; simp at e21
          go_enter Tryz.func229, Tryz.ntmps229
          go_wp2
          go_ret
          exact ⟨by rw [HP2.out]; simp [h9, h21], rfl⟩
        · have h21 : n = 21 := by simp at e21; omega
          go_enter Tryz.func229, Tryz.ntmps229
          go_wp2
          go_ret
          exact ⟨by rw [HP2.out]; simp [h21], rfl⟩
    · have ey : (y != 6) = true := by simpa using hy6
      go_enter Tryz.func229, Tryz.ntmps229
      go_wp2
      go_ret
      exact ⟨by rw [HP2.out]; simp [hy6], rfl⟩

theorem nat_beq (n m : Nat) (b : Bool) (h : decide (n = m) = b) : ((n : Int) == (m : Int)) = b := by
  subst h
  rw [Bool.eq_iff_iff, beq_iff_eq, decide_eq_true_iff]
  omega
def IsV (w : World) (k : Int) (v : List Int) (e : Ending) (w' : World) : Prop := e = .returned (.bool (okV k v)) ∧ Below w.heap.size w w'

section
variable (w : World) (A : Option Addr) (n c : Nat) (v : List Int) (hr : Rd w w.heap.size A n v) (hm : n ≤ 281474976710656)
set_option maxHeartbeats 1000000 in
include hr hm in
theorem isValue_1 : Calls Tryz.prog 210 #[.int .i64 1, .slice A n c] w (IsV w 1 v) := by
  have hl := hr.len
  have HV : Hid (okV 1 v = (decide (n = 1) && decide (v.getD 0 0 ≤ 2))) := Lib.hid (by unfold okV; rw [if_pos rfl, hl])
  by_cases h1 : n = 1
  · subst h1
    obtain ⟨b, off, rfl, hb, hc⟩ := hr.at_ (by omega)
    have c0 : w.cell? ⟨b, off, none⟩ = some (.int .u8 (v.getD 0 0)) := hc 0 (by omega)
    have o0 := hr.oct.getD 0
    generalize v.getD 0 0 = x at *
    have ex : IntKind.i64.wrap x = x := by rw [IntKind.wrap_i64]; omega
    clear hr hl hc
    go_enter Tryz.func210, Tryz.ntmps210
    go_wp2_with fail
    refine (isOrigin_is w x).mono ?_
    rintro e w' ⟨rfl, rfl⟩
    go_wp2
    go_ret
    exact ⟨by rw [HV.out]; simp [o0.1], Below.refl _ _⟩
  · have e1 := nat_beq n 1 false (by simpa using h1)
    clear hr hl
    go_enter Tryz.func210, Tryz.ntmps210
    go_wp2
    go_ret
    exact ⟨by rw [HV.out]; simp [h1], Below.refl _ _⟩
set_option maxHeartbeats 1000000 in
include hr hm in
theorem isValue_2 : Calls Tryz.prog 210 #[.int .i64 2, .slice A n c] w (IsV w 2 v) := by
  have H := Lib.hid (isPath_is w _ A n c v hr hm)
  have HV : Hid (okV 2 v = okPath v) := Lib.hid (by rfl)
  clear hr
  go_enter Tryz.func210, Tryz.ntmps210
  go_wp2_with fail
  refine H.out.mono ?_
  rintro e w' ⟨rfl, rfl⟩
  go_wp2
  go_ret
  exact ⟨by rw [HV.out]; rfl, Below.refl _ _⟩
set_option maxHeartbeats 1000000 in
include hr hm in
theorem isValue_22 : Calls Tryz.prog 210 #[.int .i64 22, .slice A n c] w (IsV w 22 v) := by
  have H := Lib.hid (isPmsi_is w _ A n c v hr hm)
  have HV : Hid (okV 22 v = okPmsi v) := Lib.hid (by rfl)
  clear hr
  go_enter Tryz.func210, Tryz.ntmps210
  go_wp2_with fail
  refine H.out.mono ?_
  rintro e w' ⟨rfl, rfl⟩
  go_wp2
  go_ret
  exact ⟨by rw [HV.out]; rfl, Below.refl _ _⟩
set_option maxHeartbeats 1000000 in
include hr in
theorem isValue_len (k : Int) (m : Nat) (hk : (k = 3 ∨ k = 4 ∨ k = 5) ∧ m = 4 ∨ k = 6 ∧ m = 0 ∨ k = 7 ∧ m = 8) : Calls Tryz.prog 210 #[.int .i64 k, .slice A n c] w (IsV w k v) := by
  have hl := hr.len
  have HV : Hid (okV k v = decide (n = m)) := Lib.hid (by rcases hk with ⟨rfl | rfl | rfl, rfl⟩ | ⟨rfl, rfl⟩ | ⟨rfl, rfl⟩ <;> (rw [← hl]; rfl))
  have HE := Lib.hid (nat_beq n m _ rfl)
  clear hr hl
  rcases hk with ⟨rfl | rfl | rfl, rfl⟩ | ⟨rfl, rfl⟩ | ⟨rfl, rfl⟩ <;>
  · go_enter Tryz.func210, Tryz.ntmps210
    go_wp2
    go_ret
    exact ⟨by rw [HV.out, ← HE.out]; rfl, Below.refl _ _⟩
set_option maxHeartbeats 1000000 in
include hr hm in
theorem isValue_rem (k : Int) (m : Nat) (hk : k = 10 ∧ m = 4 ∨ k = 16 ∧ m = 8) : Calls Tryz.prog 210 #[.int .i64 k, .slice A n c] w (IsV w k v) := by
  have hl := hr.len
  have HV : Hid (okV k v = (decide (0 < n) && decide (n % m = 0))) := Lib.hid (by rcases hk with ⟨rfl, rfl⟩ | ⟨rfl, rfl⟩ <;> (rw [← hl]; rfl))
  clear hr hl
  rcases Nat.eq_zero_or_pos n with h0 | h0
  · subst h0
    rcases hk with ⟨rfl, rfl⟩ | ⟨rfl, rfl⟩ <;>
    · go_enter Tryz.func210, Tryz.ntmps210
      go_wp2
      go_ret
      exact ⟨by rw [HV.out]; rfl, Below.refl _ _⟩
  · have hp : (0 : Int) < n := by omega
    rcases hk with ⟨rfl, rfl⟩ | ⟨rfl, rfl⟩ <;>
    · go_enter Tryz.func210, Tryz.ntmps210
      go_wp2
      go_ret
      refine ⟨?_, Below.refl _ _⟩
      rw [HV.out]
      simp [h0]
      rw [Bool.eq_iff_iff, beq_iff_eq, decide_eq_true_iff]
      omega
set_option maxHeartbeats 1000000 in
include hr hm in
theorem isValue_9 : Calls Tryz.prog 210 #[.int .i64 9, .slice A n c] w (IsV w 9 v) := by
  have hl := hr.len
  have HV : Hid (okV 9 v = (decide (n = 4) && decide (numOf v ≠ 0))) := Lib.hid (by rw [← hl]; rfl)
  by_cases h4 : n = 4
  · subst h4
    have HR := Lib.hid hr
    have HL := Lib.hid hl
    clear hr hl
    go_enter Tryz.func210, Tryz.ntmps210
    go_wp2_with fail
    refine (new_is w A 4 c v HR.out (by omega)).mono ?_
    rintro e w1 ⟨g, rfl, hg, hcur, hB⟩
    have HC := Lib.hid hcur
    have HB := Lib.hid hB
    have HG := Lib.hid hg
    clear hcur hB hg
    go_wp2_with fail
    refine (num_is w1 g v 0 0 4 HC.out).mono ?_
    rintro e w2 ⟨rfl, _, hgr⟩
    have HB2 := Lib.hid (below_only HB.out hgr HB.out.size (fun j e => by injection e with e; rw [← e]; exact HG.out))
    have hnv : numVal v 0 0 4 = numOf v := by
      unfold numVal stepTook
      have := HL.out
      rw [if_pos (by decide), if_pos (by omega)]
      simp
      rw [List.take_of_length_le (by omega)]
    rw [hnv]
    have HN := Lib.hid (rfl : (numOf v != 0) = (numOf v != 0))
    generalize numOf v = q at *
    clear hgr hnv HB HC
    go_wp2
    go_ret
    refine ⟨?_, HB2.out⟩
    rw [HV.out]
    simp
    rfl
  · have e1 := nat_beq n 4 false (by simpa using h4)
    clear hr hl
    go_enter Tryz.func210, Tryz.ntmps210
    go_wp2
    go_ret
    exact ⟨by rw [HV.out]; simp [h4], Below.refl _ _⟩
set_option maxHeartbeats 1000000 in
theorem isValue_any (k : Int) (hk : k ≠ 1 ∧ k ≠ 2 ∧ k ≠ 3 ∧ k ≠ 4 ∧ k ≠ 5 ∧ k ≠ 6 ∧ k ≠ 7 ∧ k ≠ 9 ∧ k ≠ 10 ∧ k ≠ 16 ∧ k ≠ 22) : Calls Tryz.prog 210 #[.int .i64 k, .slice A n c] w (IsV w k v) := by
  obtain ⟨k1, k2, k3, k4, k5, k6, k7, k9, k10, k16, k22⟩ := hk
  have HV : Hid (okV k v = true) := Lib.hid (by unfold okV; rw [if_neg k1, if_neg k2, if_neg (by omega), if_neg k6, if_neg k7, if_neg k9, if_neg k10, if_neg k16, if_neg k22])
  have e1 : (k == 1) = false := by simpa using k1
  have e2 : (k == 2) = false := by simpa using k2
  have e3 : (k == 3) = false := by simpa using k3
  have e4 : (k == 4) = false := by simpa using k4
  have e5 : (k == 5) = false := by simpa using k5
  have e6 : (k == 6) = false := by simpa using k6
  have e7 : (k == 7) = false := by simpa using k7
  have e9 : (k == 9) = false := by simpa using k9
  have e10 : (k == 10) = false := by simpa using k10
  have e16 : (k == 16) = false := by simpa using k16
  have e22 : (k == 22) = false := by simpa using k22
  go_enter Tryz.func210, Tryz.ntmps210
  go_wp2
  go_ret
  exact ⟨by rw [HV.out]; rfl, Below.refl _ _⟩
include hr hm in
theorem isValue_is (k : Int) : Calls Tryz.prog 210 #[.int .i64 k, .slice A n c] w (IsV w k v) := by
  by_cases h1 : k = 1
  · subst h1; exact isValue_1 w A n c v hr hm
  by_cases h2 : k = 2
  · subst h2; exact isValue_2 w A n c v hr hm
  by_cases h3 : k = 3 ∨ k = 4 ∨ k = 5
  · exact isValue_len w A n c v hr k 4 (.inl ⟨h3, rfl⟩)
  by_cases h6 : k = 6
  · exact isValue_len w A n c v hr k 0 (.inr (.inl ⟨h6, rfl⟩))
  by_cases h7 : k = 7
  · exact isValue_len w A n c v hr k 8 (.inr (.inr ⟨h7, rfl⟩))
  by_cases h9 : k = 9
  · subst h9; exact isValue_9 w A n c v hr hm
  by_cases h10 : k = 10
  · exact isValue_rem w A n c v hr hm k 4 (.inl ⟨h10, rfl⟩)
  by_cases h16 : k = 16
  · exact isValue_rem w A n c v hr hm k 8 (.inr ⟨h16, rfl⟩)
  by_cases h22 : k = 22
  · subst h22; exact isValue_22 w A n c v hr hm
  exact isValue_any w A n c v k (by omega)
end

set_option maxHeartbeats 2000000 in
theorem judge_is (w : World) (E : EnvK w) (f k : Int) (A : Option Addr) (n c : Nat) (v : List Int) (hr : Rd w w.heap.size A n v) (hm : n ≤ 281474976710656) :
    Calls Tryz.prog 170 #[.agg #[.int .i64 f, .int .i64 k, .slice A n c]] w fun e w' => e = .returned (.int .i64 (judge f k v)) ∧ Below w.heap.size w w' := by
  have hb0 : Below w.heap.size w (w.alloc (.cells #[.int .i64 f, .int .i64 k, .slice A n c] 67)) := (Below.refl _ _).alloc (Nat.le_refl _) _
  have HE := Lib.hid (E.below hb0)
  have HB := Lib.hid hb0
  have HR := Lib.hid hr
  have HN := Lib.hid (Blk.new w 67 #[.int .i64 f, .int .i64 k, .slice A n c])
  have HS : Hid (w.heap.size < (w.alloc (.cells #[.int .i64 f, .int .i64 k, .slice A n c] 67)).heap.size) := Lib.hid (by simp)
  have HJ : Hid (judge f k v = match bnd k with | none => unk f | some (fl, cl) => if bits .and .i64 f 192 == fl && okV k v then 0 else cl) := Lib.hid rfl
  clear hr hb0 E
  go_enter Tryz.func170, Tryz.ntmps170
  go_wp2_with fail
  refine (boundsOf_is _ HE.out k).mono ?_
  generalize (w.alloc (.cells #[.int .i64 f, .int .i64 k, .slice A n c] 67)) = w0 at *
  rintro e w1 ⟨rfl, hB1⟩
  have hN1 := HN.out.below hB1 HS.out
  have HB1 := Lib.hid (HB.out.trans (hB1.mono (Nat.le_of_lt HS.out)))
  have hR1 := HR.out.below HB1.out
  have c0 : w1.cell? ⟨w.heap.size, 0, none⟩ = some (.int .i64 f) := hN1.cell 0
  have c1 : w1.cell? ⟨w.heap.size, 1, none⟩ = some (.int .i64 k) := hN1.cell 1
  have c2 : w1.cell? ⟨w.heap.size, 2, none⟩ = some (.slice A n c) := hN1.cell 2
  have hs1 : w.heap.size < w1.heap.size := hN1.lt
  have HR1 := Lib.hid hR1
  clear hB1 hN1 HB HR HN HE HS hR1
  unfold bndV
  cases hbk : bnd k with
  | none =>
    rw [hbk] at HJ
    go_wp2_with fail
    refine (judgeUnknown_is _ f).mono ?_
    rintro e w2 ⟨rfl, rfl⟩
    go_wp2
    go_ret
    exact ⟨by rw [HJ.out]; rfl, HB1.out.alloc HB1.out.size _⟩
  | some r =>
    obtain ⟨fl, cl⟩ := r
    rw [hbk] at HJ
    simp only at HJ ⊢
    have hB2 := HB1.out.alloc HB1.out.size (.cells #[.int .i64 k, .int .i64 fl, .int .i64 cl] 217)
    have HR2 := Lib.hid (HR1.out.below ((Below.refl w.heap.size w1).alloc (Nat.le_of_lt hs1) (.cells #[.int .i64 k, .int .i64 fl, .int .i64 cl] 217)))
    have HB2 := Lib.hid hB2
    have HZ := Lib.hid hB2.size
    clear hB2
    cases hq : bits .and .i64 f 192 == fl with
    | false =>
      have hq' : (bits .and .i64 f 192 != fl) = true := by simpa using hq
      rw [hq] at HJ
      clear hq
      go_wp2
      go_ret
      exact ⟨by rw [HJ.out]; rfl, HB2.out⟩
    | true =>
      have hq' : (bits .and .i64 f 192 != fl) = false := by simpa using hq
      rw [hq] at HJ
      clear hq
      go_wp2_with fail
      refine (isValue_is _ A n c v (HR2.out.more HZ.out) hm k).mono ?_
      rintro e w2 ⟨rfl, hB3⟩
      have c3 : w2.cell? ⟨w1.heap.size, 2, none⟩ = some (.int .i64 cl) := ((Blk.new w1 217 #[.int .i64 k, .int .i64 fl, .int .i64 cl]).below hB3 (by simp)).cell 2
      have HB3 := Lib.hid (HB2.out.trans (hB3.mono HZ.out))
      clear hB3 HB2 HR2 HR1 HB1 c0 c1 c2
      generalize okV k v = q at *
      cases q with
      | false =>
        go_wp2
        go_ret
        exact ⟨by rw [HJ.out]; rfl, HB3.out⟩
      | true =>
        go_wp2
        go_ret
        exact ⟨by rw [HJ.out]; rfl, HB3.out⟩
end Go.Proofs.YtdgoeibfggjbmaaGreatDoor
namespace Go.Proofs.YtdgoeibfggjbmaaGreatDoor
open Go.RowKit
set_option maxRecDepth 100000
set_option linter.unusedSimpArgs false
set_option linter.unusedVariables false

abbrev Raw := Int × Int × List Int
def one (r : List Int) : Option (Raw × Nat) :=
  if 2 + lsz (r.getD 0 0) ≤ r.length then
    if 2 + lsz (r.getD 0 0) + (numOf ((r.drop 2).take (lsz (r.getD 0 0)))).toNat ≤ r.length then
      some ((r.getD 0 0, r.getD 1 0, (r.drop (2 + lsz (r.getD 0 0))).take (numOf ((r.drop 2).take (lsz (r.getD 0 0)))).toNat), 2 + lsz (r.getD 0 0) + (numOf ((r.drop 2).take (lsz (r.getD 0 0)))).toNat)
    else none
  else none
def spl : Nat → List Int → Option (List Raw)
  | 0, _ => some []
  | m + 1, r => if r = [] then some [] else match one r with
    | none => none
    | some (x, k) => (spl m (r.drop k)).map (x :: ·)
def split (l : List Int) : Option (List Raw) := spl l.length l

theorem one_pos {r : List Int} {x : Raw} {k : Nat} (h : one r = some (x, k)) : 3 ≤ k ∧ k ≤ r.length := by
  unfold one at h
  split at h
  · split at h
    · injection h with h
      injection h with _ h
      rcases lsz_12 (r.getD 0 0) with e | e <;> omega
    · cases h
  · cases h
theorem spl_nil (m : Nat) : spl m [] = some [] := by cases m <;> rfl
theorem spl_none {m : Nat} {r : List Int} (h0 : r ≠ []) (h : one r = none) : spl (m + 1) r = none := by simp [spl, h0, h]
theorem spl_some {m : Nat} {r : List Int} {x : Raw} {k : Nat} (h0 : r ≠ []) (h : one r = some (x, k)) : spl (m + 1) r = (spl m (r.drop k)).map (x :: ·) := by simp [spl, h0, h]

theorem num_ok' (l : List Int) (at_ k : Nat) (hk : 1 ≤ k) (h8 : k ≤ 8) (h : at_ + k ≤ l.length) : numVal l at_ 0 k = numOf ((l.drop at_).take k) ∧ numAt l at_ 0 k = at_ + k ∧ numErr l at_ 0 k = 0 := by
  have hok : numOk (k : Int) := ⟨by omega, by omega⟩
  refine ⟨?_, ?_, ?_⟩
  · unfold numVal stepTook; rw [if_pos hok, if_pos (by omega)]; rfl
  · unfold numAt stepAt; rw [if_pos hok, if_pos (by omega)]; rfl
  · unfold numErr stepErr; rw [if_pos hok, if_pos rfl, if_neg (by omega), if_neg (by omega)]
theorem num_no' (l : List Int) (at_ k : Nat) (hk : 1 ≤ k) (h8 : k ≤ 8) (h : ¬ at_ + k ≤ l.length) : numVal l at_ 0 k = 0 ∧ numAt l at_ 0 k = at_ ∧ numErr l at_ 0 k = 3 := by
  have hok : numOk (k : Int) := ⟨by omega, by omega⟩
  refine ⟨?_, ?_, ?_⟩
  · unfold numVal stepTook; rw [if_pos hok, if_neg (by omega)]; rfl
  · unfold numAt stepAt; rw [if_pos hok, if_neg (by omega)]
  · unfold numErr stepErr; rw [if_pos hok, if_pos rfl, if_neg (by omega), if_pos (by omega)]

structure Nx where
  f : Int
  k : Int
  n : Int
  a : Nat
  e : Int
def nx (l : List Int) (at_ : Nat) : Nx :=
  let f := numVal l at_ 0 1
  let a1 := numAt l at_ 0 1
  let e1 := numErr l at_ 0 1
  let k := numVal l a1 e1 1
  let a2 := numAt l a1 e1 1
  let e2 := numErr l a1 e1 1
  ⟨f, k, numVal l a2 e2 (lsz f : Nat), numAt l a2 e2 (lsz f : Nat), numErr l a2 e2 (lsz f : Nat)⟩
theorem numOf_one (l : List Int) (at_ : Nat) (h : at_ < l.length) : numOf ((l.drop at_).take 1) = l.getD at_ 0 := by
  rw [List.drop_eq_getElem_cons h, List.take_succ_cons, List.take_zero]
  simp [numOf, List.getD, h]
theorem drop_getD (l : List Int) (a i : Nat) : (l.drop a).getD i 0 = l.getD (a + i) 0 := by simp [List.getD]
theorem nx_ok (l : List Int) (at_ : Nat) (x : Raw) (m : Nat) (ho : Oct l) (hle : at_ ≤ l.length) (h : one (l.drop at_) = some (x, m)) :
    (nx l at_).f = x.1 ∧ (nx l at_).k = x.2.1 ∧ stepTook l (nx l at_).a (nx l at_).e (nx l at_).n = x.2.2 ∧ stepAt l (nx l at_).a (nx l at_).e (nx l at_).n = at_ + m ∧ stepErr l (nx l at_).a (nx l at_).e (nx l at_).n = 0 := by
  unfold one at h
  rw [drop_getD, drop_getD, Nat.add_zero, List.length_drop, List.drop_drop, List.drop_drop] at h
  have hls := lsz_12 (l.getD at_ 0)
  split at h
  · rename_i h1
    split at h
    · rename_i h2
      injection h with h
      injection h with hx hm
      have a1 := num_ok' l at_ 1 (by omega) (by omega) (by omega)
      have a2 := num_ok' l (at_ + 1) 1 (by omega) (by omega) (by omega)
      have a3 := num_ok' l (at_ + 2) (lsz (l.getD at_ 0)) (by omega) (by omega) (by omega)
      rw [numOf_one l at_ (by omega)] at a1
      rw [numOf_one l (at_ + 1) (by omega)] at a2
      have hf : (nx l at_).f = l.getD at_ 0 := a1.1
      have hk : (nx l at_).k = l.getD (at_ + 1) 0 := by
        show numVal l (numAt l at_ 0 (1 : Nat)) (numErr l at_ 0 (1 : Nat)) (1 : Nat) = _
        rw [a1.2.1, a1.2.2]; exact a2.1
      have hr : (nx l at_).n = numOf ((l.drop (at_ + 2)).take (lsz (l.getD at_ 0))) ∧ (nx l at_).a = at_ + 2 + lsz (l.getD at_ 0) ∧ (nx l at_).e = 0 := by
        show numVal l (numAt l (numAt l at_ 0 (1 : Nat)) (numErr l at_ 0 (1 : Nat)) (1 : Nat)) (numErr l (numAt l at_ 0 (1 : Nat)) (numErr l at_ 0 (1 : Nat)) (1 : Nat)) (lsz (numVal l at_ 0 (1 : Nat)) : Nat) = _ ∧ numAt l (numAt l (numAt l at_ 0 (1 : Nat)) (numErr l at_ 0 (1 : Nat)) (1 : Nat)) (numErr l (numAt l at_ 0 (1 : Nat)) (numErr l at_ 0 (1 : Nat)) (1 : Nat)) (lsz (numVal l at_ 0 (1 : Nat)) : Nat) = _ ∧ numErr l (numAt l (numAt l at_ 0 (1 : Nat)) (numErr l at_ 0 (1 : Nat)) (1 : Nat)) (numErr l (numAt l at_ 0 (1 : Nat)) (numErr l at_ 0 (1 : Nat)) (1 : Nat)) (lsz (numVal l at_ 0 (1 : Nat)) : Nat) = _
        rw [a1.1, a1.2.1, a1.2.2, a2.2.1, a2.2.2]
        exact a3
      have hn0 := (numOf_bd ((l.drop (at_ + 2)).take (lsz (l.getD at_ 0))) (fun y hy => ho y (List.mem_of_mem_drop (List.mem_of_mem_take hy)))).1
      rw [hr.1, hr.2.1, hr.2.2, hf, hk, ← hx, ← hm]
      generalize hN : numOf ((l.drop (at_ + 2)).take (lsz (l.getD at_ 0))) = N at *
      refine ⟨rfl, rfl, ?_, ?_, ?_⟩
      · unfold stepTook; rw [if_pos (by omega)]; congr 2; omega
      · unfold stepAt; rw [if_pos (by omega)]; omega
      · unfold stepErr; rw [if_pos rfl, if_neg (by omega), if_neg (by omega)]
    · cases h
  · cases h
theorem nx_no (l : List Int) (at_ : Nat) (ho : Oct l) (hle : at_ ≤ l.length) (h : one (l.drop at_) = none) : stepErr l (nx l at_).a (nx l at_).e (nx l at_).n = 3 := by
  have late3 : ∀ a n, stepErr l a 3 n = 3 := fun a n => late_err l a 3 n (by decide)
  have lateN : ∀ a n, numErr l a 3 n = 3 := fun a n => late_numErr l a 3 n (by decide)
  by_cases h1 : at_ + 1 ≤ l.length
  · have a1 := num_ok' l at_ 1 (by omega) (by omega) (by omega)
    rw [numOf_one l at_ (by omega)] at a1
    by_cases h2 : at_ + 2 ≤ l.length
    · have a2 := num_ok' l (at_ + 1) 1 (by omega) (by omega) (by omega)
      have hls := lsz_12 (l.getD at_ 0)
      by_cases h3 : at_ + 2 + lsz (l.getD at_ 0) ≤ l.length
      · have a3 := num_ok' l (at_ + 2) (lsz (l.getD at_ 0)) (by omega) (by omega) (by omega)
        have hr : (nx l at_).n = numOf ((l.drop (at_ + 2)).take (lsz (l.getD at_ 0))) ∧ (nx l at_).a = at_ + 2 + lsz (l.getD at_ 0) ∧ (nx l at_).e = 0 := by
          show numVal l (numAt l (numAt l at_ 0 (1 : Nat)) (numErr l at_ 0 (1 : Nat)) (1 : Nat)) (numErr l (numAt l at_ 0 (1 : Nat)) (numErr l at_ 0 (1 : Nat)) (1 : Nat)) (lsz (numVal l at_ 0 (1 : Nat)) : Nat) = _ ∧ numAt l (numAt l (numAt l at_ 0 (1 : Nat)) (numErr l at_ 0 (1 : Nat)) (1 : Nat)) (numErr l (numAt l at_ 0 (1 : Nat)) (numErr l at_ 0 (1 : Nat)) (1 : Nat)) (lsz (numVal l at_ 0 (1 : Nat)) : Nat) = _ ∧ numErr l (numAt l (numAt l at_ 0 (1 : Nat)) (numErr l at_ 0 (1 : Nat)) (1 : Nat)) (numErr l (numAt l at_ 0 (1 : Nat)) (numErr l at_ 0 (1 : Nat)) (1 : Nat)) (lsz (numVal l at_ 0 (1 : Nat)) : Nat) = _
          rw [a1.1, a1.2.1, a1.2.2, a2.2.1, a2.2.2]
          exact a3
        have hn0 := (numOf_bd ((l.drop (at_ + 2)).take (lsz (l.getD at_ 0))) (fun y hy => ho y (List.mem_of_mem_drop (List.mem_of_mem_take hy)))).1
        unfold one at h
        rw [drop_getD, drop_getD, Nat.add_zero, List.length_drop, List.drop_drop, List.drop_drop, if_pos (by omega)] at h
        split at h
        · cases h
        · rename_i h4
          rw [hr.1, hr.2.1, hr.2.2]
          generalize hN : numOf ((l.drop (at_ + 2)).take (lsz (l.getD at_ 0))) = N at *
          unfold stepErr
          rw [if_pos rfl, if_neg (by omega), if_pos (by omega)]
      · have a3 := num_no' l (at_ + 2) (lsz (l.getD at_ 0)) (by omega) (by omega) (by omega)
        have he : (nx l at_).e = 3 := by
          show numErr l (numAt l (numAt l at_ 0 (1 : Nat)) (numErr l at_ 0 (1 : Nat)) (1 : Nat)) (numErr l (numAt l at_ 0 (1 : Nat)) (numErr l at_ 0 (1 : Nat)) (1 : Nat)) (lsz (numVal l at_ 0 (1 : Nat)) : Nat) = _
          rw [a1.1, a1.2.1, a1.2.2, a2.2.1, a2.2.2]
          exact a3.2.2
        rw [he]; exact late3 _ _
    · have a2 := num_no' l (at_ + 1) 1 (by omega) (by omega) (by omega)
      have he : (nx l at_).e = 3 := by
        show numErr l (numAt l (numAt l at_ 0 (1 : Nat)) (numErr l at_ 0 (1 : Nat)) (1 : Nat)) (numErr l (numAt l at_ 0 (1 : Nat)) (numErr l at_ 0 (1 : Nat)) (1 : Nat)) (lsz (numVal l at_ 0 (1 : Nat)) : Nat) = _
        rw [a1.1, a1.2.1, a1.2.2, a2.2.1, a2.2.2]
        exact lateN _ _
      rw [he]; exact late3 _ _
  · have a1 := num_no' l at_ 1 (by omega) (by omega) (by omega)
    have he : (nx l at_).e = 3 := by
      show numErr l (numAt l (numAt l at_ 0 (1 : Nat)) (numErr l at_ 0 (1 : Nat)) (1 : Nat)) (numErr l (numAt l at_ 0 (1 : Nat)) (numErr l at_ 0 (1 : Nat)) (1 : Nat)) (lsz (numVal l at_ 0 (1 : Nat)) : Nat) = _
      rw [a1.1, a1.2.1, a1.2.2, lateN]
      exact lateN _ _
    rw [he]; exact late3 _ _
theorem numVal_bd (l : List Int) (at_ : Nat) (err k : Int) (ho : Oct l) (hk : k ≤ 2) : 0 ≤ numVal l at_ err k ∧ numVal l at_ err k ≤ 65535 := by
  unfold numVal
  split
  · unfold stepTook
    split
    · have hb := numOf_bd ((l.drop at_).take k.toNat) (fun y hy => ho y (List.mem_of_mem_drop (List.mem_of_mem_take hy)))
      have hl : ((l.drop at_).take k.toNat).length ≤ 2 := by simp; omega
      generalize ((l.drop at_).take k.toNat) = q at *
      have : (256 : Int) ^ q.length ≤ 65536 := by
        match h : q.length, hl with
        | 0, _ => decide
        | 1, _ => decide
        | 2, _ => decide
      omega
    · simp [numOf]
  · simp
end Go.Proofs.YtdgoeibfggjbmaaGreatDoor
namespace Go.Proofs.YtdgoeibfggjbmaaGreatDoor
open Go.RowKit
set_option maxRecDepth 100000
set_option linter.unusedSimpArgs false
set_option linter.unusedVariables false

theorem info_raw : (Tryz.prog.info? 67).map (fun i => (i.zero, i.size, i.bytes)) = some (some (.agg #[.int .i64 0, .int .i64 0, .slice none 0 0]), 3, 40) := by kernel_rfl
theorem row_ne {w : World} {i j : Nat} {t u : TypeId} {a b : Array Value} (h : w.heap[i]? = some (.cells a t (0, 0))) (k : w.heap[j]? = some (.cells b u (0, 0))) (hne : t ≠ u) : i ≠ j := by
  rintro rfl
  rw [h] at k
  injection k with k
  injection k with _ k
  exact hne k
theorem own_keep {w w' : World} {base : Nat} {e : TypeId} {size n : Nat} {v : Value} {xs : List Value} (h : w.ownsRow base e size v n xs) (hk : ∀ i c, w.heap[i]? = some (.cells c e (0, 0)) → base ≤ i → v.ownBlock = some i → w'.heap[i]? = w.heap[i]?) : w'.ownsRow base e size v n xs := by
  refine ⟨h.1, h.2.imp id ?_⟩
  rintro ⟨i, cap, cur, rfl, hb, hi, rest⟩
  exact ⟨i, cap, cur, rfl, hb, (hk i cur hi hb rfl).trans hi, rest⟩
theorem own_heap {w : World} {base : Nat} {e : TypeId} {size n : Nat} {v : Value} {xs : List Value} (h : w.ownsRow base e size v n xs) {j : Nat} (hj : v.ownBlock = some j) : ∃ c, w.heap[j]? = some (.cells c e (0, 0)) := by
  rcases h.2 with ⟨rfl, _⟩ | ⟨i, cap, cur, rfl, _, hh, _⟩
  · cases hj
  · injection hj with hj
    subst hj
    exact ⟨cur, hh⟩
theorem own_low {w : World} {base base' : Nat} {e : TypeId} {size n : Nat} {v : Value} {xs : List Value} (h : w.ownsRow base e size v n xs) (hb : base' ≤ base) : w.ownsRow base' e size v n xs := by
  refine ⟨h.1, h.2.imp id ?_⟩
  rintro ⟨i, cap, cur, rfl, hb', rest⟩
  exact ⟨i, cap, cur, rfl, by omega, rest⟩

theorem rsz : (Tryz.prog.info? 67).map (·.size) = some 3 := by kernel_rfl
theorem raw_store {ops : Array Oper} {rest : List Oper} {o : Oper} {a : Act} {w : World} {Q : Exit → Act → World → Prop} (hgd : o.guard = none) (x y : Operand) (ho : o.op = .store 67 x y) (g : Nat) (f k : Int) (A : Option Addr) (n c : Nat)
    (hx : a.eval x = .pointer (some ⟨g, 0, none⟩)) (hy : a.eval y = .agg #[.int .i64 f, .int .i64 k, .slice A n c]) (t : TypeId) (old : Array Value) (hg : Blk w g t old) (hold : old.size = 3)
    (h : wpList Tryz.prog ops Q rest (a.put o.dst undef) (w.setRow g #[.int .i64 f, .int .i64 k, .slice A n c])) : wpList Tryz.prog ops Q (o :: rest) a w :=
  wpList_store_row hgd 67 x y ho g _ hx hy t old hg rsz (by rw [hold]; rfl) (by kernel_rfl) h
theorem raw_fetch {ops : Array Oper} {rest : List Oper} {op : Oper} {a : Act} {w : World} {Q : Exit → Act → World → Prop} (hw : Region.wanted op (yielded ops a.tmps) = true) (x : Operand) (ho : op.op = .load 67 x) (b o : Nat) (f k : Int) (A : Option Addr) (n c : Nat)
    (hx : a.eval x = .pointer (some ⟨b, o, none⟩)) (h0 : w.cell? ⟨b, o, none⟩ = some (.int .i64 f)) (h1 : w.cell? ⟨b, o + 1, none⟩ = some (.int .i64 k)) (h2 : w.cell? ⟨b, o + 2, none⟩ = some (.slice A n c))
    (h : wpList Tryz.prog ops Q rest (a.put op.dst (.agg #[.int .i64 f, .int .i64 k, .slice A n c])) w) : wpList Tryz.prog ops Q (op :: rest) a w :=
  BigFrame.wpList_want hw fun _ hK => wp_load_mid 67 x ho b o hx [.int .i64 f, .int .i64 k, .slice A n c] _ (fun j v hv => by
    match j, hv with
    | 0, hv => injection hv with hv; subst hv; exact h0
    | 1, hv => injection hv with hv; subst hv; exact h1
    | 2, hv => injection hv with hv; subst hv; exact h2
    | j + 3, hv => simp at hv) Tryz.underlying67 rfl rsz (hK _ _ h)

structure Rs (Bd : Option Addr → Nat → List Int → Prop) (cs : List Value) (rs : List Raw) : Prop where
  len : cs.length = rs.length * 3
  at_ : ∀ i (h : i < rs.length), cs[i * 3]? = some (.int .i64 rs[i].1) ∧ cs[i * 3 + 1]? = some (.int .i64 rs[i].2.1) ∧ ∃ A n c, cs[i * 3 + 2]? = some (.slice A n c) ∧ Bd A n rs[i].2.2
section
variable {Bd Bd' : Option Addr → Nat → List Int → Prop} {cs cs' : List Value} {rs rs' : List Raw}
theorem Rs.nil_ : Rs Bd [] [] := ⟨rfl, fun i h => absurd h (by simp)⟩
theorem Rs.imp (h : Rs Bd cs rs) (k : ∀ A n l, Bd A n l → Bd' A n l) : Rs Bd' cs rs :=
  ⟨h.len, fun i hi => by
    obtain ⟨h0, h1, A, n, c, h2, h3⟩ := h.at_ i hi
    exact ⟨h0, h1, A, n, c, h2, k _ _ _ h3⟩⟩
theorem Rs.app (h : Rs Bd cs rs) (h' : Rs Bd cs' rs') : Rs Bd (cs ++ cs') (rs ++ rs') := by
  refine ⟨by rw [List.length_append, List.length_append, h.len, h'.len, Nat.add_mul], fun i hi => ?_⟩
  have hl := h.len
  rcases Nat.lt_or_ge i rs.length with hlt | hge
  · obtain ⟨h0, h1, A, n, c, h2, h3⟩ := h.at_ i hlt
    refine ⟨by rw [List.getElem?_append_left (by omega), List.getElem_append_left hlt]; exact h0, by rw [List.getElem?_append_left (by omega), List.getElem_append_left hlt]; exact h1, A, n, c, by rw [List.getElem?_append_left (by omega)]; exact h2, by rw [List.getElem_append_left hlt]; exact h3⟩
  · have hi' : i - rs.length < rs'.length := by rw [List.length_append] at hi; omega
    obtain ⟨h0, h1, A, n, c, h2, h3⟩ := h'.at_ (i - rs.length) hi'
    refine ⟨by rw [List.getElem?_append_right (by omega), List.getElem_append_right hge, ← h0]; congr 1; omega, by rw [List.getElem?_append_right (by omega), List.getElem_append_right hge, ← h1]; congr 1; omega, A, n, c, by rw [List.getElem?_append_right (by omega), ← h2]; congr 1; omega, by rw [List.getElem_append_right hge]; exact h3⟩
theorem Rs.one {f k : Int} {A : Option Addr} {n c : Nat} {b : List Int} (h : Bd A n b) : Rs Bd [.int .i64 f, .int .i64 k, .slice A n c] [(f, k, b)] :=
  ⟨rfl, fun i hi => by
    obtain rfl : i = 0 := by simp at hi; omega
    exact ⟨rfl, rfl, A, n, c, rfl, h⟩⟩
end

def BodyN (lo : Nat) (w : World) (A : Option Addr) (n : Nat) (l : List Int) : Prop :=
  Oct l ∧ l.length = n ∧ (n = 0 ∨ ∃ i e, A = some ⟨i, 0, none⟩ ∧ lo ≤ i ∧ Byt w i 5 (l ++ e) ∧ Oct e)
theorem BodyN.keep {lo : Nat} {w w' : World} {A : Option Addr} {n : Nat} {l : List Int} (h : BodyN lo w A n l) (hk : ∀ i c, w.heap[i]? = some (.cells c 5 (0, 0)) → lo ≤ i → w'.heap[i]? = w.heap[i]?) : BodyN lo w' A n l :=
  ⟨h.1, h.2.1, h.2.2.imp id fun ⟨i, e, a, b, d, f⟩ => ⟨i, e, a, b, (hk i _ d b).trans d, f⟩⟩
theorem BodyN.rd {lo : Nat} {w : World} {A : Option Addr} {n : Nat} {l : List Int} (h : BodyN lo w A n l) : Rd w w.heap.size A n l := by
  obtain ⟨ho, hl, rfl | ⟨g, e, rfl, _, hb, he⟩⟩ := h
  · obtain rfl : l = [] := List.eq_nil_of_length_eq_zero hl
    exact Rd.nil_ A
  · have := hb.rd (fun x hx => (List.mem_append.1 hx).elim (ho x) (he x)) (k := n) (by simp; omega) hb.lt
    rwa [List.take_append_of_le_length (by omega), List.take_of_length_le (by omega)] at this
theorem New.body {lo : Nat} {w w' : World} {A : Option Addr} {n : Nat} {l : List Int} (h : New 5 w w' A n l) (hl : lo ≤ w.heap.size) : BodyN lo w' A n l :=
  ⟨h.1, h.2.1, h.2.2.imp id fun ⟨g, a, b, c⟩ => ⟨g, [], a, by omega, by rw [List.append_nil]; exact c, fun x h => by cases h⟩⟩

def OwnR (lo : Nat) (w : World) (v : Value) (rs : List Raw) : Prop := ∃ cs, w.ownsRow lo 67 3 v rs.length cs ∧ Rs (BodyN lo w) cs rs
theorem OwnR.nil_ (lo : Nat) (w : World) : OwnR lo w (.slice none 0 0) [] := ⟨[], World.ownsRow_nil _ _ _ _, Rs.nil_⟩
theorem OwnR.keep {lo : Nat} {w w' : World} {v : Value} {rs : List Raw} (h : OwnR lo w v rs) (hk : ∀ i c t, w.heap[i]? = some (.cells c t (0, 0)) → lo ≤ i → (t = 67 ∨ t = 5) → w'.heap[i]? = w.heap[i]?) : OwnR lo w' v rs := by
  obtain ⟨cs, h1, h2⟩ := h
  exact ⟨cs, own_keep h1 fun i c hi hb _ => hk i c _ hi hb (.inl rfl), h2.imp fun A n l hb => hb.keep fun i c hi hlo => hk i c _ hi hlo (.inr rfl)⟩
theorem OwnR.below {lo : Nat} {w w' : World} {v : Value} {rs : List Raw} (h : OwnR lo w v rs) (hb : Below w.heap.size w w') : OwnR lo w' v rs :=
  h.keep fun i c t hi _ _ => hb.block i (Array.getElem?_eq_some_iff.1 hi).1
theorem OwnR.low {lo lo' : Nat} {w : World} {v : Value} {rs : List Raw} (h : OwnR lo w v rs) (hl : lo' ≤ lo) : OwnR lo' w v rs := by
  obtain ⟨cs, h1, h2⟩ := h
  exact ⟨cs, own_low h1 hl, h2.imp fun A n l hb => ⟨hb.1, hb.2.1, hb.2.2.imp id fun ⟨i, e, a, b, d⟩ => ⟨i, e, a, by omega, d⟩⟩⟩

structure RdR (w : World) (B : Nat) (A : Option Addr) (n : Nat) (rs : List Raw) : Prop where
  len : rs.length = n
  at_ : 0 < n → ∃ b off, A = some ⟨b, off, none⟩ ∧ b < B ∧ ∀ i (h : i < rs.length), ∃ A1 n1 c1, w.cell? ⟨b, off + i * 3, none⟩ = some (.int .i64 rs[i].1) ∧ w.cell? ⟨b, off + i * 3 + 1, none⟩ = some (.int .i64 rs[i].2.1) ∧ w.cell? ⟨b, off + i * 3 + 2, none⟩ = some (.slice A1 n1 c1) ∧ Rd w B A1 n1 rs[i].2.2
theorem RdR.nil_ {w : World} {B : Nat} (A : Option Addr) : RdR w B A 0 [] := ⟨rfl, fun h => absurd h (by omega)⟩
theorem RdR.below {w w' : World} {B n : Nat} {A : Option Addr} {rs : List Raw} (h : RdR w B A n rs) (hb : Below B w w') : RdR w' B A n rs :=
  ⟨h.len, fun hn => by
    obtain ⟨b, off, e, hlt, hc⟩ := h.at_ hn
    refine ⟨b, off, e, hlt, fun i hi => ?_⟩
    obtain ⟨A1, n1, c1, h0, h1, h2, h3⟩ := hc i hi
    exact ⟨A1, n1, c1, (hb.cell (p := ⟨b, off + i * 3, none⟩) hlt).trans h0, (hb.cell (p := ⟨b, off + i * 3 + 1, none⟩) hlt).trans h1, (hb.cell (p := ⟨b, off + i * 3 + 2, none⟩) hlt).trans h2, h3.below hb⟩⟩
theorem RdR.more {w : World} {B B' n : Nat} {A : Option Addr} {rs : List Raw} (h : RdR w B A n rs) (hb : B ≤ B') : RdR w B' A n rs :=
  ⟨h.len, fun hn => by
    obtain ⟨b, off, e, hlt, hc⟩ := h.at_ hn
    refine ⟨b, off, e, by omega, fun i hi => ?_⟩
    obtain ⟨A1, n1, c1, h0, h1, h2, h3⟩ := hc i hi
    exact ⟨A1, n1, c1, h0, h1, h2, h3.more hb⟩⟩
theorem OwnR.rd {lo : Nat} {w : World} {v : Value} {rs : List Raw} (h : OwnR lo w v rs) : ∃ A c, v = .slice A rs.length c ∧ RdR w w.heap.size A rs.length rs := by
  obtain ⟨cs, h1, h2⟩ := h
  rcases h1.2 with ⟨rfl, hn⟩ | ⟨g, cap, cur, rfl, hb, hg, hnc, hcm, hcs, hx⟩
  · exact ⟨none, 0, by rw [hn], ⟨rfl, fun hp => by omega⟩⟩
  · refine ⟨_, cap, rfl, ⟨rfl, fun _ => ⟨g, 0, rfl, (Array.getElem?_eq_some_iff.1 hg).1, fun i hi => ?_⟩⟩⟩
    have hcell : ∀ j u, cs[j]? = some u → w.cell? ⟨g, j, none⟩ = some u := by
      intro j u hu
      rw [← hx, List.getElem?_take] at hu
      split at hu
      · simp only [World.cell?, hg]
        rw [← Array.getElem?_toList]
        exact hu
      · cases hu
    obtain ⟨k0, k1, A1, n1, c1, k2, k3⟩ := h2.at_ i hi
    refine ⟨A1, n1, c1, ?_, ?_, ?_, k3.rd⟩
    · rw [Nat.zero_add]; exact hcell _ _ k0
    · rw [Nat.zero_add]; exact hcell _ _ k1
    · rw [Nat.zero_add]; exact hcell _ _ k2

theorem app_raw_wp {o : Oper} {a : Act} {K : Act → World → Prop} {Q : Exit → Act → World → Prop} (s x : Operand)
    (ho : o.op = .call { callee := .builtin .append, args := #[s, x], argTypes := #[64, 64] }) {lo : Nat} {w : World} {v : Value} {T : List Raw} (h : OwnR lo w v T) (hlo : lo ≤ w.heap.size) (hlen : T.length ≤ 3000000000000)
    {f k : Int} {A : Option Addr} {n c : Nat} {body : List Int} (hb : BodyN lo w A n body) (hs : a.eval s = v) (hx : a.eval x = .slice (some ⟨w.heap.size, 0, none⟩) 1 1)
    (hk : ∀ v' w', OwnR lo w' v' (T ++ [(f, k, body)]) → w.grownBy w' v.ownBlock → (∀ i, v.ownBlock = some i → lo ≤ i ∧ ∃ c, w.heap[i]? = some (.cells c 67 (0, 0))) → K (a.put o.dst v') w') :
    o.wp Tryz.prog a (w.alloc (.cells #[.int .i64 f, .int .i64 k, .slice A n c] 67)) K Q := by
  obtain ⟨i, hi, hz0, hz1, hz2⟩ := info_parts info_raw
  obtain ⟨cs, h1, h2⟩ := h
  have hB := Blk.new w 67 #[.int .i64 f, .int .i64 k, .slice A n c]
  obtain ⟨v', w', hrun, hown, hgr, _, _⟩ := run_append_own_at (P := Tryz.prog) (w.alloc (.cells #[.int .i64 f, .int .i64 k, .slice A n c] 67)) lo 64 o.type 67 i _ 3 40 Tryz.underlying64 hi hz0 hz1 hz2 rfl (by decide) v T.length cs (h1.alloc _) ⟨w.heap.size, 0, none⟩ 1 1 [.int .i64 f, .int .i64 k, .slice A n c] rfl (by
      intro j u hu
      rw [show ((⟨w.heap.size, 0, none⟩ : Addr).add j) = ⟨w.heap.size, j, none⟩ from by unfold Addr.add; split <;> simp_all, hB.cell]
      simpa using hu) (by
      intro u hu
      simp only [List.mem_cons, List.mem_nil_iff, or_false] at hu
      rcases hu with rfl | rfl | rfl <;> rfl) (by unfold maxLen; omega) (by omega) (by simp; omega)
  have hold : ∀ i, v.ownBlock = some i → lo ≤ i ∧ ∃ c, w.heap[i]? = some (.cells c 67 (0, 0)) := fun i hi => ⟨(h1.lt i hi).1, own_heap h1 hi⟩
  have hg2 : w.grownBy w' v.ownBlock := ⟨hgr.os, hgr.tape, hgr.output, Nat.le_trans (by simp) hgr.size, fun j hj hne => (hgr.block j (by simp; omega) hne).trans (Below.heap_alloc _ _ _ hj)⟩
  have hkeep : ∀ A n l, BodyN lo w A n l → BodyN lo w' A n l := fun A n l hb => hb.keep fun j c hj _ => hg2.block j (Array.getElem?_eq_some_iff.1 hj).1 (fun e => by
    obtain ⟨_, c', hc'⟩ := hold j e.symm
    exact row_ne hj hc' (by decide) rfl)
  unfold Oper.wp execOp
  simp only [ho, resolve, invoke, builtin, Sem.run_bind, Sem.run_pure, Result.andThen_ok, List.map_toArray, List.map_cons, List.map_nil, hs, hx, hrun]
  exact hk v' w' ⟨_, by simpa using hown, (h2.imp hkeep).app (Rs.one (hkeep _ _ _ hb))⟩ hg2 hold
theorem app_raw {ops : Array Oper} {rest : List Oper} {o : Oper} {a : Act} {Q : Exit → Act → World → Prop} (hgd : o.guard = none) (s x : Operand)
    (ho : o.op = .call { callee := .builtin .append, args := #[s, x], argTypes := #[64, 64] }) {lo : Nat} {w : World} {v : Value} {T : List Raw} (h : OwnR lo w v T) (hlo : lo ≤ w.heap.size) (hlen : T.length ≤ 3000000000000)
    {f k : Int} {A : Option Addr} {n c : Nat} {body : List Int} (hb : BodyN lo w A n body) (hs : a.eval s = v) (hx : a.eval x = .slice (some ⟨w.heap.size, 0, none⟩) 1 1)
    (hk : ∀ v' w', OwnR lo w' v' (T ++ [(f, k, body)]) → w.grownBy w' v.ownBlock → (∀ i, v.ownBlock = some i → lo ≤ i ∧ ∃ c, w.heap[i]? = some (.cells c 67 (0, 0))) → wpList Tryz.prog ops Q rest (a.put o.dst v') w') :
    wpList Tryz.prog ops Q (o :: rest) a (w.alloc (.cells #[.int .i64 f, .int .i64 k, .slice A n c] 67)) :=
  wpList_plain hgd fun _ hK => app_raw_wp s x ho h hlo hlen hb hs hx fun v' w' h1 h2 h3 => hK _ _ (hk v' w' h1 h2 h3)
end Go.Proofs.YtdgoeibfggjbmaaGreatDoor
namespace Go.Proofs.YtdgoeibfggjbmaaGreatDoor
open Go.RowKit
set_option maxRecDepth 100000
set_option linter.unusedSimpArgs false
set_option linter.unusedVariables false

def Nexted (w : World) (g : Nat) (l : List Int) (at_ : Nat) (e : Ending) (w' : World) : Prop :=
  ∃ A n, e = .returned (.agg #[.int .i64 (nx l at_).f, .int .i64 (nx l at_).k, .slice A n n]) ∧ New 5 w w' A n (stepTook l (nx l at_).a (nx l at_).e (nx l at_).n) ∧
    IsCur w' g l (stepAt l (nx l at_).a (nx l at_).e (nx l at_).n) (stepErr l (nx l at_).a (nx l at_).e (nx l at_).n) ∧ w.grownBy w' (some g)
theorem wrap_num {x : Int} (h : 0 ≤ x ∧ x ≤ 65535) : IntKind.i64.wrap x = x := by rw [IntKind.wrap_i64]; omega

theorem New.grown {t : TypeId} {w w' w2 : World} {A : Option Addr} {n : Nat} {l : List Int} {g : Nat} (h : New t w w' A n l) (hb : w'.grownBy w2 (some g)) (hg : g < w.heap.size) : New t w w2 A n l :=
  ⟨h.1, h.2.1, h.2.2.imp id fun ⟨i, a, b, c⟩ => ⟨i, a, b, c.grown hb (fun e => by injection e; omega)⟩⟩

set_option maxHeartbeats 1000000 in
theorem next_is (w : World) (g : Nat) (l : List Int) (at_ : Nat) (h : IsCur w g l at_ 0) (ho : Oct l) :
    Calls Tryz.prog 167 #[.pointer (some ⟨g, 0, none⟩)] w (Nexted w g l at_) := by
  have hg := h.lt
  have hb0 : Below w.heap.size w (w.alloc (.cells #[.int .i64 0, .int .i64 0, .slice none 0 0] 67)) := (Below.refl _ _).alloc (Nat.le_refl _) _
  have HC := Lib.hid (h.keep (hb0.mono hg))
  have HN := Lib.hid (Blk.new w 67 #[.int .i64 0, .int .i64 0, .slice none 0 0])
  have HG : Hid (w.grownBy (w.alloc (.cells #[.int .i64 0, .int .i64 0, .slice none 0 0] 67)) (some g)) := Lib.hid (only_of_below hb0 _)
  unfold Nexted nx
  simp only
  clear h hb0
  go_enter Tryz.func167, Tryz.ntmps167
  go_wp2_with fail
  refine (num_is _ g l at_ 0 1 HC.out).mono ?_
  generalize (w.alloc (.cells #[.int .i64 0, .int .i64 0, .slice none 0 0] 67)) = w0 at *
  rintro e w1 ⟨rfl, hc1, hg1⟩
  have bf := numVal_bd l at_ 0 1 ho (by decide)
  generalize h_f : numVal l at_ 0 1 = f at *
  have H_f := Lib.hid h_f
  clear h_f
  generalize h_a1 : numAt l at_ 0 1 = a1 at *
  have H_a1 := Lib.hid h_a1
  clear h_a1
  generalize h_e1 : numErr l at_ 0 1 = e1 at *
  have H_e1 := Lib.hid h_e1
  clear h_e1
  have wf := wrap_num bf
  have HC1 := Lib.hid hc1
  have HN1 := Lib.hid (HN.out.grown hg1 (fun e => by injection e; omega))
  have HG1 := Lib.hid (only_trans HG.out hg1)
  clear hc1 hg1 HC HN HG
  go_wp2_with fail
  refine (num_is _ g l a1 e1 1 HC1.out).mono ?_
  rintro e w2 ⟨rfl, hc2, hg2⟩
  have bk := numVal_bd l a1 e1 1 ho (by decide)
  generalize h_k : numVal l a1 e1 1 = k at *
  have H_k := Lib.hid h_k
  clear h_k
  generalize h_a2 : numAt l a1 e1 1 = a2 at *
  have H_a2 := Lib.hid h_a2
  clear h_a2
  generalize h_e2 : numErr l a1 e1 1 = e2 at *
  have H_e2 := Lib.hid h_e2
  clear h_e2
  have wk := wrap_num bk
  have HC2 := Lib.hid hc2
  have HN2 := Lib.hid (HN1.out.grown hg2 (fun e => by injection e; omega))
  have HG2 := Lib.hid (only_trans HG1.out hg2)
  clear hc2 hg2 HC1 HN1 HG1
  go_wp2_with fail
  refine (lengthSize_is _ f).mono ?_
  rintro e w' ⟨rfl, rfl⟩
  have hls := lsz_12 f
  generalize h_s : lsz f = s at *
  have H_s := Lib.hid h_s
  clear h_s
  go_wp2_with fail
  refine (num_is _ g l a2 e2 s HC2.out).mono ?_
  rintro e w3 ⟨rfl, hc3, hg3⟩
  have bn := numVal_bd l a2 e2 s ho (by omega)
  generalize h_n : numVal l a2 e2 s = n at *
  have H_n := Lib.hid h_n
  clear h_n
  generalize h_a3 : numAt l a2 e2 s = a3 at *
  have H_a3 := Lib.hid h_a3
  clear h_a3
  generalize h_e3 : numErr l a2 e2 s = e3 at *
  have H_e3 := Lib.hid h_e3
  clear h_e3
  have wn := wrap_num bn
  have HC3 := Lib.hid hc3
  have HN3 := Lib.hid (HN2.out.grown hg3 (fun e => by injection e; omega))
  have HG3 := Lib.hid (only_trans HG2.out hg3)
  clear hc3 hg3 HC2 HN2 HG2
  go_wp2_with fail
  refine (take_is _ g l a3 e3 n HC3.out).mono ?_
  rintro e w4 ⟨A, rfl, hn4, hc4, hg4⟩
  have hN4 := HN3.out.grown hg4 (fun e => by injection e; omega)
  have HC4 := Lib.hid hc4
  have HG4 := Lib.hid (only_trans HG3.out hg4)
  have HW4 := Lib.hid (hn4.from_ HG3.out.size)
  have HN4 := Lib.hid hN4
  clear hn4 hc4 hg4 HC3 HN3 HG3 hN4
  generalize h_tk : stepTook l a3 e3 n = tk at *
  have H_tk := Lib.hid h_tk
  clear h_tk
  generalize h_a4 : stepAt l a3 e3 n = a4 at *
  have H_a4 := Lib.hid h_a4
  clear h_a4
  generalize h_e4 : stepErr l a3 e3 n = e4 at *
  have H_e4 := Lib.hid h_e4
  clear h_e4
  go_wp2_with (refine raw_store rfl _ _ rfl w.heap.size f k A tk.length tk.length rfl rfl 67 _ HN4.out rfl ?_)
  try simp only [Exit.inBlock, Exit.then]
  have hA : New 5 w (w4.setRow w.heap.size #[.int .i64 f, .int .i64 k, .slice A tk.length tk.length]) A tk.length tk := ⟨HW4.out.1, HW4.out.2.1, HW4.out.2.2.imp id fun ⟨i, a, b, c⟩ => ⟨i, a, b, (setRow_other w4 w.heap.size i _ (row_ne c HN4.out (by decide))).trans c⟩⟩
  have hB : IsCur (w4.setRow w.heap.size #[.int .i64 f, .int .i64 k, .slice A tk.length tk.length]) g l a4 e4 := HC4.out.keep (below_setRow _ w.heap.size _ (B := g + 1) (by omega))
  have hC : w.grownBy (w4.setRow w.heap.size #[.int .i64 f, .int .i64 k, .slice A tk.length tk.length]) (some g) := ⟨HG4.out.os, HG4.out.tape, HG4.out.output, by rw [size_setRow]; exact HG4.out.size, fun i hi hne => (setRow_other w4 w.heap.size i _ (by omega)).trans (HG4.out.block i hi hne)⟩
  refine bodyPost_ret (results_cell_row rfl _ _ w.heap.size 67 _ (0, 0) _ rfl (Blk.setRow HN4.out _) Tryz.underlying67 rfl rsz) rfl ?_
  obtain rfl := H_f.out
  obtain rfl := H_a1.out
  obtain rfl := H_e1.out
  obtain rfl := H_k.out
  obtain rfl := H_a2.out
  obtain rfl := H_e2.out
  obtain rfl := H_s.out
  obtain rfl := H_n.out
  obtain rfl := H_a3.out
  obtain rfl := H_e3.out
  obtain rfl := H_tk.out
  obtain rfl := H_a4.out
  obtain rfl := H_e4.out
  exact ⟨A, _, rfl, hA, hB, hC⟩

def Splitted (w : World) (l : List Int) (e : Ending) (w' : World) : Prop :=
  Below w.heap.size w w' ∧ match split l with
    | some rs => ∃ v, e = .returned (.tuple #[v, .int .i64 0]) ∧ OwnR w.heap.size w' v rs
    | none => e = .returned (.tuple #[.slice none 0 0, .int .i64 3])
structure SplRel (w : World) (g : Nat) (T : TypeId) (l : List Int) (v : Value) (wr : World) (at_ : Nat) (done : List Raw) : Prop where
  cur : IsCurT T wr g l at_ 0
  own : OwnR (g + 1) wr v done
  bel : Below w.heap.size w wr
  goes : ∃ m, l.length - at_ ≤ m ∧ split l = (spl m (l.drop at_)).map (done ++ ·)
  cnt : done.length ≤ at_
theorem spl_end {l : List Int} {at_ : Nat} {done : List Raw} (h : ∃ m, l.length - at_ ≤ m ∧ split l = (spl m (l.drop at_)).map (done ++ ·)) (he : at_ = l.length) : split l = some done := by
  obtain ⟨m, _, h⟩ := h
  rw [h, List.drop_of_length_le (by omega), spl_nil]
  simp
theorem spl_bad {l : List Int} {at_ : Nat} {done : List Raw} (h : ∃ m, l.length - at_ ≤ m ∧ split l = (spl m (l.drop at_)).map (done ++ ·)) (hlt : at_ < l.length) (ho : one (l.drop at_) = none) : split l = none := by
  obtain ⟨m, hm, h⟩ := h
  obtain ⟨m, rfl⟩ : ∃ q, m = q + 1 := ⟨m - 1, by omega⟩
  rw [h, spl_none (by simp; omega) ho]
  rfl
theorem spl_step {l : List Int} {at_ k : Nat} {done : List Raw} {x : Raw} (h : ∃ m, l.length - at_ ≤ m ∧ split l = (spl m (l.drop at_)).map (done ++ ·)) (hlt : at_ < l.length) (ho : one (l.drop at_) = some (x, k)) :
    ∃ m, l.length - (at_ + k) ≤ m ∧ split l = (spl m (l.drop (at_ + k))).map ((done ++ [x]) ++ ·) := by
  obtain ⟨m, hm, h⟩ := h
  obtain ⟨m, rfl⟩ : ∃ q, m = q + 1 := ⟨m - 1, by omega⟩
  have hp := one_pos ho
  refine ⟨m, by omega, ?_⟩
  rw [h, spl_some (by simp; omega) ho, List.drop_drop]
  cases spl m (l.drop (at_ + k)) <;> simp

theorem OwnR.cur {lo : Nat} {w w' : World} {v : Value} {rs : List Raw} {g : Nat} {T : TypeId} {l : List Int} {a : Nat} {e : Int} (h : OwnR lo w v rs) (hc : IsCurT T w g l a e) (hg : w.grownBy w' (some g)) (h1 : T ≠ 67) (h2 : T ≠ 5) : OwnR lo w' v rs :=
  h.keep fun i c t hi _ ht => hg.block i (Array.getElem?_eq_some_iff.1 hi).1 (fun e => by
    injection e with e
    subst e
    obtain ⟨_, _, q, _, _⟩ := hc.ex
    unfold CurT Blk at q
    rw [hi] at q
    injection q with q
    injection q with _ q
    rcases ht with rfl | rfl
    · exact h1 q.symm
    · exact h2 q.symm)

set_option maxHeartbeats 2000000 in
theorem split_is (w : World) (A : Option Addr) (n c : Nat) (l : List Int) (hr : Rd w w.heap.size A n l) (hm : n ≤ 3000000000000) :
    Calls Tryz.prog 116 #[.slice A n c] w (Splitted w l) := by
  have HO := Lib.hid hr.oct
  have hln := hr.len
  have HR := Lib.hid hr
  clear hr
  go_enter Tryz.func116, Tryz.ntmps116
  go_wp2_with fail
  refine (new_is w A n c l HR.out (by omega)).mono ?_
  rintro e w1 ⟨g, rfl, hg, hcur, hB⟩
  have HC := Lib.hid hcur
  have HB := Lib.hid hB
  have HG := Lib.hid hg
  clear hcur hB hg
  go_wp2
  go_loopw [4, 6, 7] (fun v _ _ wr => ∃ at_ done, SplRel w g 212 l v wr at_ done) (fun _ _ _ wr => l.length - (intOf ((wr.cell? ⟨g, 1, none⟩).getD (.int .i64 0))).toNat)
  case atStart => exact ⟨0, [], HC.out, OwnR.nil_ _ _, HB.out, ⟨l.length, by omega, by simp [split]⟩, Nat.zero_le _⟩
  case round =>
    obtain ⟨at_, done, hrel⟩ := hrel
    have HRel := Lib.hid hrel
    have hle := hrel.cur.le
    clear hrel HC HB HR
    go_wp2_with fail
    refine (leftC_is _ g l at_ 0 HRel.out.cur).mono ?_
    rintro e w2 ⟨rfl, k1, rfl⟩
    by_cases hlt : at_ < l.length
    · have hp : (0 : Int) < (l.length : Int) - at_ := by omega
      go_wp2_with fail
      refine (next_is _ g l at_ (HRel.out.cur.drewN k1) HO.out).mono ?_
      rintro e w3 ⟨A3, n3, rfl, hn3, hc3, hg3⟩
      have hsz3 : wr.heap.size ≤ w3.heap.size := hg3.size
      have hB3 : Below w.heap.size w w3 := below_only (below_drewN HRel.out.bel k1) hg3 HRel.out.bel.size (fun j e => by injection e with e; rw [← e]; exact HG.out)
      have hO3 : OwnR (g + 1) w3 u4 done := (HRel.out.own.below (below_drewN (Below.refl _ _) k1)).cur (HRel.out.cur.drewN k1) hg3 (by decide) (by decide)
      have hN3 := hn3.body (lo := g + 1) HRel.out.cur.lt
      have hal : Below w3.heap.size w3 (w3.alloc (.cells #[.int .i64 (nx l at_).f, .int .i64 (nx l at_).k, .slice A3 n3 n3] 67)) := (Below.refl _ _).alloc (Nat.le_refl _) _
      have hcz := hc3.lt
      have HC4 := Lib.hid (hc3.keep (hal.mono hcz))
      have HB4 := Lib.hid (hB3.trans (hal.mono hB3.size))
      have HO4 := Lib.hid (hO3.below hal)
      have HN4 := Lib.hid (hN3.keep (w' := w3.alloc (.cells #[.int .i64 (nx l at_).f, .int .i64 (nx l at_).k, .slice A3 n3 n3] 67)) fun i c hi _ => hal.block i (Array.getElem?_eq_some_iff.1 hi).1)
      have HR4 := Lib.hid (Blk.new w3 67 #[.int .i64 (nx l at_).f, .int .i64 (nx l at_).k, .slice A3 n3 n3])
      have HM0 : Hid ((wr.cell? ⟨g, 1, none⟩) = some (.int .i64 at_)) := Lib.hid (by obtain ⟨_, _, q, _, _⟩ := HRel.out.cur.ex; exact Blk.cell q 1)
      clear hn3 hc3 hg3 hB3 hO3 hN3 hal
      cases ho : one (l.drop at_) with
      | none =>
        have he := nx_no l at_ HO.out hle ho
        have HS := Lib.hid (spl_bad HRel.out.goes hlt ho)
        rw [he] at HC4
        clear he ho
        generalize (nx l at_).f = f at *
        generalize (nx l at_).k = k at *
        go_wp2_with fail
        refine (err_is _ g l _ 3 HC4.out).mono ?_
        rintro e w5 ⟨rfl, rfl⟩
        go_wp2
        go_ret2
        exact ⟨HB4.out, by rw [HS.out]; rfl⟩
      | some r =>
        obtain ⟨x, m⟩ := r
        obtain ⟨q1, q2, q3, q4, q5⟩ := nx_ok l at_ x m HO.out hle ho
        have HS := Lib.hid (spl_step HRel.out.goes hlt ho)
        have hp := one_pos ho
        rw [List.length_drop] at hp
        rw [q3] at HN4
        rw [q4, q5] at HC4
        rw [q1, q2] at HC4 HB4 HO4 HN4 HR4
        rw [q1, q2]
        have HCnt := Lib.hid HRel.out.cnt
        clear q1 q2 q3 q4 q5 ho HRel
        obtain ⟨f, k, bd⟩ := x
        simp only at *
        have HLen : Hid (done.length ≤ 3000000000000) := Lib.hid (by have := HCnt.out; omega)
        go_wp2_with fail
        refine (err_is _ g l _ 0 HC4.out).mono ?_
        generalize hw4 : w3.alloc (.cells #[.int .i64 f, .int .i64 k, .slice A3 n3 n3] 67) = w4 at *
        rintro e w5 ⟨rfl, rfl⟩
        have c0 : w4.cell? ⟨w3.heap.size, 0, none⟩ = some (.int .i64 f) := HR4.out.cell 0
        have c1 : w4.cell? ⟨w3.heap.size, 1, none⟩ = some (.int .i64 k) := HR4.out.cell 1
        have c2 : w4.cell? ⟨w3.heap.size, 2, none⟩ = some (.slice A3 n3 n3) := HR4.out.cell 2
        have HZ4 : Hid (g + 1 ≤ w4.heap.size) := Lib.hid HC4.out.lt
        clear hw4 HR4
        go_wp2_with (first
          | (refine raw_fetch rfl _ rfl w3.heap.size 0 f k A3 n3 n3 rfl c0 c1 c2 ?_)
          | (at_builtin; refine app_raw (f := f) (k := k) (body := bd) rfl _ _ rfl HO4.out HZ4.out HLen.out HN4.out rfl rfl ?_))
        intro v' w6 hO6 hg6 hold
        have hb6 : Below (g + 1) w4 w6 := (Below.refl _ _).grown hg6 HZ4.out (fun i e => (hold i e).1)
        have hC6 : IsCur w6 g l (at_ + m) 0 := HC4.out.keep hb6
        have HR6 : Hid (SplRel w g 212 l v' w6 (at_ + m) (done ++ [(f, k, bd)])) := Lib.hid ⟨hC6, hO6, HB4.out.trans (hb6.mono (Nat.le_succ_of_le HG.out)), HS.out, by have := HCnt.out; simp; omega⟩
        clear hO6 hg6 hold hb6 hC6 c0 c1 c2
        go_wp2
        refine ⟨⟨at_ + m, _, HR6.out⟩, ?_⟩
        have hM6 : w6.cell? ⟨g, 1, none⟩ = some (.int .i64 (at_ + m : Nat)) := by obtain ⟨_, _, q, _, _⟩ := HR6.out.cur.ex; exact Blk.cell q 1
        rw [HM0.out, hM6]
        simp [intOf]
        omega
    · obtain rfl : at_ = l.length := by omega
      have HS := Lib.hid (spl_end HRel.out.goes rfl)
      go_wp2
      go_ret2
      exact ⟨below_drewN HRel.out.bel k1, by rw [HS.out]; exact ⟨_, rfl, (HRel.out.own.below (below_drewN (Below.refl _ _) k1)).low (Nat.le_succ_of_le HG.out)⟩⟩
end Go.Proofs.YtdgoeibfggjbmaaGreatDoor
namespace Go.Proofs.YtdgoeibfggjbmaaGreatDoor
open Go.RowKit
set_option maxRecDepth 100000
set_option linter.unusedSimpArgs false
set_option linter.unusedVariables false

theorem rd_made (w : World) (l : List Int) (ho : Oct l) : Rd (w.alloc (.cells (l.map (Value.int .u8)).toArray 5)) (w.heap.size + 1) (some ⟨w.heap.size, 0, none⟩) l.length l := by
  have hb : Byt (w.alloc (.cells (l.map (Value.int .u8)).toArray 5)) w.heap.size 5 l := Blk.new w 5 _
  exact hb.rd_all ho (by omega)

end Go.Proofs.YtdgoeibfggjbmaaGreatDoor
