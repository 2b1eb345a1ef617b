/-
  Put together: Words Num Mid OctA OctB OctC OctD OctE OctG OctH.
-/
import Derived.WalkKit
import Derived.Below
import Derived.Laws.BytesArg
import Derived.Laws.CopyRow
import Derived.Laws.CopyOwn
import Derived.Deep.OwnRows
import Derived.Deep.Draws
import Derived.Lib.Hide
import Derived.Laws.BitsAllLaws
import Derived.DeepKeys
import Derived.Deep.MidRow
import Derived.Deep.RegionHeld3
import Derived.Laws.Rows
import Derived.Laws.Tables
import Derived.Test.YtdgoeibfggjbmaaGreatDoorProg
import Derived.Outline
import Derived.BigQuiet
import Derived.WalkLawsBesides
namespace Go.Proofs.YtdgoeibfggjbmaaGreatDoor
open Go.RowKit
set_option maxRecDepth 100000

theorem zP {α : Type} (l : List α) (i : Nat) (a : α) : l.toArray.setIfInBounds i a = (l.set i a).toArray := List.setIfInBounds_toArray ..
theorem zQ {α : Type} (x : α) (l : List α) (a : α) : (x :: l).set 0 a = a :: l := List.set_cons_zero ..
theorem zR {α : Type} (x : α) (l : List α) (n : Nat) (a : α) : (x :: l).set (n + 1) a = x :: l.set n a := List.set_cons_succ ..
def Oct (l : List Int) : Prop := ∀ x ∈ l, 0 ≤ x ∧ x < 256

theorem Oct.getD {l : List Int} (h : Oct l) (i : Nat) : 0 ≤ l.getD i 0 ∧ l.getD i 0 < 256 := by
  rcases Nat.lt_or_ge i l.length with hi | hi
  · have := h l[i] (List.getElem_mem hi)
    simpa [List.getD, List.getElem?_eq_getElem hi] using this
  · simp [List.getD, List.getElem?_eq_none hi]

structure Rd (w : World) (B : Nat) (A : Option Addr) (n : Nat) (l : List Int) : Prop where
  len : l.length = n
  oct : Oct l
  at_ : 0 < n → ∃ b off, A = some ⟨b, off, none⟩ ∧ b < B ∧ ∀ i, i < n → w.cell? ⟨b, off + i, none⟩ = some (.int .u8 (l.getD i 0))

def Byt (w : World) (g : Nat) (t : TypeId) (l : List Int) : Prop := w.heap[g]? = some (.cells (l.map (Value.int .u8)).toArray t (0, 0))

def Blk (w : World) (g : Nat) (t : TypeId) (cs : Array Value) : Prop := w.heap[g]? = some (.cells cs t (0, 0))

section
variable {w w' : World} {B B' n g : Nat} {A : Option Addr} {l : List Int} {t : TypeId} {cs : Array Value}

theorem Rd.nil_ (A : Option Addr) : Rd w B A 0 [] := ⟨rfl, (fun x h => by cases h), fun h => absurd h (by omega)⟩
theorem Rd.keep (h : Rd w B A n l) (hk : ∀ p : Addr, p.block < B → w'.cell? p = w.cell? p) : Rd w' B A n l :=
  ⟨h.len, h.oct, fun hn => by
    obtain ⟨b, off, e, hb, hc⟩ := h.at_ hn
    exact ⟨b, off, e, hb, fun i hi => (hk _ hb).trans (hc i hi)⟩⟩
theorem Rd.more (h : Rd w B A n l) (hB : B ≤ B') : Rd w B' A n l :=
  ⟨h.len, h.oct, fun hn => by
    obtain ⟨b, off, e, hb, hc⟩ := h.at_ hn
    exact ⟨b, off, e, by omega, hc⟩⟩
theorem Rd.below (h : Rd w B A n l) (hb : Below B w w') : Rd w' B A n l := h.keep fun _ hp => hb.cell hp
theorem Rd.grown (h : Rd w B A n l) {row : Option Nat} (hg : w.grownBy w' row) (hB : B ≤ w.heap.size) (hr : ∀ g, row = some g → B ≤ g) : Rd w' B A n l :=
  h.keep fun p hp => World.cell?_of_block (hg.block p.block (by omega) (fun e => by have := hr _ e.symm; omega))
theorem Byt.lt (h : Byt w g t l) : g < w.heap.size := by
  rcases Nat.lt_or_ge g w.heap.size with hlt | hge
  · exact hlt
  · unfold Byt at h; rw [Array.getElem?_eq_none hge] at h; cases h
theorem Byt.cell (h : Byt w g t l) {i : Nat} (hi : i < l.length) : w.cell? ⟨g, i, none⟩ = some (.int .u8 (l.getD i 0)) := by
  unfold Byt at h
  simp [World.cell?, h, hi, List.getD]
theorem Byt.frozen (h : Byt w g t l) (i : Nat) : w.frozen? ⟨g, i, none⟩ = false := by
  unfold Byt at h
  simp [World.frozen?, h]
theorem Byt.set_ (h : Byt w g t l) (i : Nat) (x : Int) : Byt (w.setCell ⟨g, i, none⟩ (.int .u8 x)) g t (l.set i x) := by
  unfold Byt at h ⊢
  simp [World.setCell, Array.getElem?_modify, h, List.map_set, List.setIfInBounds_toArray]
theorem Byt.below (h : Byt w g t l) (hb : Below B w w') (hg : g < B) : Byt w' g t l := (hb.block g hg).trans h
theorem Byt.alloc (h : Byt w g t l) (o : Obj) : Byt (w.alloc o) g t l := (Below.heap_alloc w o g h.lt).trans h
theorem Byt.far (h : Byt w g t l) {p : Addr} (hp : g ≠ p.block) (u : Value) : Byt (w.setCell p u) g t l := (Below.heap_setCell w p u g hp).trans h
theorem Byt.grown {row : Option Nat} (h : Byt w g t l) (hb : w.grownBy w' row) (hg : some g ≠ row) : Byt w' g t l := (hb.block g h.lt hg).trans h
theorem Byt.rd (h : Byt w g t l) (ho : Oct l) {k : Nat} (hk : k ≤ l.length) (hB : g < B) : Rd w B (some ⟨g, 0, none⟩) k (l.take k) :=
  ⟨by simp; omega, fun x hx => ho x (List.mem_of_mem_take hx), fun hn => ⟨g, 0, rfl, hB, fun i hi => by
    rw [Nat.zero_add, h.cell (by omega)]
    simp [List.getD, hi]⟩⟩
theorem Byt.rd_all (h : Byt w g t l) (ho : Oct l) (hB : g < B) : Rd w B (some ⟨g, 0, none⟩) l.length l := by
  have := h.rd ho (Nat.le_refl _) hB
  rwa [List.take_length] at this

theorem Blk.lt (h : Blk w g t cs) : g < w.heap.size := by
  rcases Nat.lt_or_ge g w.heap.size with hlt | hge
  · exact hlt
  · unfold Blk at h; rw [Array.getElem?_eq_none hge] at h; cases h
theorem Blk.cell (h : Blk w g t cs) (i : Nat) : w.cell? ⟨g, i, none⟩ = cs[i]? := by
  unfold Blk at h
  simp [World.cell?, h]
theorem Blk.frozen (h : Blk w g t cs) (i : Nat) : w.frozen? ⟨g, i, none⟩ = false := by
  unfold Blk at h
  simp [World.frozen?, h]
theorem Blk.new (w : World) (t : TypeId) (cs : Array Value) : Blk (w.alloc (.cells cs t)) w.heap.size t cs := by
  unfold Blk
  show (w.heap.push _)[w.heap.size]? = _
  simp
theorem Blk.set_ (h : Blk w g t cs) (i : Nat) (u : Value) : Blk (w.setCell ⟨g, i, none⟩ u) g t (cs.setIfInBounds i u) := by
  unfold Blk at h ⊢
  simp [World.setCell, Array.getElem?_modify, h]
theorem Blk.far (h : Blk w g t cs) {p : Addr} (hp : g ≠ p.block) (u : Value) : Blk (w.setCell p u) g t cs := (Below.heap_setCell w p u g hp).trans h
theorem Blk.below (h : Blk w g t cs) (hb : Below B w w') (hg : g < B) : Blk w' g t cs := (hb.block g hg).trans h
theorem Blk.alloc (h : Blk w g t cs) (o : Obj) : Blk (w.alloc o) g t cs := (Below.heap_alloc w o g h.lt).trans h
theorem Blk.grown {row : Option Nat} (h : Blk w g t cs) (hb : w.grownBy w' row) (hg : some g ≠ row) : Blk w' g t cs := (hb.block g h.lt hg).trans h
end

/-! Only block g, and what is new, has turned: 'grownBy (some g)'. -/
section
variable {a w : World} {row : Option Nat} {g : Nat}
theorem only_refl (w : World) (row : Option Nat) : w.grownBy w row := ⟨rfl, rfl, rfl, Nat.le_refl _, fun _ _ _ => rfl⟩
theorem only_drewN (h : a.grownBy w row) (n : Nat) : a.grownBy (w.drewN n) row := ⟨h.os, h.tape, h.output, h.size, h.block⟩
theorem only_alloc (h : a.grownBy w row) (o : Obj) : a.grownBy (w.alloc o) row :=
  ⟨h.os, h.tape, h.output, Nat.le_trans h.size (by simp), fun i hi hne => (Below.heap_alloc w o i (Nat.lt_of_lt_of_le hi h.size)).trans (h.block i hi hne)⟩
theorem only_setCell (h : a.grownBy w (some g)) {p : Addr} (hp : p.block = g ∨ a.heap.size ≤ p.block) (u : Value) : a.grownBy (w.setCell p u) (some g) :=
  ⟨h.os, h.tape, h.output, by simpa [World.setCell] using h.size, fun i hi hne => (Below.heap_setCell w p u i (by
    rintro rfl
    rcases hp with hp | hp
    · exact hne (by rw [hp])
    · omega)).trans (h.block i hi hne)⟩
theorem only_of_below (h : Below a.heap.size a w) (row : Option Nat) : a.grownBy w row := ⟨h.os, h.tape, h.output, h.size, fun i hi _ => h.block i hi⟩
theorem only_trans {b : World} (h : a.grownBy b row) (k : b.grownBy w row) : a.grownBy w row :=
  ⟨k.os.trans h.os, k.tape.trans h.tape, k.output.trans h.output, Nat.le_trans h.size k.size, fun i hi hne => (k.block i (Nat.lt_of_lt_of_le hi h.size) hne).trans (h.block i hi hne)⟩
theorem below_only {b : World} {B : Nat} (h : Below B a b) (k : b.grownBy w row) (hB : B ≤ b.heap.size) (hr : ∀ g, row = some g → B ≤ g) : Below B a w := h.grown k hB hr
theorem below_drewN {B : Nat} (h : Below B a w) (n : Nat) : Below B a (w.drewN n) := ⟨h.os, h.tape, h.output, h.size, h.block⟩
end

theorem Rd.cut {w : World} {B n c k m : Nat} {A : Option Addr} {l : List Int} (h : Rd w B A n l) (hk : k + m ≤ n) (hc : n ≤ c) :
    Rd w B (if c = k then A else A.map (fun x => x.add k)) m ((l.drop k).take m) := by
  refine ⟨by have := h.len; simp; omega, fun x hx => h.oct x (List.mem_of_mem_drop (List.mem_of_mem_take hx)), fun hm => ?_⟩
  obtain ⟨b, off, rfl, hb, hcell⟩ := h.at_ (by omega)
  rw [if_neg (by omega)]
  have e : (⟨b, off, none⟩ : Addr).add k = ⟨b, off + k, none⟩ := by unfold Addr.add; split <;> simp_all
  refine ⟨b, off + k, by simp [e], hb, fun i hi => ?_⟩
  rw [Nat.add_assoc, hcell (k + i) (by omega)]
  simp [List.getD, hi]

def New (t : TypeId) (w w' : World) (A : Option Addr) (n : Nat) (l : List Int) : Prop :=
  Oct l ∧ l.length = n ∧ (n = 0 ∨ ∃ g, A = some ⟨g, 0, none⟩ ∧ w.heap.size ≤ g ∧ Byt w' g t l)

theorem New.rd {t : TypeId} {w w' : World} {A : Option Addr} {n : Nat} {l : List Int} (h : New t w w' A n l) : Rd w' w'.heap.size A n l := by
  obtain ⟨ho, hl, rfl | ⟨g, rfl, hg, hb⟩⟩ := h
  · obtain rfl : l = [] := List.eq_nil_of_length_eq_zero hl
    exact Rd.nil_ A
  · subst hl
    exact hb.rd_all ho hb.lt

theorem run_conv_rd {P : Program} (w : World) (src dst e : TypeId) (hs : P.underlying src = some (.slice e)) (he : P.underlying e = some (.int .u8)) (hd : P.underlying dst = some .string)
    {B : Nat} {A : Option Addr} {n : Nat} {l : List Int} (c : Nat) (h : Rd w B A n l) : (convert src dst (.slice A n c)).run P w = .ok (.string (strOfNums l)) w := by
  rcases Nat.eq_zero_or_pos n with h0 | hn
  · subst h0
    obtain rfl : l = [] := List.eq_nil_of_length_eq_zero h.len
    rw [run_convert_bytes_string w src dst e _ 0 c hs he hd]
    cases A <;> simp [Conv.bytesToString, loadCells]
    all_goals rfl
  · obtain ⟨b, off, rfl, _, hc⟩ := h.at_ hn
    exact run_convert_bytes_arg w src e hs he b off n c l h.len hc dst hd

theorem strOfNums_inj {a b : List Int} (ha : Oct a) (hb : Oct b) (h : strOfNums a = strOfNums b) : a = b := by
  have h1 : a.map (fun n => UInt8.ofNat n.toNat) = b.map (fun n => UInt8.ofNat n.toNat) := by
    rw [← strOfNums_data, ← strOfNums_data, h]
  have hl : a.length = b.length := by simpa using congrArg List.length h1
  apply List.ext_getElem hl
  intro i h2 h3
  have e := congrArg (fun l : List UInt8 => l[i]?) h1
  simp only [List.getElem?_map, List.getElem?_eq_getElem h2, List.getElem?_eq_getElem h3, Option.map_some, Option.some.injEq] at e
  have xa := ha a[i] (List.getElem_mem h2)
  have xb := hb b[i] (List.getElem_mem h3)
  have e' := congrArg UInt8.toNat e
  rw [UInt8.toNat_ofNat', UInt8.toNat_ofNat'] at e'
  omega
theorem beq_str (a b : List Int) (ha : Oct a) (hb : Oct b) (r : Bool) (h : decide (a = b) = r) : ((strOfNums a).toList == (strOfNums b).toList) = r := by
  subst h
  rw [Bool.eq_iff_iff, beq_iff_eq, decide_eq_true_iff]
  constructor
  · intro e
    refine strOfNums_inj ha hb ?_
    have : (strOfNums a).data.toList = (strOfNums b).data.toList := by rw [← ByteArray.toList_eq, ← ByteArray.toList_eq]; exact e
    unfold strOfNums at this ⊢
    simpa using this
  · rintro rfl
    rfl

structure Rec2 (w : World) (B : Nat) (A : Option Addr) (n : Nat) (xs : List (Int × Int)) : Prop where
  len : xs.length = n
  bd : ∀ x ∈ xs, (-9223372036854775808 ≤ x.1 ∧ x.1 < 9223372036854775808) ∧ (-9223372036854775808 ≤ x.2 ∧ x.2 < 9223372036854775808)
  at_ : 0 < n → ∃ b off, A = some ⟨b, off, none⟩ ∧ b < B ∧ ∀ i (h : i < xs.length), w.cell? ⟨b, off + i * 2, none⟩ = some (.int .i64 xs[i].1) ∧ w.cell? ⟨b, off + i * 2 + 1, none⟩ = some (.int .i64 xs[i].2)
theorem Rec2.keep {w w' : World} {B n : Nat} {A : Option Addr} {xs : List (Int × Int)} (h : Rec2 w B A n xs) (hk : ∀ p : Addr, p.block < B → w'.cell? p = w.cell? p) : Rec2 w' B A n xs :=
  ⟨h.len, h.bd, fun hn => by
    obtain ⟨b, off, e, hb, hc⟩ := h.at_ hn
    exact ⟨b, off, e, hb, fun i hi => ⟨(hk _ hb).trans (hc i hi).1, (hk _ hb).trans (hc i hi).2⟩⟩⟩
theorem Rec2.below {w w' : World} {B n : Nat} {A : Option Addr} {xs : List (Int × Int)} (h : Rec2 w B A n xs) (hb : Below B w w') : Rec2 w' B A n xs := h.keep fun _ hp => hb.cell hp

theorem wf_i64 {a : Int} (h : (Lit.int .i64 a).wf = true) : -9223372036854775808 ≤ a ∧ a < 9223372036854775808 := by
  simp [Lit.wf, IntKind.min, IntKind.max, IntKind.signed, IntKind.bits] at h
  omega

theorem byt_made (w : World) (n : Nat) (t : TypeId) : Byt (w.alloc (.cells (madeCells #[.int .u8 0] n) t)) w.heap.size t (List.replicate n 0) := by
  unfold Byt
  show (w.heap.push _)[w.heap.size]? = _
  rw [Array.getElem?_push, if_pos rfl]
  congr 2
  apply Array.ext_getElem?
  intro i
  by_cases hi : i < n <;> simp [madeCells, hi, Nat.mod_one]
end Go.Proofs.YtdgoeibfggjbmaaGreatDoor
namespace Go.Proofs.YtdgoeibfggjbmaaGreatDoor
open Go.RowKit
set_option maxRecDepth 100000

def numOf (l : List Int) : Int := l.foldl (fun n b => n * 256 + b) 0
theorem numOf_snoc (l : List Int) (b : Int) : numOf (l ++ [b]) = numOf l * 256 + b := by simp [numOf]
theorem numOf_bd_take (l : List Int) (h : Oct l) : ∀ m, m ≤ l.length → 0 ≤ numOf (l.take m) ∧ numOf (l.take m) < 256 ^ m
  | 0, _ => by simp [numOf]
  | m + 1, hm => by
    have ih := numOf_bd_take l h m (by omega)
    have hb := h l[m] (List.getElem_mem (by omega))
    rw [List.take_succ_eq_append_getElem (by omega), numOf_snoc, Int.pow_succ]
    omega
theorem numOf_bd (l : List Int) (h : Oct l) : 0 ≤ numOf l ∧ numOf l < 256 ^ l.length := by
  have := numOf_bd_take l h l.length (Nat.le_refl _)
  rwa [List.take_length] at this
theorem numOf_or (N x : Int) (h0 : 0 ≤ N) (h1 : N < 72057594037927936) (hx0 : 0 ≤ x) (hx1 : x < 256) :
    bits .or .u64 (IntKind.u64.wrap (N * 256)) (IntKind.u64.wrap x) = N * 256 + x := by
  rw [IntKind.wrap_u64, IntKind.wrap_u64, Int.emod_eq_of_lt (by omega) (by omega), Int.emod_eq_of_lt (by omega) (by omega), u64_or _ _ (by omega) (by omega) (by omega) (by omega)]
  obtain ⟨n, rfl⟩ := Int.eq_ofNat_of_zero_le h0
  obtain ⟨y, rfl⟩ := Int.eq_ofNat_of_zero_le hx0
  have hy : y < 2 ^ 8 := by omega
  have e : ((n : Int) * 256).toNat = 2 ^ 8 * n := by omega
  rw [e, Int.toNat_natCast, ← Nat.two_pow_add_eq_or_of_lt hy]
  omega
theorem pow256_7 : ∀ m, m < 8 → (256 : Int) ^ m ≤ 72057594037927936 := by decide
theorem numOf_step (xs : List Int) (m : Nat) (hm : m < xs.length) (h8 : xs.length ≤ 8) (ho : Oct xs) :
    bits .or .u64 (IntKind.u64.wrap (numOf (xs.take m) * 256)) (IntKind.u64.wrap xs[m]) = numOf (xs.take (m + 1)) := by
  have hb := numOf_bd_take xs ho m (by omega)
  have hx := ho xs[m] (List.getElem_mem hm)
  have hp := pow256_7 m (by omega)
  rw [numOf_or _ _ hb.1 (by omega) hx.1 hx.2, List.take_succ_eq_append_getElem hm, numOf_snoc]

abbrev u8s (l : List Int) : List Value := l.map (Value.int .u8)

theorem run_eql_key {P : Program} {t : TypeId} (m D D' : Nat) (hk : P.keyTypeAt m t = true) (hm : m ≤ 10000) (xs ys : Array Value) (lx ly : List Lit)
    (fx : (Value.agg xs).formed P t = true) (fy : (Value.agg ys).formed P t = true) (hx : P.keyLits D t xs.toList = some lx) (hy : P.keyLits D' t ys.toList = some ly) (b : Bool) (hb : b = true ↔ lx = ly) (w : World) :
    (binOp .eql t (.agg xs) (.agg ys)).run P w = .ok (.bool b) w := by
  obtain ⟨r, hr, hiff⟩ := run_equalIn_deep (10000 - m) m t hk w D D' (.agg xs) (.agg ys) lx ly fx fy (by simpa [Value.cells] using hx) (by simpa [Value.cells] using hy)
  rw [show 10000 - m + m = 10000 by omega] at hr
  rw [run_eql_struct, hr]
  have : r = b := by rw [Bool.eq_iff_iff, hiff, hb]
  simp [Result.andThen, this]
theorem run_neq_key {P : Program} {t : TypeId} (m D D' : Nat) (hk : P.keyTypeAt m t = true) (hm : m ≤ 10000) (xs ys : Array Value) (lx ly : List Lit)
    (fx : (Value.agg xs).formed P t = true) (fy : (Value.agg ys).formed P t = true) (hx : P.keyLits D t xs.toList = some lx) (hy : P.keyLits D' t ys.toList = some ly) (b : Bool) (hb : b = true ↔ lx = ly) (w : World) :
    (binOp .neq t (.agg xs) (.agg ys)).run P w = .ok (.bool (!b)) w := by
  obtain ⟨r, hr, hiff⟩ := run_equalIn_deep (10000 - m) m t hk w D D' (.agg xs) (.agg ys) lx ly fx fy (by simpa [Value.cells] using hx) (by simpa [Value.cells] using hy)
  rw [show 10000 - m + m = 10000 by omega] at hr
  rw [run_neq_struct, hr]
  have : r = b := by rw [Bool.eq_iff_iff, hiff, hb]
  simp [Result.andThen, this]
theorem mapM_some {α β : Type} {f : α → Option β} {g : α → β} : ∀ (xs : List α), (∀ x ∈ xs, f x = some (g x)) → xs.mapM f = some (xs.map g)
  | [], _ => rfl
  | x :: xs, h => by simp [List.mapM_cons, h x (by simp), mapM_some xs (fun y hy => h y (by simp [hy]))]
theorem range_map_get {α : Type} (l : List Int) (g : Int → α) : (List.range l.length).map (fun i => g (l.getD i 0)) = l.map g := by
  apply List.ext_getElem (by simp)
  intro i h1 h2
  have hi : i < l.length := by simpa using h1
  simp [List.getD, hi]
theorem oct_wf {x : Int} (h : 0 ≤ x ∧ x < 256) : (Lit.int .u8 x).wf = true := by
  simp [Lit.wf, IntKind.min, IntKind.max, IntKind.signed, IntKind.bits]; omega
theorem flatten_single {α β : Type} (g : α → β) : ∀ l : List α, (l.map fun x => [g x]).flatten = l.map g
  | [] => rfl
  | x :: l => by simp [flatten_single g l]
theorem keyLits_u8s {P : Program} (d : Nat) {t e : TypeId} {n : Nat} (hu : P.underlying t = some (.array n e)) (he : P.underlying e = some (.int .u8)) (hce : P.cellsOf e = 1) (hct : P.cellsOf t = n)
    (l : List Int) (hl : l.length = n) (ho : Oct l) : P.keyLits (d + 2) t (u8s l) = some (l.map (Lit.int .u8)) := by
  subst hl
  unfold Program.keyLits
  rw [hu]
  simp only [hct, hce, u8s, List.length_map, if_true]
  rw [mapM_some (g := fun i => [Lit.int .u8 (l.getD i 0)])]
  · rw [range_map_get l (fun x => [Lit.int .u8 x])]
    simp only [Option.map_some, flatten_single]
  · intro i hi
    have hi' : i < l.length := by simpa using hi
    have hx := oct_wf (ho l[i] (List.getElem_mem hi'))
    unfold Program.keyLits
    rw [he]
    have : ((l.map (Value.int .u8)).drop (i * 1)).take 1 = [Value.int .u8 l[i]] := by
      rw [Nat.mul_one, ← List.map_drop, List.drop_eq_getElem_cons hi']
      rfl
    rw [this]
    simp [hx, List.getD, hi']
end Go.Proofs.YtdgoeibfggjbmaaGreatDoor
namespace Go.Proofs.YtdgoeibfggjbmaaGreatDoor
open Go.RowKit
set_option maxRecDepth 100000

section
variable {w w' : World} {b o B : Nat} {cs : List Value}
theorem range_new (w : World) (t : TypeId) (cs : List Value) : (w.alloc (.cells cs.toArray t)).rangeAt w.heap.size 0 cs := by
  intro j v hv
  rw [World.cell?_alloc_new]
  simpa using hv
theorem range_lt (h : w.rangeAt b o cs) (hn : 0 < cs.length) : b < w.heap.size := by
  have h0 := h 0 cs[0] (by simp)
  exact World.block_lt_of_cell? w _ h0
theorem range_keep (h : w.rangeAt b o cs) (hk : ∀ p : Addr, p.block = b → w'.cell? p = w.cell? p) : w'.rangeAt b o cs := fun j v hv => by
  rw [hk _ rfl]
  exact h j v hv
theorem range_below (h : w.rangeAt b o cs) (hB : Below B w w') (hb : b < B) : w'.rangeAt b o cs := range_keep h fun p hp => hB.cell (by rw [hp]; exact hb)
theorem range_alloc (h : w.rangeAt b o cs) (ob : Obj) (hb : b < w.heap.size) : (w.alloc ob).rangeAt b o cs := range_keep h fun p hp => World.cell?_of_block (Below.heap_alloc w ob p.block (by omega))
theorem range_drewN (h : w.rangeAt b o cs) (n : Nat) : (w.drewN n).rangeAt b o cs := h
theorem range_pre {ds : List Value} (h : w.rangeAt b o (cs ++ ds)) : w.rangeAt b o cs := fun j v hv => h j v (by rw [List.getElem?_append_left (List.getElem?_eq_some_iff.1 hv).1]; exact hv)
theorem range_post {ds : List Value} (h : w.rangeAt b o (cs ++ ds)) : w.rangeAt b (o + cs.length) ds := fun j v hv => by
  have := h (cs.length + j) v (by rw [List.getElem?_append_right (by omega), Nat.add_sub_cancel_left]; exact hv)
  rwa [← Nat.add_assoc] at this
end

theorem below_setRow (w : World) (g : Nat) (cs : Array Value) {B : Nat} (hg : B ≤ g) : Below B w (w.setRow g cs) :=
  ⟨rfl, rfl, rfl, by simp [World.setRow], fun i hi => by simp [World.setRow, Array.getElem?_modify, show g ≠ i by omega]⟩
theorem Blk.setRow {w : World} {g : Nat} {t : TypeId} {old : Array Value} (h : Blk w g t old) (cs : Array Value) : Blk (w.setRow g cs) g t cs := setRow_heap w g old cs t (0, 0) h
theorem Blk.range {w : World} {g : Nat} {t : TypeId} {cs : List Value} (h : Blk w g t cs.toArray) : w.rangeAt g 0 cs := fun j u hu => by rw [Nat.zero_add, h.cell]; simpa using hu

theorem results_cell_slot {P : Program} {fn : Func} {p q : Tmp} {ty : TypeId} (h : fn.results = #[.cell p ty, .tmp q]) (tmps : Array Value) (w : World) (g : Nat) (t : TypeId) (cs : Array Value) (d : TypeDesc) (u : Value)
    (hp : tmps.getD p undef = .pointer (some ⟨g, 0, none⟩)) (hq : tmps.getD q undef = u) (hg : Blk w g t cs) (hu : P.underlying ty = some d) (hd : (match d with | .struct _ | .array _ _ => true | _ => false) = true) (hi : (P.info? ty).map (·.size) = some cs.size) :
    (results fn tmps).run P w = .ok (.tuple #[.agg cs, u]) w := by
  have hp' : tmps[p]?.getD undef = .pointer (some ⟨g, 0, none⟩) := by simpa using hp
  have hq' : tmps[q]?.getD undef = u := by simpa using hq
  simp [results, h, hp', hq', asAddr, run_loadVar_row w g t ty cs (0, 0) d hg hu hd hi]

theorem slice_arr_h {P : Program} {t e : TypeId} {n : Nat} (hu : P.underlying t = some (.array n e)) (hi0 : (P.info? e).map (·.size) = some 1) (g o h : Nat) (h2 : h ≤ n) (h3 : 0 < n) (b : Int) (hb : b = h) (W : World) :
    (Instr.sliceAt t (.pointer (some ⟨g, o, none⟩)) none (some (.int .i64 b)) none).run P W = .ok (.slice (some ⟨g, o, none⟩) h n) W := by
  subst hb
  have hal : P.arrayLen t = n := by simp [Program.arrayLen, hu]
  have hel : P.elem t = e := by simp [Program.elem, hu]
  rw [run_sliceAt_array_h W t ⟨g, o, none⟩ (by rw [hu, hal, hel]) .i64 (h : Int) (by omega) (by rw [hal]; omega), hal, hel]
  obtain ⟨i, hi, hs⟩ := Option.map_eq_some_iff.1 hi0
  simp only [sizeOf, typeInfo, Sem.run_bind]
  simp [Result.andThen, slicedAt, hi, hs, show n ≠ 0 by omega, Addr.add]

theorem rd_range {w : World} {b B : Nat} {pre post : List Value} {l : List Int} (h : w.rangeAt b 0 (pre ++ (u8s l ++ post))) (ho : Oct l) (k m : Nat) (hm : k + m ≤ l.length) (hB : b < B) :
    Rd w B (some ⟨b, pre.length + k, none⟩) m ((l.drop k).take m) := by
  refine ⟨by simp; omega, fun x hx => ho x (List.mem_of_mem_drop (List.mem_of_mem_take hx)), fun _ => ⟨_, _, rfl, hB, fun i hi => ?_⟩⟩
  have h2 : k + i < l.length := by omega
  have hv : (pre ++ (u8s l ++ post))[pre.length + (k + i)]? = some (.int .u8 (l.getD (k + i) 0)) := by
    rw [List.getElem?_append_right (by omega), Nat.add_sub_cancel_left, List.getElem?_append_left (by simp; omega)]
    simp [List.getD, h2]
  have := h _ _ hv
  rw [Nat.zero_add, ← Nat.add_assoc] at this
  rw [this]
  simp [List.getD, hi]
end Go.Proofs.YtdgoeibfggjbmaaGreatDoor
namespace Go.Proofs.YtdgoeibfggjbmaaGreatDoor
open Go.RowKit
set_option maxRecDepth 100000

theorem isSize_yes (n : Int) (w : World) (h1 : 1 ≤ n) (h8 : n ≤ 8) :
    Calls Tryz.prog 158 #[.int .i64 n] w fun e w' => e = .returned (.bool true) ∧ w = w' := by
  go_enter Tryz.func158, Tryz.ntmps158
  go_wp2
  go_ret
  exact ⟨rfl, rfl⟩

theorem isSize_no (n : Int) (w : World) (h : n < 1 ∨ 8 < n) :
    Calls Tryz.prog 158 #[.int .i64 n] w fun e w' => e = .returned (.bool false) ∧ w = w' := by
  rcases h with h | h
  · go_enter Tryz.func158, Tryz.ntmps158
    go_wp2
    go_ret
    exact ⟨rfl, rfl⟩
  · have h1 : 1 ≤ n := by omega
    have h2 : ¬ n ≤ 8 := by omega
    go_enter Tryz.func158, Tryz.ntmps158
    go_wp2
    go_ret
    exact ⟨rfl, rfl⟩

theorem shr_zero (n : Int) (k : Nat) (hn : 0 ≤ n) : (n / 2 ^ (8 * k) == 0) = decide (n < 256 ^ k) := by
  have h : (2 : Int) ^ (8 * k) = 256 ^ k := by rw [Int.pow_mul]; rfl
  have hp : (0 : Int) < 256 ^ k := Int.pow_pos (by decide)
  rw [h, Bool.eq_iff_iff, beq_iff_eq, decide_eq_true_iff]
  constructor
  · intro e
    by_cases hlt : n < 256 ^ k
    · exact hlt
    · have := (Int.le_ediv_iff_mul_le hp (a := 1) (b := n)).2 (by omega)
      omega
  · intro hlt
    exact Int.ediv_eq_zero_of_lt hn hlt

theorem fits_is (n size : Int) (w : World) (h1 : 1 ≤ size) (h8 : size ≤ 8) (hn : 0 ≤ n) (hm : n < 18446744073709551616) (b : Bool) (hb : decide (n < 256 ^ size.toNat) = b) :
    Calls Tryz.prog 159 #[.int .u64 n, .int .i64 size] w fun e w' => e = .returned (.bool b) ∧ w = w' := by
  have H := Lib.hid hb
  clear hb
  by_cases h : size = 8
  · subst h
    have hb : b = true := by rw [← H.out]; simpa using hm
    subst hb
    clear H hm
    go_enter Tryz.func159, Tryz.ntmps159
    go_wp2
    go_ret
    exact ⟨rfl, rfl⟩
  · have hne : (size == 8) = false := by simpa using h
    have hz : (8 * size).toNat = 8 * size.toNat := by omega
    have H2 := Lib.hid (shr_zero n size.toNat hn)
    rw [← hz] at H2
    clear hm hz
    go_enter Tryz.func159, Tryz.ntmps159
    go_wp2
    go_ret
    rw [H2.out, H.out]
    exact ⟨rfl, rfl⟩
end Go.Proofs.YtdgoeibfggjbmaaGreatDoor
namespace Go.Proofs.YtdgoeibfggjbmaaGreatDoor
open Go.RowKit
set_option maxRecDepth 100000

def CurT (T : TypeId) (w : World) (g : Nat) (A : Option Addr) (n c : Nat) (at_ err : Int) : Prop := Blk w g T #[.slice A n c, .int .i64 at_, .int .i64 err]
abbrev Cur (w : World) (g : Nat) (A : Option Addr) (n c : Nat) (at_ err : Int) : Prop := CurT 212 w g A n c at_ err

set_option maxHeartbeats 400000 in
theorem left_is (w : World) (g : Nat) (A : Option Addr) (n c : Nat) (at_ err : Int) (h : Cur w g A n c at_ err) (h0 : 0 ≤ at_) (hn : at_ ≤ n) (hm : n ≤ 281474976710656) :
    Calls Tryz.prog 176 #[.pointer (some ⟨g, 0, none⟩)] w fun e w' => e = .returned (.int .i64 (n - at_)) ∧ ∃ k, w' = w.drewN k := by
  have c0 : w.cell? ⟨g, 0, none⟩ = some (.slice A n c) := Blk.cell h 0
  have c1 : w.cell? ⟨g, 1, none⟩ = some (.int .i64 at_) := Blk.cell h 1
  have c2 : w.cell? ⟨g, 2, none⟩ = some (.int .i64 err) := Blk.cell h 2
  clear h
  go_enter Tryz.func176, Tryz.ntmps176
  go_wp2
  go_quiet (fail)
  go_wp2
  go_ret
  exact ⟨rfl, nq, rfl⟩

theorem fail_first (w : World) (g : Nat) (A : Option Addr) (n c : Nat) (at_ e0 : Int) (h : Cur w g A n c at_ 0) :
    Calls Tryz.prog 166 #[.pointer (some ⟨g, 0, none⟩), .int .i64 e0] w fun e w' => e = .returned (.tuple #[]) ∧ w.setCell ⟨g, 2, none⟩ (.int .i64 e0) = w' := by
  have c2 : w.cell? ⟨g, 2, none⟩ = some (.int .i64 0) := Blk.cell h 2
  have f2 : w.frozen? ⟨g, 2, none⟩ = false := Blk.frozen h 2
  clear h
  go_enter Tryz.func166, Tryz.ntmps166
  go_wp2
  go_end0
  exact ⟨rfl, rfl⟩

theorem fail_later (w : World) (g : Nat) (A : Option Addr) (n c : Nat) (at_ err e0 : Int) (h : Cur w g A n c at_ err) (hne : (err == 0) = false) :
    Calls Tryz.prog 166 #[.pointer (some ⟨g, 0, none⟩), .int .i64 e0] w fun e w' => e = .returned (.tuple #[]) ∧ w = w' := by
  have c2 : w.cell? ⟨g, 2, none⟩ = some (.int .i64 err) := Blk.cell h 2
  have f2 : w.frozen? ⟨g, 2, none⟩ = false := Blk.frozen h 2
  clear h
  go_enter Tryz.func166, Tryz.ntmps166
  go_wp2
  go_end0
  exact ⟨rfl, rfl⟩

structure IsCurT (T : TypeId) (w : World) (g : Nat) (l : List Int) (at_ : Nat) (err : Int) : Prop where
  ex : ∃ A c, CurT T w g A l.length c at_ err ∧ Rd w g A l.length l ∧ l.length ≤ c
  le : at_ ≤ l.length
  sm : l.length ≤ 281474976710656

theorem IsCurT.lt {T : TypeId} {w : World} {g : Nat} {l : List Int} {at_ : Nat} {err : Int} (h : IsCurT T w g l at_ err) : g < w.heap.size := by
  obtain ⟨_, _, h, _, _⟩ := h.ex
  exact Blk.lt h
theorem IsCurT.keep {T : TypeId} {w w' : World} {g : Nat} {l : List Int} {at_ : Nat} {err : Int} (h : IsCurT T w g l at_ err) (hk : Below (g + 1) w w') : IsCurT T w' g l at_ err := by
  obtain ⟨A, c, h0, h1, h2⟩ := h.ex
  exact ⟨⟨A, c, Blk.below h0 hk (by omega), h1.below (hk.mono (by omega)), h2⟩, h.le, h.sm⟩
theorem IsCurT.drewN {T : TypeId} {w : World} {g : Nat} {l : List Int} {at_ : Nat} {err : Int} (h : IsCurT T w g l at_ err) (k : Nat) : IsCurT T (w.drewN k) g l at_ err :=
  h.keep (below_drewN (Below.refl _ _) k)
theorem IsCurT.set1 {T : TypeId} {w : World} {g : Nat} {l : List Int} {at_ k : Nat} {err : Int} (h : IsCurT T w g l at_ err) (hk : k ≤ l.length) : IsCurT T (w.setCell ⟨g, 1, none⟩ (.int .i64 k)) g l k err := by
  obtain ⟨A, c, h0, h1, h2⟩ := h.ex
  exact ⟨⟨A, c, Blk.set_ h0 1 _, h1.keep fun p hp => World.cell?_setCell_other _ _ _ _ (fun e => by subst e; exact absurd hp (Nat.lt_irrefl _)), h2⟩, hk, h.sm⟩
theorem IsCurT.set2 {T : TypeId} {w : World} {g : Nat} {l : List Int} {at_ : Nat} {err e0 : Int} (h : IsCurT T w g l at_ err) : IsCurT T (w.setCell ⟨g, 2, none⟩ (.int .i64 e0)) g l at_ e0 := by
  obtain ⟨A, c, h0, h1, h2⟩ := h.ex
  exact ⟨⟨A, c, Blk.set_ h0 2 _, h1.keep fun p hp => World.cell?_setCell_other _ _ _ _ (fun e => by subst e; exact absurd hp (Nat.lt_irrefl _)), h2⟩, h.le, h.sm⟩

abbrev IsCur (w : World) (g : Nat) (l : List Int) (at_ : Nat) (err : Int) : Prop := IsCurT 212 w g l at_ err

def PassRaw (w : World) (g : Nat) (A : Option Addr) (c at_ k : Nat) (e : Ending) (w' : World) : Prop :=
  e = .returned (.slice (if c = at_ then A else A.map (fun x => x.add at_)) k (c - at_)) ∧ ∃ k1 k2, w' = ((w.drewN k1).setCell ⟨g, 1, none⟩ (.int .i64 ((at_ + k : Nat) : Int))).drewN k2

set_option maxHeartbeats 400000 in
theorem pass_raw (w : World) (g : Nat) (A : Option Addr) (n c at_ k : Nat) (h : Cur w g A n c at_ 0) (hn : at_ + k ≤ n) (hc : n ≤ c) (hm : n ≤ 281474976710656) :
    Calls Tryz.prog 165 #[.pointer (some ⟨g, 0, none⟩), .int .i64 k] w (PassRaw w g A c at_ k) := by
  have c0 : w.cell? ⟨g, 0, none⟩ = some (.slice A n c) := Blk.cell h 0
  have c1 : w.cell? ⟨g, 1, none⟩ = some (.int .i64 at_) := Blk.cell h 1
  have c2 : w.cell? ⟨g, 2, none⟩ = some (.int .i64 0) := Blk.cell h 2
  have f1 : w.frozen? ⟨g, 1, none⟩ = false := Blk.frozen h 1
  have HC := Lib.hid h
  clear h
  go_enter Tryz.func165, Tryz.ntmps165
  go_wp2_with fail
  refine (left_is w g A n c at_ 0 HC.out (by omega) (by omega) hm).mono ?_
  rintro e w' ⟨rfl, k1, rfl⟩
  go_wp2
  have e1 : ((at_ : Int) + (k : Int)).toNat = at_ + k := by omega
  have e2 : (at_ : Int) + (k : Int) ≤ (c : Int) := by omega
  go_quiet (fail)
  generalize hA : (if c = at_ then A else Option.map (fun x => x.add at_) A) = A'
  have HA := Lib.hid hA
  clear hA
  go_wp2
  go_ret
  exact ⟨by rw [HA.out]; rfl, k1, nq, by rw [show (((at_ + k : Nat) : Int)) = (at_ : Int) + (k : Int) from by omega]⟩

def PassOk (w : World) (g : Nat) (l : List Int) (at_ k : Nat) (e : Ending) (w' : World) : Prop :=
  ∃ A c, e = .returned (.slice A k c) ∧ Rd w' g A k ((l.drop at_).take k) ∧ IsCur w' g l (at_ + k) 0 ∧ w.grownBy w' (some g)

theorem pass_ok (w : World) (g : Nat) (l : List Int) (at_ k : Nat) (h : IsCur w g l at_ 0) (hk : at_ + k ≤ l.length) :
    Calls Tryz.prog 165 #[.pointer (some ⟨g, 0, none⟩), .int .i64 k] w (PassOk w g l at_ k) := by
  obtain ⟨A, c, h0, h1, h2⟩ := h.ex
  refine (pass_raw w g A l.length c at_ k h0 hk h2 h.sm).mono ?_
  rintro e w' ⟨rfl, k1, k2, rfl⟩
  have hc : IsCur (((w.drewN k1).setCell ⟨g, 1, none⟩ (.int .i64 ((at_ + k : Nat) : Int))).drewN k2) g l (at_ + k) 0 := ((h.drewN k1).set1 hk).drewN k2
  refine ⟨_, _, rfl, ?_, hc, only_drewN (only_setCell (only_drewN (only_refl w _) k1) (.inl rfl) _) k2⟩
  refine (h1.cut hk h2).keep fun p hp => ?_
  exact World.cell?_setCell_other _ _ _ _ (fun e => by subst e; exact absurd hp (Nat.lt_irrefl _))

def PassNo (w : World) (g : Nat) (l : List Int) (at_ : Nat) (e1 : Int) (e : Ending) (w' : World) : Prop :=
  e = .returned (.slice none 0 0) ∧ IsCur w' g l at_ e1 ∧ w.grownBy w' (some g)

set_option maxHeartbeats 400000 in
theorem pass_neg (w : World) (g : Nat) (l : List Int) (at_ : Nat) (k : Int) (h : IsCur w g l at_ 0) (hk : k < 0) :
    Calls Tryz.prog 165 #[.pointer (some ⟨g, 0, none⟩), .int .i64 k] w (PassNo w g l at_ 2) := by
  obtain ⟨A, c, h0, h1, h2⟩ := h.ex
  have c2 : (w.setCell ⟨g, 2, none⟩ (.int .i64 2)).cell? ⟨g, 2, none⟩ = some (.int .i64 2) := Blk.cell (Blk.set_ h0 2 _) 2
  have H := Lib.hid h
  have H0 := Lib.hid h0
  clear h h0 h1 h2
  go_enter Tryz.func165, Tryz.ntmps165
  go_wp2_with fail
  refine (fail_first w g A _ c at_ 2 H0.out).mono ?_
  rintro e w' ⟨rfl, rfl⟩
  go_wp2
  go_ret
  exact ⟨rfl, H.out.set2, only_setCell (only_refl w _) (.inl rfl) _⟩

set_option maxHeartbeats 400000 in
theorem pass_long (w : World) (g : Nat) (l : List Int) (at_ : Nat) (k : Int) (h : IsCur w g l at_ 0) (hk : (l.length : Int) - at_ < k) :
    Calls Tryz.prog 165 #[.pointer (some ⟨g, 0, none⟩), .int .i64 k] w (PassNo w g l at_ 3) := by
  obtain ⟨A, c, h0, h1, h2⟩ := h.ex
  have c2 : ∀ n, ((w.drewN n).setCell ⟨g, 2, none⟩ (.int .i64 3)).cell? ⟨g, 2, none⟩ = some (.int .i64 3) := fun n => Blk.cell (Blk.set_ (w := w.drewN n) h0 2 _) 2
  have H := Lib.hid h
  have H0 := Lib.hid h0
  have hle := h.le
  have hsm := h.sm
  have hpos : 0 ≤ k := by omega
  clear h h0 h1 h2
  go_enter Tryz.func165, Tryz.ntmps165
  go_wp2_with fail
  refine (left_is w g A _ c at_ 0 H0.out (by omega) (by omega) hsm).mono ?_
  rintro e w' ⟨rfl, k1, rfl⟩
  go_wp2_with fail
  refine (fail_first (w.drewN k1) g A _ c at_ 3 H0.out).mono ?_
  rintro e w' ⟨rfl, rfl⟩
  go_wp2
  go_ret
  exact ⟨rfl, (H.out.drewN k1).set2, only_setCell (only_drewN (only_refl w _) k1) (.inl rfl) _⟩

set_option maxHeartbeats 400000 in
theorem pass_late (w : World) (g : Nat) (l : List Int) (at_ : Nat) (k err : Int) (h : IsCur w g l at_ err) (hne : (err == 0) = false) :
    Calls Tryz.prog 165 #[.pointer (some ⟨g, 0, none⟩), .int .i64 k] w (PassNo w g l at_ err) := by
  obtain ⟨A, c, h0, h1, h2⟩ := h.ex
  have c2 : w.cell? ⟨g, 2, none⟩ = some (.int .i64 err) := Blk.cell h0 2
  have H := Lib.hid h
  have H0 := Lib.hid h0
  have hle := h.le
  have hsm := h.sm
  have hne' : (err != 0) = true := by simpa using hne
  clear h h0 h1 h2
  by_cases hk : k < 0
  · go_enter Tryz.func165, Tryz.ntmps165
    go_wp2_with fail
    refine (fail_later w g A _ c at_ err 2 H0.out hne).mono ?_
    rintro e w' ⟨rfl, rfl⟩
    go_wp2
    go_ret
    exact ⟨rfl, H.out, only_refl w _⟩
  · have hpos : 0 ≤ k := by omega
    by_cases hl : (l.length : Int) - at_ < k
    · go_enter Tryz.func165, Tryz.ntmps165
      go_wp2_with fail
      refine (left_is w g A _ c at_ err H0.out (by omega) (by omega) hsm).mono ?_
      rintro e w' ⟨rfl, k1, rfl⟩
      go_wp2_with fail
      refine (fail_later (w.drewN k1) g A _ c at_ err 3 H0.out hne).mono ?_
      rintro e w' ⟨rfl, rfl⟩
      go_wp2
      go_ret
      exact ⟨rfl, H.out.drewN k1, only_drewN (only_refl w _) k1⟩
    · go_enter Tryz.func165, Tryz.ntmps165
      go_wp2_with fail
      refine (left_is w g A _ c at_ err H0.out (by omega) (by omega) hsm).mono ?_
      rintro e w' ⟨rfl, k1, rfl⟩
      go_wp2
      go_ret
      exact ⟨rfl, H.out.drewN k1, only_drewN (only_refl w _) k1⟩
end Go.Proofs.YtdgoeibfggjbmaaGreatDoor
namespace Go.Proofs.YtdgoeibfggjbmaaGreatDoor
open Go.RowKit
set_option maxRecDepth 100000

theorem info_byte : (Tryz.prog.info? 5).map (fun i => (i.zero, i.size, i.bytes)) = some (some (.int .u8 0), 1, 1) := by kernel_rfl
theorem size_byte : (Tryz.prog.info? 5).map (·.size) = some 1 := by kernel_rfl

def Copied (w : World) (n : Nat) (l : List Int) (e : Ending) (w' : World) : Prop :=
  ∃ A, e = .returned (.slice A n n) ∧ New 5 w w' A n l ∧ Below w.heap.size w w'

theorem one_u8 (l : List Int) : ∀ v ∈ l.map (Value.int .u8), v.oneCell' = true := by
  intro v hv
  obtain ⟨x, _, rfl⟩ := List.mem_map.1 hv
  rfl

theorem src_u8 {w : World} {b off n : Nat} {l : List Int} (hl : l.length = n) (hc : ∀ i, i < n → w.cell? ⟨b, off + i, none⟩ = some (.int .u8 (l.getD i 0))) :
    ∀ j v, (l.map (Value.int .u8))[j]? = some v → w.cell? ((⟨b, off, none⟩ : Addr).add j) = some v := by
  intro j v hv
  have e : (⟨b, off, none⟩ : Addr).add j = ⟨b, off + j, none⟩ := by unfold Addr.add; split <;> simp_all
  rw [List.getElem?_map] at hv
  obtain ⟨x, hx, rfl⟩ := Option.map_eq_some_iff.1 hv
  obtain ⟨hj, _⟩ := List.getElem?_eq_some_iff.1 hx
  rw [e, hc j (by omega)]
  simp [List.getD, hx]

theorem copy_into (w : World) (n m : Nat) (A : Option Addr) (c : Nat) (l : List Int) (hr : Rd w w.heap.size A n l) (hnm : n ≤ m) (ty : TypeId) :
    ∃ w', (Builtin.copy_ #[38, 38] ty #[.slice (some ⟨w.heap.size, 0, none⟩) m m, .slice A n c]).run Tryz.prog (w.alloc (.cells (madeCells #[.int .u8 0] m) 5)) = .ok (.int .i64 n) w' ∧
      Byt w' w.heap.size 5 (l ++ List.replicate (m - n) 0) ∧ Below w.heap.size w w' ∧ w'.heap.size = w.heap.size + 1 := by
  have hm := byt_made w m 5
  have hbl : Below w.heap.size w (w.alloc (.cells (madeCells #[.int .u8 0] m) 5)) := (Below.refl _ _).alloc (Nat.le_refl _) _
  rcases Nat.eq_zero_or_pos n with h0 | hn
  · subst h0
    obtain rfl : l = [] := List.eq_nil_of_length_eq_zero hr.len
    have hrun := run_copy_none (P := Tryz.prog) (w.alloc (.cells (madeCells #[.int .u8 0] m) 5)) 38 38 ty 5 (some ⟨w.heap.size, 0, none⟩) A m m 0 c Tryz.underlying38 size_byte (by simp)
    exact ⟨_, hrun, by simpa using hm, hbl, by simp⟩
  · obtain ⟨b, off, rfl, hb, hc⟩ := hr.at_ hn
    have hrun := run_copy_row (P := Tryz.prog) (w.alloc (.cells (madeCells #[.int .u8 0] m) 5)) 38 38 ty 5 w.heap.size 0 m m ⟨b, off, none⟩ n c _ 5 (l.map (Value.int .u8)) Tryz.underlying38 size_byte hm
      (by rw [List.length_map, hr.len]; exact (Nat.min_eq_left hnm).symm) (src_u8 hr.len (fun i hi => by rw [World.cell?_alloc_lt _ _ _ hb]; exact hc i hi)) (by simp [hr.len]; omega) (one_u8 l)
    rw [List.length_map, hr.len] at hrun
    refine ⟨_, hrun, ?_, Go.below_setRow hbl (Nat.le_refl _) _, by simp [World.setRow]⟩
    unfold Byt at hm ⊢
    rw [setRow_heap _ _ _ _ _ _ hm]
    simp

set_option maxHeartbeats 400000 in
theorem copied_is (w : World) (A : Option Addr) (n c : Nat) (l : List Int) (hr : Rd w w.heap.size A n l) (hm : n ≤ 281474976710656) :
    Calls Tryz.prog 164 #[.slice A n c] w (Copied w n l) := by
  by_cases h0 : n = 0
  · subst h0
    have H := Lib.hid hr
    clear hr
    go_enter Tryz.func164, Tryz.ntmps164
    go_wp2
    go_ret
    exact ⟨none, rfl, ⟨H.out.oct, H.out.len, .inl rfl⟩, Below.refl _ _⟩
  · have hne : ((n : Int) == 0) = false := by simp; omega
    have hmk := run_make_row' (P := Tryz.prog) 38 5 (.int .u8 0) 1 Tryz.underlying38 info_byte rfl .i64 .i64 n (by omega) (by omega) w
    have H := Lib.hid hr
    obtain ⟨w', hcp, hby, hbl, hsz⟩ := copy_into w n n A c l hr (Nat.le_refl _) 3
    rw [Nat.sub_self, List.replicate_zero, List.append_nil] at hby
    have H1 := Lib.hid hby
    have H2 := Lib.hid hbl
    clear hr hby hbl hsz
    go_enter Tryz.func164, Tryz.ntmps164
    go_wp2
    go_ret
    exact ⟨some ⟨w.heap.size, 0, none⟩, rfl, ⟨H.out.oct, H.out.len, .inr ⟨_, rfl, Nat.le_refl _, H1.out⟩⟩, H2.out⟩

def NewCur (w : World) (l : List Int) (e : Ending) (w' : World) : Prop :=
  ∃ g, e = .returned (.pointer (some ⟨g, 0, none⟩)) ∧ w.heap.size ≤ g ∧ IsCur w' g l 0 0 ∧ Below w.heap.size w w'

theorem isCur_new {w w1 : World} {A : Option Addr} {n : Nat} {l : List Int} (hn : New 5 w w1 A n l) (hm : n ≤ 281474976710656) :
    IsCur (w1.alloc (.cells #[.slice A n n, .int .i64 0, .int .i64 0] 212)) w1.heap.size l 0 0 := by
  obtain rfl := hn.2.1
  exact ⟨⟨A, _, Blk.new w1 212 _, hn.rd.keep (fun p hp => World.cell?_alloc_lt _ _ _ hp), Nat.le_refl _⟩, Nat.zero_le _, hm⟩

set_option maxHeartbeats 400000 in
theorem new_is (w : World) (A : Option Addr) (n c : Nat) (l : List Int) (hr : Rd w w.heap.size A n l) (hm : n ≤ 281474976710656) :
    Calls Tryz.prog 111 #[.slice A n c] w (NewCur w l) := by
  have H := Lib.hid hr
  clear hr
  go_enter Tryz.func111, Tryz.ntmps111
  go_wp2_with fail
  refine (copied_is w A n c l H.out hm).mono ?_
  rintro e w1 ⟨A1, rfl, hn, hb⟩
  have H1 := Lib.hid hn
  have H2 := Lib.hid hb
  clear hn hb
  go_wp2
  go_ret
  exact ⟨w1.heap.size, rfl, H2.out.size, isCur_new H1.out hm, H2.out.alloc H2.out.size _⟩

theorem err_is (w : World) (g : Nat) (l : List Int) (at_ : Nat) (err : Int) (h : IsCur w g l at_ err) :
    Calls Tryz.prog 115 #[.pointer (some ⟨g, 0, none⟩)] w fun e w' => e = .returned (.int .i64 err) ∧ w = w' := by
  obtain ⟨A, c, h0, _, _⟩ := h.ex
  have c2 : w.cell? ⟨g, 2, none⟩ = some (.int .i64 err) := Blk.cell h0 2
  clear h h0
  go_enter Tryz.func115, Tryz.ntmps115
  go_wp2
  go_ret
  exact ⟨rfl, rfl⟩

theorem leftC_is (w : World) (g : Nat) (l : List Int) (at_ : Nat) (err : Int) (h : IsCur w g l at_ err) :
    Calls Tryz.prog 122 #[.pointer (some ⟨g, 0, none⟩)] w fun e w' => e = .returned (.int .i64 ((l.length : Int) - at_)) ∧ ∃ k, w' = w.drewN k := by
  obtain ⟨A, c, h0, _, _⟩ := h.ex
  have hle := h.le
  have hsm := h.sm
  have H0 := Lib.hid h0
  clear h h0
  go_enter Tryz.func122, Tryz.ntmps122
  go_wp2_with fail
  refine (left_is w g A _ c at_ err H0.out (by omega) (by omega) hsm).mono ?_
  rintro e w' ⟨rfl, k1, rfl⟩
  go_wp2
  go_ret
  exact ⟨rfl, k1, rfl⟩

def stepAt (l : List Int) (at_ : Nat) (err k : Int) : Nat := if err = 0 ∧ 0 ≤ k ∧ at_ + k ≤ l.length then at_ + k.toNat else at_
def stepErr (l : List Int) (at_ : Nat) (err k : Int) : Int := if err = 0 then (if k < 0 then 2 else if (l.length : Int) - at_ < k then 3 else 0) else err
def stepTook (l : List Int) (at_ : Nat) (err k : Int) : List Int := if err = 0 ∧ 0 ≤ k ∧ at_ + k ≤ l.length then (l.drop at_).take k.toNat else []

def Passed (w : World) (g : Nat) (l : List Int) (at_ : Nat) (err k : Int) (e : Ending) (w' : World) : Prop :=
  ∃ A c, e = .returned (.slice A (stepTook l at_ err k).length c) ∧ Rd w' g A (stepTook l at_ err k).length (stepTook l at_ err k) ∧ IsCur w' g l (stepAt l at_ err k) (stepErr l at_ err k) ∧ w.grownBy w' (some g)

theorem pass_is (w : World) (g : Nat) (l : List Int) (at_ : Nat) (err k : Int) (h : IsCur w g l at_ err) :
    Calls Tryz.prog 165 #[.pointer (some ⟨g, 0, none⟩), .int .i64 k] w (Passed w g l at_ err k) := by
  have hle := h.le
  by_cases he : err = 0
  · subst he
    by_cases hk : k < 0
    · have e1 : stepTook l at_ 0 k = [] := by unfold stepTook; rw [if_neg (by omega)]
      have e2 : stepAt l at_ 0 k = at_ := by unfold stepAt; rw [if_neg (by omega)]
      have e3 : stepErr l at_ 0 k = 2 := by unfold stepErr; rw [if_pos rfl, if_pos hk]
      refine (pass_neg w g l at_ k h hk).mono ?_
      rintro e w' ⟨rfl, hc, ho⟩
      exact ⟨none, 0, by rw [e1]; rfl, by rw [e1]; exact Rd.nil_ _, by rw [e2, e3]; exact hc, ho⟩
    · by_cases hl : (l.length : Int) - at_ < k
      · have e1 : stepTook l at_ 0 k = [] := by unfold stepTook; rw [if_neg (by omega)]
        have e2 : stepAt l at_ 0 k = at_ := by unfold stepAt; rw [if_neg (by omega)]
        have e3 : stepErr l at_ 0 k = 3 := by unfold stepErr; rw [if_pos rfl, if_neg hk, if_pos hl]
        refine (pass_long w g l at_ k h hl).mono ?_
        rintro e w' ⟨rfl, hc, ho⟩
        exact ⟨none, 0, by rw [e1]; rfl, by rw [e1]; exact Rd.nil_ _, by rw [e2, e3]; exact hc, ho⟩
      · obtain ⟨m, rfl⟩ : ∃ m : Nat, k = m := ⟨k.toNat, by omega⟩
        have e1 : stepTook l at_ 0 m = (l.drop at_).take m := by unfold stepTook; rw [if_pos (by omega)]; rfl
        have e2 : stepAt l at_ 0 m = at_ + m := by unfold stepAt; rw [if_pos (by omega)]; rfl
        have e3 : stepErr l at_ 0 m = 0 := by unfold stepErr; rw [if_pos rfl, if_neg hk, if_neg hl]
        have e4 : (stepTook l at_ 0 m).length = m := by rw [e1]; simp; omega
        refine (pass_ok w g l at_ m h (by omega)).mono ?_
        rintro e w' ⟨A, c, rfl, hr, hc, ho⟩
        exact ⟨A, c, by rw [e4], by rw [e4, e1]; exact hr, by rw [e2, e3]; exact hc, ho⟩
  · have e1 : stepTook l at_ err k = [] := by unfold stepTook; rw [if_neg (by omega)]
    have e2 : stepAt l at_ err k = at_ := by unfold stepAt; rw [if_neg (by omega)]
    have e3 : stepErr l at_ err k = err := by unfold stepErr; rw [if_neg he]
    refine (pass_late w g l at_ k err h (by simpa using he)).mono ?_
    rintro e w' ⟨rfl, hc, ho⟩
    exact ⟨none, 0, by rw [e1]; rfl, by rw [e1]; exact Rd.nil_ _, by rw [e2, e3]; exact hc, ho⟩

def Skipped (w : World) (g : Nat) (l : List Int) (at_ : Nat) (err k : Int) (e : Ending) (w' : World) : Prop :=
  e = .returned (.tuple #[]) ∧ IsCur w' g l (stepAt l at_ err k) (stepErr l at_ err k) ∧ w.grownBy w' (some g)

theorem skip_is (w : World) (g : Nat) (l : List Int) (at_ : Nat) (err k : Int) (h : IsCur w g l at_ err) :
    Calls Tryz.prog 112 #[.pointer (some ⟨g, 0, none⟩), .int .i64 k] w (Skipped w g l at_ err k) := by
  have H := Lib.hid h
  clear h
  go_enter Tryz.func112, Tryz.ntmps112
  go_wp2_with fail
  refine (pass_is w g l at_ err k H.out).mono ?_
  rintro e w' ⟨A, c, rfl, hr, hc, ho⟩
  have H1 := Lib.hid hr
  have H2 := Lib.hid hc
  have H3 := Lib.hid ho
  clear hr hc ho
  go_wp2
  go_end0
  exact ⟨rfl, H2.out, H3.out⟩

def Took (w : World) (g : Nat) (l : List Int) (at_ : Nat) (err k : Int) (e : Ending) (w' : World) : Prop :=
  ∃ A, e = .returned (.slice A (stepTook l at_ err k).length (stepTook l at_ err k).length) ∧ New 5 w w' A (stepTook l at_ err k).length (stepTook l at_ err k) ∧
    IsCur w' g l (stepAt l at_ err k) (stepErr l at_ err k) ∧ w.grownBy w' (some g)

theorem stepTook_len (l : List Int) (at_ : Nat) (err k : Int) : (stepTook l at_ err k).length ≤ l.length := by
  unfold stepTook
  split
  · simp; omega
  · simp

theorem New.from_ {t : TypeId} {w w0 w' : World} {A : Option Addr} {n : Nat} {l : List Int} (h : New t w w' A n l) (hs : w0.heap.size ≤ w.heap.size) : New t w0 w' A n l :=
  ⟨h.1, h.2.1, h.2.2.imp id fun ⟨g, a, b, c⟩ => ⟨g, a, by omega, c⟩⟩

theorem take_is (w : World) (g : Nat) (l : List Int) (at_ : Nat) (err k : Int) (h : IsCur w g l at_ err) :
    Calls Tryz.prog 114 #[.pointer (some ⟨g, 0, none⟩), .int .i64 k] w (Took w g l at_ err k) := by
  have hsm := h.sm
  have H := Lib.hid h
  have hlen := stepTook_len l at_ err k
  unfold Took
  have H0 := Lib.hid (pass_is w g l at_ err k h)
  unfold Passed at H0
  generalize stepTook l at_ err k = xs at *
  generalize stepAt l at_ err k = at1 at *
  generalize stepErr l at_ err k = err1 at *
  clear h
  go_enter Tryz.func114, Tryz.ntmps114
  go_wp2_with fail
  refine H0.out.mono ?_
  rintro e w1 ⟨A, c, rfl, hr, hc, ho⟩
  have H1 := Lib.hid hr
  have H2 := Lib.hid hc
  have H3 := Lib.hid ho
  clear hr hc ho
  go_wp2_with fail
  refine (copied_is w1 A _ c xs (H1.out.more (Nat.le_of_lt H2.out.lt)) (by omega)).mono ?_
  rintro e w2 ⟨A2, rfl, hn, hb⟩
  have H4 := Lib.hid hn
  have H5 := Lib.hid hb
  clear hn hb
  go_wp2
  go_ret
  exact ⟨A2, rfl, H4.out.from_ H3.out.size, H2.out.keep (H5.out.mono H2.out.lt), only_trans H3.out (only_of_below H5.out _)⟩
end Go.Proofs.YtdgoeibfggjbmaaGreatDoor
namespace Go.Proofs.YtdgoeibfggjbmaaGreatDoor
open Go.RowKit
set_option maxRecDepth 100000

abbrev numOk (k : Int) : Prop := 1 ≤ k ∧ k ≤ 8
def numErr (l : List Int) (at_ : Nat) (err k : Int) : Int := if numOk k then stepErr l at_ err k else if err = 0 then 2 else err
def numAt (l : List Int) (at_ : Nat) (err k : Int) : Nat := if numOk k then stepAt l at_ err k else at_
def numVal (l : List Int) (at_ : Nat) (err k : Int) : Int := if numOk k then numOf (stepTook l at_ err k) else 0

def Numd (w : World) (g : Nat) (l : List Int) (at_ : Nat) (err k : Int) (e : Ending) (w' : World) : Prop :=
  e = .returned (.int .u64 (numVal l at_ err k)) ∧ IsCur w' g l (numAt l at_ err k) (numErr l at_ err k) ∧ w.grownBy w' (some g)

set_option maxHeartbeats 400000 in
theorem num_bad (w : World) (g : Nat) (l : List Int) (at_ : Nat) (err k : Int) (h : IsCur w g l at_ err) (hk : ¬ numOk k) :
    Calls Tryz.prog 113 #[.pointer (some ⟨g, 0, none⟩), .int .i64 k] w (Numd w g l at_ err k) := by
  unfold Numd numVal numAt numErr
  simp only [if_neg hk]
  have hk' : k < 1 ∨ 8 < k := by unfold numOk at hk; omega
  have H := Lib.hid h
  obtain ⟨A, c, h0, _, _⟩ := h.ex
  have H0 := Lib.hid h0
  clear h h0 hk
  have H1 := Lib.hid hk'
  clear hk'
  by_cases he : err = 0
  · subst he
    go_enter Tryz.func113, Tryz.ntmps113
    go_wp2_with fail
    refine (isSize_no k w H1.out).mono ?_
    rintro e w' ⟨rfl, rfl⟩
    go_wp2_with fail
    refine (fail_first w g A _ c at_ 2 H0.out).mono ?_
    rintro e w' ⟨rfl, rfl⟩
    go_wp2
    go_ret
    exact ⟨rfl, H.out.set2, only_setCell (only_refl w _) (.inl rfl) _⟩
  · have he' : (err == 0) = false := by simpa using he
    simp only [if_neg he]
    go_enter Tryz.func113, Tryz.ntmps113
    go_wp2_with fail
    refine (isSize_no k w H1.out).mono ?_
    rintro e w' ⟨rfl, rfl⟩
    go_wp2_with fail
    refine (fail_later w g A _ c at_ err 2 H0.out he').mono ?_
    rintro e w' ⟨rfl, rfl⟩
    go_wp2
    go_ret
    exact ⟨rfl, H.out, only_refl w _⟩

set_option maxHeartbeats 1000000 in
theorem num_ok (w : World) (g : Nat) (l : List Int) (at_ : Nat) (err k : Int) (h : IsCur w g l at_ err) (hk : numOk k) :
    Calls Tryz.prog 113 #[.pointer (some ⟨g, 0, none⟩), .int .i64 k] w (Numd w g l at_ err k) := by
  unfold Numd numVal numAt numErr
  simp only [if_pos hk]
  have hlen : (stepTook l at_ err k).length ≤ 8 := by
    unfold numOk at hk
    unfold stepTook
    split
    · simp; omega
    · simp
  have H0 := Lib.hid (pass_is w g l at_ err k h)
  unfold Passed at H0
  generalize stepTook l at_ err k = xs at *
  generalize stepAt l at_ err k = at1 at *
  generalize stepErr l at_ err k = err1 at *
  obtain ⟨hk1, hk8⟩ := hk
  clear h
  go_enter Tryz.func113, Tryz.ntmps113
  go_wp2_with fail
  refine (isSize_yes k w hk1 hk8).mono ?_
  rintro e w' ⟨rfl, rfl⟩
  go_wp2_with fail
  refine H0.out.mono ?_
  rintro e w1 ⟨A, c, rfl, hr, hc, ho⟩
  have hoct := hr.oct
  have H1 := Lib.hid hr
  have H2 := Lib.hid hc
  have H3 := Lib.hid ho
  have HO := Lib.hid hoct
  clear hr hc ho hoct
  go_wp2
  go_loop [5, 7, 23] (fun s _ i => ∃ m : Nat, m ≤ xs.length ∧ i = .int .i64 m ∧ s = .int .u64 (numOf (xs.take m))) (fun _ _ i => xs.length - (intOf i).toNat)
  case atStart => exact ⟨0, Nat.zero_le _, rfl, rfl⟩
  case round =>
    obtain ⟨m, hm, rfl, rfl⟩ := hrel
    by_cases hlt : m < xs.length
    · obtain ⟨b, off, rfl, hb, hcell⟩ := H1.out.at_ (by omega)
      have hcm := hcell m hlt
      have HS := Lib.hid (numOf_step xs m hlt hlen HO.out)
      clear hcell
      go_wp2
      refine ⟨⟨m + 1, by omega, by go_num, by rw [HS.out]⟩, by simp [intOf]; omega⟩
    · obtain rfl : m = xs.length := by omega
      rw [List.take_length]
      go_wp2
      go_ret
      exact ⟨rfl, H2.out, H3.out⟩

theorem num_is (w : World) (g : Nat) (l : List Int) (at_ : Nat) (err k : Int) (h : IsCur w g l at_ err) :
    Calls Tryz.prog 113 #[.pointer (some ⟨g, 0, none⟩), .int .i64 k] w (Numd w g l at_ err k) := by
  by_cases hk : numOk k
  · exact num_ok w g l at_ err k h hk
  · exact num_bad w g l at_ err k h hk

theorem late_err (l : List Int) (at_ : Nat) (err k : Int) (h : err ≠ 0) : stepErr l at_ err k = err := by unfold stepErr; rw [if_neg h]
theorem late_numErr (l : List Int) (at_ : Nat) (err k : Int) (h : err ≠ 0) : numErr l at_ err k = err := by
  unfold numErr
  rw [late_err l at_ err k h, if_neg h]
  split <;> rfl
end Go.Proofs.YtdgoeibfggjbmaaGreatDoor
namespace Go.Proofs.YtdgoeibfggjbmaaGreatDoor
open Go.RowKit
set_option maxRecDepth 100000

def be : Nat → Int → List Int
  | 0, _ => []
  | k + 1, n => (n / 256 ^ k % 256) :: be k n
theorem be_len : ∀ k n, (be k n).length = k
  | 0, _ => rfl
  | k + 1, n => by simp [be, be_len k n]
theorem be_oct : ∀ k n, Oct (be k n)
  | 0, _ => by intro x h; cases h
  | k + 1, n => by
    intro x h
    rcases List.mem_cons.1 h with rfl | h
    · omega
    · exact be_oct k n x h

theorem set_mid (l r : List Int) (j : Nat) (x : Int) : (l ++ (List.replicate (j + 1) 0 ++ r)).set (l.length + j) x = l ++ (List.replicate j 0 ++ x :: r) := by
  rw [List.set_append_right _ _ (by omega), Nat.add_sub_cancel_left, List.replicate_succ', List.append_assoc, List.set_append_right _ _ (by simp)]
  simp

theorem wrap_u8_mod (n : Int) : IntKind.u8.wrap n = n % 256 := by simp [IntKind.wrap, IntKind.bits, IntKind.signed]

def PutNo (w : World) (e : Ending) (w' : World) : Prop := e = .returned (.tuple #[.slice none 0 0, .int .i64 2]) ∧ w = w'

set_option maxHeartbeats 400000 in
theorem put_no (w : World) (A : Option Addr) (m c : Nat) (n size : Int) (hn : 0 ≤ n) (hm : n < 18446744073709551616) (h : ¬ (1 ≤ size ∧ size ≤ 8 ∧ n < 256 ^ size.toNat)) :
    Calls Tryz.prog 100 #[.slice A m c, .int .u64 n, .int .i64 size] w (PutNo w) := by
  by_cases hs : 1 ≤ size ∧ size ≤ 8
  · obtain ⟨h1, h8⟩ := hs
    have hf : decide (n < 256 ^ size.toNat) = false := by simp; omega
    have H := Lib.hid hf
    clear hf h
    go_enter Tryz.func100, Tryz.ntmps100
    go_wp2_with fail
    refine (isSize_yes size w h1 h8).mono ?_
    rintro e w' ⟨rfl, rfl⟩
    go_wp2_with fail
    refine (fits_is n size w h1 h8 hn hm false H.out).mono ?_
    rintro e w' ⟨rfl, rfl⟩
    go_wp2
    go_ret2
    exact ⟨rfl, rfl⟩
  · have hs' : size < 1 ∨ 8 < size := by omega
    have H := Lib.hid hs'
    clear hs hs' h
    go_enter Tryz.func100, Tryz.ntmps100
    go_wp2_with fail
    refine (isSize_no size w H.out).mono ?_
    rintro e w' ⟨rfl, rfl⟩
    go_wp2
    go_ret2
    exact ⟨rfl, rfl⟩

def PutYes (w : World) (l : List Int) (n : Int) (s : Nat) (e : Ending) (w' : World) : Prop :=
  e = .returned (.tuple #[.slice (some ⟨w.heap.size, 0, none⟩) (l.length + s) (l.length + s), .int .i64 0]) ∧ Byt w' w.heap.size 5 (l ++ be s n) ∧ Below w.heap.size w w'

set_option maxHeartbeats 1000000 in
theorem put_yes (w : World) (A : Option Addr) (c : Nat) (l : List Int) (n : Int) (s : Nat) (hr : Rd w w.heap.size A l.length l) (hm : l.length ≤ 140737488355328) (hn : 0 ≤ n) (hn2 : n < 18446744073709551616)
    (h1 : 1 ≤ s) (h8 : s ≤ 8) (hf : n < 256 ^ s) :
    Calls Tryz.prog 100 #[.slice A l.length c, .int .u64 n, .int .i64 s] w (PutYes w l n s) := by
  have hf' : decide (n < 256 ^ (s : Int).toNat) = true := by simpa using hf
  have H := Lib.hid hf'
  have hmk := run_make_row' (P := Tryz.prog) 38 5 (.int .u8 0) 1 Tryz.underlying38 info_byte rfl .i64 .i64 (l.length + s) (by omega) (by omega) w
  rw [show ((l.length + s : Nat) : Int) = (l.length : Int) + (s : Int) from by omega] at hmk
  obtain ⟨w', hcp, hby, hbl, hsz⟩ := copy_into w l.length (l.length + s) A c l hr (by omega) 3
  rw [Nat.add_sub_cancel_left] at hby
  have H1 := Lib.hid hby
  have H2 := Lib.hid hbl
  have H3 := Lib.hid hsz
  clear hr hby hbl hsz hf hf'
  go_enter Tryz.func100, Tryz.ntmps100
  go_wp2_with fail
  refine (isSize_yes s w (by omega) (by omega)).mono ?_
  rintro e w2 ⟨rfl, rfl⟩
  go_wp2_with fail
  refine (fits_is n s w (by omega) (by omega) hn hn2 true H.out).mono ?_
  rintro e w2 ⟨rfl, rfl⟩
  go_wp2
  go_loopw [1, 9] (fun n' i wr => ∃ j : Nat, j ≤ s ∧ n' = .int .u64 (n / 256 ^ (s - j)) ∧ i = .int .i64 ((l.length : Int) + j - 1) ∧ Byt wr w.heap.size 5 (l ++ (List.replicate j 0 ++ be (s - j) n)) ∧ Below w.heap.size w wr)
    (fun _ i _ => (intOf i + 1).toNat)
  case atStart => exact ⟨s, Nat.le_refl _, by simp, by go_num, by simpa [be] using H1.out, H2.out⟩
  case round =>
    obtain ⟨j, hj, rfl, rfl, hb, hB⟩ := hrel
    by_cases h0 : j = 0
    · subst h0
      have HB := Lib.hid hb
      have HB2 := Lib.hid hB
      clear hb hB
      go_wp2
      go_ret2
      exact ⟨rfl, by simpa using HB.out, HB2.out⟩
    · obtain ⟨j, rfl⟩ : ∃ i, j = i + 1 := ⟨j - 1, by omega⟩
      have hcell := hb.cell (i := l.length + j) (by simp [be_len]; omega)
      have hfz := hb.frozen (l.length + j)
      have hset := hb.set_ (l.length + j) (n / 256 ^ (s - (j + 1)) % 256)
      have HB := Lib.hid hset
      have HB2 := Lib.hid hB
      clear hb hB hset
      have ei : (l.length : Int) + ((j + 1 : Nat) : Int) - 1 = ((l.length + j : Nat) : Int) := by omega
      rw [ei]
      go_wp2
      have es : s - j = s - (j + 1) + 1 := by omega
      refine ⟨⟨j, by omega, ?_, rfl, ?_, HB2.out.setCell (Nat.le_refl _) _⟩, by simp [intOf]; omega⟩
      · rw [es, Int.pow_succ, Int.ediv_ediv_of_nonneg (Int.le_of_lt (Int.pow_pos (by decide)))]
      · have hb := HB.out
        rw [set_mid] at hb
        rw [es]
        exact hb

theorem put_fits (w : World) (A : Option Addr) (m c : Nat) (l : List Int) (n size : Int) (hr : Rd w w.heap.size A m l) (hm : m ≤ 140737488355328) (hn : 0 ≤ n) (hn2 : n < 18446744073709551616)
    (h1 : 1 ≤ size) (h8 : size ≤ 8) (hf : n < 256 ^ size.toNat) :
    Calls Tryz.prog 100 #[.slice A m c, .int .u64 n, .int .i64 size] w (PutYes w l n size.toNat) := by
  obtain ⟨s, rfl⟩ := Int.eq_ofNat_of_zero_le (show 0 ≤ size by omega)
  obtain rfl := hr.len
  exact put_yes w A c l n s hr hm hn hn2 (by omega) (by omega) hf
end Go.Proofs.YtdgoeibfggjbmaaGreatDoor
namespace Go.Proofs.YtdgoeibfggjbmaaGreatDoor
open Go.RowKit
set_option maxRecDepth 100000

theorem same_is (w : World) (B : Nat) (A A2 : Option Addr) (n n2 c c2 : Nat) (l l2 : List Int) (h : Rd w B A n l) (h2 : Rd w B A2 n2 l2) (r : Bool) (hr : decide (l = l2) = r) :
    Calls Tryz.prog 21 #[.slice A n c, .slice A2 n2 c2] w fun e w' => e = .returned (.bool r) ∧ w = w' := by
  have k1 := run_conv_rd (P := Tryz.prog) w 38 9 5 Tryz.underlying38 Tryz.underlying5 Tryz.underlying9 c h
  have k2 := run_conv_rd (P := Tryz.prog) w 38 9 5 Tryz.underlying38 Tryz.underlying5 Tryz.underlying9 c2 h2
  have H := Lib.hid (beq_str l l2 h.oct h2.oct r hr)
  clear h h2 hr
  go_enter Tryz.func21, Tryz.ntmps21
  go_wp2
  go_ret
  rw [H.out]
  exact ⟨rfl, rfl⟩

def Row (w : World) (g : Nat) (m : Nat) : Prop := ∃ l, Byt w g 5 l ∧ Oct l ∧ l.length = m

theorem Row.set_ {w : World} {g m : Nat} (h : Row w g m) (i : Nat) {x : Int} (h0 : 0 ≤ x) (h1 : x < 256) : Row (w.setCell ⟨g, i, none⟩ (.int .u8 x)) g m := by
  obtain ⟨l, hb, ho, hl⟩ := h
  refine ⟨l.set i x, hb.set_ i x, fun y hy => ?_, by simpa using hl⟩
  rcases List.mem_or_eq_of_mem_set hy with hy | rfl
  · exact ho y hy
  · exact ⟨h0, h1⟩

def Lent (w : World) (n : Nat) (l : List Int) (e : Ending) (w' : World) : Prop :=
  e = .returned (.slice (some ⟨w.heap.size, 0, none⟩) n (n + 2)) ∧ Byt w' w.heap.size 5 (l ++ [165, 90]) ∧ Below w.heap.size w w'

end Go.Proofs.YtdgoeibfggjbmaaGreatDoor
namespace Go.Proofs.YtdgoeibfggjbmaaGreatDoor
open Go.RowKit
set_option maxRecDepth 100000

def Put (w : World) (l : List Int) (n size : Int) (e : Ending) (w' : World) : Prop :=
  Below w.heap.size w w' ∧ if 1 ≤ size ∧ size ≤ 8 ∧ n < 256 ^ size.toNat then
    e = .returned (.tuple #[.slice (some ⟨w.heap.size, 0, none⟩) (l.length + size.toNat) (l.length + size.toNat), .int .i64 0]) ∧ Byt w' w.heap.size 5 (l ++ be size.toNat n)
  else e = .returned (.tuple #[.slice none 0 0, .int .i64 2])

theorem put_is (w : World) (A : Option Addr) (m c : Nat) (l : List Int) (n size : Int) (hr : Rd w w.heap.size A m l) (hm : m ≤ 140737488355328) (hn : 0 ≤ n) (hn2 : n < 18446744073709551616) :
    Calls Tryz.prog 100 #[.slice A m c, .int .u64 n, .int .i64 size] w (Put w l n size) := by
  by_cases h : 1 ≤ size ∧ size ≤ 8 ∧ n < 256 ^ size.toNat
  · refine (put_fits w A m c l n size hr hm hn hn2 h.1 h.2.1 h.2.2).mono ?_
    rintro e w' ⟨he, hb, hB⟩
    exact ⟨hB, by rw [if_pos h]; exact ⟨he, hb⟩⟩
  · refine (put_no w A m c n size hn hn2 h).mono ?_
    rintro e w' ⟨he, rfl⟩
    exact ⟨Below.refl _ _, by rw [if_neg h]; exact he⟩
end Go.Proofs.YtdgoeibfggjbmaaGreatDoor
