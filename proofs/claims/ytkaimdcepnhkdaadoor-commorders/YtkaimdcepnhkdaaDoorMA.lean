/-
  Put together: Words Num Mid AdA AdB AdC AdD AdM AdE.
-/
import Derived.WalkKit
import Derived.Below
import Derived.Laws.BytesArg
import Derived.Laws.CopyRow
import Derived.Laws.CopyOwn
import Derived.Deep.OwnRows
import Derived.Deep.Draws
import Derived.Lib.Hide
import Derived.Laws.BitsAllLaws
import Derived.DeepKeys
import Derived.Deep.MidRow
import Derived.Deep.RegionHeld3
import Derived.Laws.Rows
import Derived.Laws.Tables
import Derived.Test.YtkaimdcepnhkdaaDoorProg
import Derived.Outline
import Derived.BigQuiet
import Derived.WalkLawsBesides
import Derived.BigFrame
namespace Go.Proofs.YtkaimdcepnhkdaaDoor
open Go.RowKit

/-- All are bytes. -/
def Oct (l : List Int) : Prop := ∀ x ∈ l, 0 ≤ x ∧ x < 256

theorem Oct.getD {l : List Int} (h : Oct l) (i : Nat) : 0 ≤ l.getD i 0 ∧ l.getD i 0 < 256 := by
  rcases Nat.lt_or_ge i l.length with hi | hi
  · have := h l[i] (List.getElem_mem hi)
    simpa [List.getD, List.getElem?_eq_getElem hi] using this
  · simp [List.getD, List.getElem?_eq_none hi]

/-- The slice value '.slice A n _' reads as the bytes l, in blocks below B. -/
structure Rd (w : World) (B : Nat) (A : Option Addr) (n : Nat) (l : List Int) : Prop where
  len : l.length = n
  oct : Oct l
  at_ : 0 < n → ∃ b off, A = some ⟨b, off, none⟩ ∧ b < B ∧ ∀ i, i < n → w.cell? ⟨b, off + i, none⟩ = some (.int .u8 (l.getD i 0))

/-- Block g is a row of the bytes l, known whole, none frozen. -/
def Byt (w : World) (g : Nat) (t : TypeId) (l : List Int) : Prop := w.heap[g]? = some (.cells (l.map (Value.int .u8)).toArray t (0, 0))

/-- Block g holds just the cells cs, none frozen. -/
def Blk (w : World) (g : Nat) (t : TypeId) (cs : Array Value) : Prop := w.heap[g]? = some (.cells cs t (0, 0))

section
variable {w w' : World} {B B' n g : Nat} {A : Option Addr} {l : List Int} {t : TypeId} {cs : Array Value}

theorem Rd.nil_ (A : Option Addr) : Rd w B A 0 [] := ⟨rfl, (fun x h => by cases h), fun h => absurd h (by omega)⟩
theorem Rd.keep (h : Rd w B A n l) (hk : ∀ p : Addr, p.block < B → w'.cell? p = w.cell? p) : Rd w' B A n l :=
  ⟨h.len, h.oct, fun hn => by
    obtain ⟨b, off, e, hb, hc⟩ := h.at_ hn
    exact ⟨b, off, e, hb, fun i hi => (hk _ hb).trans (hc i hi)⟩⟩
theorem Rd.more (h : Rd w B A n l) (hB : B ≤ B') : Rd w B' A n l :=
  ⟨h.len, h.oct, fun hn => by
    obtain ⟨b, off, e, hb, hc⟩ := h.at_ hn
    exact ⟨b, off, e, by omega, hc⟩⟩
theorem Rd.below (h : Rd w B A n l) (hb : Below B w w') : Rd w' B A n l := h.keep fun _ hp => hb.cell hp
theorem Rd.grown (h : Rd w B A n l) {row : Option Nat} (hg : w.grownBy w' row) (hB : B ≤ w.heap.size) (hr : ∀ g, row = some g → B ≤ g) : Rd w' B A n l :=
  h.keep fun p hp => World.cell?_of_block (hg.block p.block (by omega) (fun e => by have := hr _ e.symm; omega))
/-- A store into, or a growth beside, another block. -/
theorem Rd.apart (h : Rd w B A n l) {g : Nat} (hg : w.grownBy w' (some g)) (hB : B ≤ w.heap.size) (hne : ∀ b off, A = some ⟨b, off, none⟩ → b ≠ g) : Rd w' B A n l :=
  ⟨h.len, h.oct, fun hn => by
    obtain ⟨b, off, e, hb, hc⟩ := h.at_ hn
    exact ⟨b, off, e, hb, fun i hi => (World.cell?_of_block (hg.block b (by omega) (fun e' => hne b off e (by injection e')))).trans (hc i hi)⟩⟩

theorem Byt.lt (h : Byt w g t l) : g < w.heap.size := by
  rcases Nat.lt_or_ge g w.heap.size with hlt | hge
  · exact hlt
  · unfold Byt at h; rw [Array.getElem?_eq_none hge] at h; cases h
theorem Byt.cell (h : Byt w g t l) {i : Nat} (hi : i < l.length) : w.cell? ⟨g, i, none⟩ = some (.int .u8 (l.getD i 0)) := by
  unfold Byt at h
  simp [World.cell?, h, hi, List.getD]
theorem Byt.frozen (h : Byt w g t l) (i : Nat) : w.frozen? ⟨g, i, none⟩ = false := by
  unfold Byt at h
  simp [World.frozen?, h]
theorem Byt.set_ (h : Byt w g t l) (i : Nat) (x : Int) : Byt (w.setCell ⟨g, i, none⟩ (.int .u8 x)) g t (l.set i x) := by
  unfold Byt at h ⊢
  simp [World.setCell, Array.getElem?_modify, h, List.map_set, List.setIfInBounds_toArray]
theorem Byt.below (h : Byt w g t l) (hb : Below B w w') (hg : g < B) : Byt w' g t l := (hb.block g hg).trans h
theorem Byt.alloc (h : Byt w g t l) (o : Obj) : Byt (w.alloc o) g t l := (Below.heap_alloc w o g h.lt).trans h
theorem Byt.far (h : Byt w g t l) {p : Addr} (hp : g ≠ p.block) (u : Value) : Byt (w.setCell p u) g t l := (Below.heap_setCell w p u g hp).trans h
theorem Byt.grown {row : Option Nat} (h : Byt w g t l) (hb : w.grownBy w' row) (hg : some g ≠ row) : Byt w' g t l := (hb.block g h.lt hg).trans h
theorem Byt.rd (h : Byt w g t l) (ho : Oct l) {k : Nat} (hk : k ≤ l.length) (hB : g < B) : Rd w B (some ⟨g, 0, none⟩) k (l.take k) :=
  ⟨by simp; omega, fun x hx => ho x (List.mem_of_mem_take hx), fun hn => ⟨g, 0, rfl, hB, fun i hi => by
    rw [Nat.zero_add, h.cell (by omega)]
    simp [List.getD, hi]⟩⟩
theorem Byt.rd_all (h : Byt w g t l) (ho : Oct l) (hB : g < B) : Rd w B (some ⟨g, 0, none⟩) l.length l := by
  have := h.rd ho (Nat.le_refl _) hB
  rwa [List.take_length] at this

theorem Blk.lt (h : Blk w g t cs) : g < w.heap.size := by
  rcases Nat.lt_or_ge g w.heap.size with hlt | hge
  · exact hlt
  · unfold Blk at h; rw [Array.getElem?_eq_none hge] at h; cases h
theorem Blk.cell (h : Blk w g t cs) (i : Nat) : w.cell? ⟨g, i, none⟩ = cs[i]? := by
  unfold Blk at h
  simp [World.cell?, h]
theorem Blk.frozen (h : Blk w g t cs) (i : Nat) : w.frozen? ⟨g, i, none⟩ = false := by
  unfold Blk at h
  simp [World.frozen?, h]
theorem Blk.new (w : World) (t : TypeId) (cs : Array Value) : Blk (w.alloc (.cells cs t)) w.heap.size t cs := by
  unfold Blk
  show (w.heap.push _)[w.heap.size]? = _
  simp
theorem Blk.set_ (h : Blk w g t cs) (i : Nat) (u : Value) : Blk (w.setCell ⟨g, i, none⟩ u) g t (cs.setIfInBounds i u) := by
  unfold Blk at h ⊢
  simp [World.setCell, Array.getElem?_modify, h]
theorem Blk.far (h : Blk w g t cs) {p : Addr} (hp : g ≠ p.block) (u : Value) : Blk (w.setCell p u) g t cs := (Below.heap_setCell w p u g hp).trans h
theorem Blk.below (h : Blk w g t cs) (hb : Below B w w') (hg : g < B) : Blk w' g t cs := (hb.block g hg).trans h
theorem Blk.alloc (h : Blk w g t cs) (o : Obj) : Blk (w.alloc o) g t cs := (Below.heap_alloc w o g h.lt).trans h
theorem Blk.grown {row : Option Nat} (h : Blk w g t cs) (hb : w.grownBy w' row) (hg : some g ≠ row) : Blk w' g t cs := (hb.block g h.lt hg).trans h
end

/-! Only block g, and what is new, has turned: 'grownBy (some g)'. -/
section
variable {a w : World} {row : Option Nat} {g : Nat}
theorem only_refl (w : World) (row : Option Nat) : w.grownBy w row := ⟨rfl, rfl, rfl, Nat.le_refl _, fun _ _ _ => rfl⟩
theorem only_drewN (h : a.grownBy w row) (n : Nat) : a.grownBy (w.drewN n) row := ⟨h.os, h.tape, h.output, h.size, h.block⟩
theorem only_alloc (h : a.grownBy w row) (o : Obj) : a.grownBy (w.alloc o) row :=
  ⟨h.os, h.tape, h.output, Nat.le_trans h.size (by simp), fun i hi hne => (Below.heap_alloc w o i (Nat.lt_of_lt_of_le hi h.size)).trans (h.block i hi hne)⟩
theorem only_setCell (h : a.grownBy w (some g)) {p : Addr} (hp : p.block = g ∨ a.heap.size ≤ p.block) (u : Value) : a.grownBy (w.setCell p u) (some g) :=
  ⟨h.os, h.tape, h.output, by simpa [World.setCell] using h.size, fun i hi hne => (Below.heap_setCell w p u i (by
    rintro rfl
    rcases hp with hp | hp
    · exact hne (by rw [hp])
    · omega)).trans (h.block i hi hne)⟩
theorem only_of_below (h : Below a.heap.size a w) (row : Option Nat) : a.grownBy w row := ⟨h.os, h.tape, h.output, h.size, fun i hi _ => h.block i hi⟩
theorem only_trans {b : World} (h : a.grownBy b row) (k : b.grownBy w row) : a.grownBy w row :=
  ⟨k.os.trans h.os, k.tape.trans h.tape, k.output.trans h.output, Nat.le_trans h.size k.size, fun i hi hne => (k.block i (Nat.lt_of_lt_of_le hi h.size) hne).trans (h.block i hi hne)⟩
/-- What has turned in a block of the call's own has turned below no old block. -/
theorem below_only {b : World} {B : Nat} (h : Below B a b) (k : b.grownBy w row) (hB : B ≤ b.heap.size) (hr : ∀ g, row = some g → B ≤ g) : Below B a w := h.grown k hB hr
theorem below_drewN {B : Nat} (h : Below B a w) (n : Nat) : Below B a (w.drewN n) := ⟨h.os, h.tape, h.output, h.size, h.block⟩
end

/-- A cut 's[k:k+m]', the address as the walk leaves it. -/
theorem Rd.cut {w : World} {B n c k m : Nat} {A : Option Addr} {l : List Int} (h : Rd w B A n l) (hk : k + m ≤ n) (hc : n ≤ c) :
    Rd w B (if c = k then A else A.map (fun x => x.add k)) m ((l.drop k).take m) := by
  refine ⟨by have := h.len; simp; omega, fun x hx => h.oct x (List.mem_of_mem_drop (List.mem_of_mem_take hx)), fun hm => ?_⟩
  obtain ⟨b, off, rfl, hb, hcell⟩ := h.at_ (by omega)
  rw [if_neg (by omega)]
  have e : (⟨b, off, none⟩ : Addr).add k = ⟨b, off + k, none⟩ := by unfold Addr.add; split <;> simp_all
  refine ⟨b, off + k, by simp [e], hb, fun i hi => ?_⟩
  rw [Nat.add_assoc, hcell (k + i) (by omega)]
  simp [List.getD, hi]

/-- New bytes: a slice (empty, or a block of its own, known whole) that was not there in w. -/
def New (t : TypeId) (w w' : World) (A : Option Addr) (n : Nat) (l : List Int) : Prop :=
  Oct l ∧ l.length = n ∧ (n = 0 ∨ ∃ g, A = some ⟨g, 0, none⟩ ∧ w.heap.size ≤ g ∧ Byt w' g t l)

theorem New.rd {t : TypeId} {w w' : World} {A : Option Addr} {n : Nat} {l : List Int} (h : New t w w' A n l) : Rd w' w'.heap.size A n l := by
  obtain ⟨ho, hl, rfl | ⟨g, rfl, hg, hb⟩⟩ := h
  · obtain rfl : l = [] := List.eq_nil_of_length_eq_zero hl
    exact Rd.nil_ A
  · subst hl
    exact hb.rd_all ho hb.lt

/-- 'string(b)' of bytes that read as l. -/
theorem run_conv_rd {P : Program} (w : World) (src dst e : TypeId) (hs : P.underlying src = some (.slice e)) (he : P.underlying e = some (.int .u8)) (hd : P.underlying dst = some .string)
    {B : Nat} {A : Option Addr} {n : Nat} {l : List Int} (c : Nat) (h : Rd w B A n l) : (convert src dst (.slice A n c)).run P w = .ok (.string (strOfNums l)) w := by
  rcases Nat.eq_zero_or_pos n with h0 | hn
  · subst h0
    obtain rfl : l = [] := List.eq_nil_of_length_eq_zero h.len
    rw [run_convert_bytes_string w src dst e _ 0 c hs he hd]
    cases A <;> simp [Conv.bytesToString, loadCells]
    all_goals rfl
  · obtain ⟨b, off, rfl, _, hc⟩ := h.at_ hn
    exact run_convert_bytes_arg w src e hs he b off n c l h.len hc dst hd

theorem strOfNums_inj {a b : List Int} (ha : Oct a) (hb : Oct b) (h : strOfNums a = strOfNums b) : a = b := by
  have h1 : a.map (fun n => UInt8.ofNat n.toNat) = b.map (fun n => UInt8.ofNat n.toNat) := by
    rw [← strOfNums_data, ← strOfNums_data, h]
  have hl : a.length = b.length := by simpa using congrArg List.length h1
  apply List.ext_getElem hl
  intro i h2 h3
  have e := congrArg (fun l : List UInt8 => l[i]?) h1
  simp only [List.getElem?_map, List.getElem?_eq_getElem h2, List.getElem?_eq_getElem h3, Option.map_some, Option.some.injEq] at e
  have xa := ha a[i] (List.getElem_mem h2)
  have xb := hb b[i] (List.getElem_mem h3)
  have e' := congrArg UInt8.toNat e
  rw [UInt8.toNat_ofNat', UInt8.toNat_ofNat'] at e'
  omega
theorem beq_str (a b : List Int) (ha : Oct a) (hb : Oct b) (r : Bool) (h : decide (a = b) = r) : ((strOfNums a).toList == (strOfNums b).toList) = r := by
  subst h
  rw [Bool.eq_iff_iff, beq_iff_eq, decide_eq_true_iff]
  constructor
  · intro e
    refine strOfNums_inj ha hb ?_
    have : (strOfNums a).data.toList = (strOfNums b).data.toList := by rw [← ByteArray.toList_eq, ← ByteArray.toList_eq]; exact e
    unfold strOfNums at this ⊢
    simpa using this
  · rintro rfl
    rfl

/-- A slice of structs of two ints that reads as the pairs xs, in blocks below B. -/
structure Rec2 (w : World) (B : Nat) (A : Option Addr) (n : Nat) (xs : List (Int × Int)) : Prop where
  len : xs.length = n
  bd : ∀ x ∈ xs, (-9223372036854775808 ≤ x.1 ∧ x.1 < 9223372036854775808) ∧ (-9223372036854775808 ≤ x.2 ∧ x.2 < 9223372036854775808)
  at_ : 0 < n → ∃ b off, A = some ⟨b, off, none⟩ ∧ b < B ∧ ∀ i (h : i < xs.length), w.cell? ⟨b, off + i * 2, none⟩ = some (.int .i64 xs[i].1) ∧ w.cell? ⟨b, off + i * 2 + 1, none⟩ = some (.int .i64 xs[i].2)
theorem Rec2.keep {w w' : World} {B n : Nat} {A : Option Addr} {xs : List (Int × Int)} (h : Rec2 w B A n xs) (hk : ∀ p : Addr, p.block < B → w'.cell? p = w.cell? p) : Rec2 w' B A n xs :=
  ⟨h.len, h.bd, fun hn => by
    obtain ⟨b, off, e, hb, hc⟩ := h.at_ hn
    exact ⟨b, off, e, hb, fun i hi => ⟨(hk _ hb).trans (hc i hi).1, (hk _ hb).trans (hc i hi).2⟩⟩⟩
theorem Rec2.below {w w' : World} {B n : Nat} {A : Option Addr} {xs : List (Int × Int)} (h : Rec2 w B A n xs) (hb : Below B w w') : Rec2 w' B A n xs := h.keep fun _ hp => hb.cell hp

theorem wf_u64 {a : Int} (h : (Lit.int .u64 a).wf = true) : 0 ≤ a ∧ a < 18446744073709551616 := by
  simp [Lit.wf, IntKind.min, IntKind.max, IntKind.signed, IntKind.bits] at h
  omega
theorem wf_i64 {a : Int} (h : (Lit.int .i64 a).wf = true) : -9223372036854775808 ≤ a ∧ a < 9223372036854775808 := by
  simp [Lit.wf, IntKind.min, IntKind.max, IntKind.signed, IntKind.bits] at h
  omega

/-- What make lays for bytes is a row of zeros. -/
theorem byt_made (w : World) (n : Nat) (t : TypeId) : Byt (w.alloc (.cells (madeCells #[.int .u8 0] n) t)) w.heap.size t (List.replicate n 0) := by
  unfold Byt
  show (w.heap.push _)[w.heap.size]? = _
  rw [Array.getElem?_push, if_pos rfl]
  congr 2
  apply Array.ext_getElem?
  intro i
  by_cases hi : i < n <;> simp [madeCells, hi, Nat.mod_one]
end Go.Proofs.YtkaimdcepnhkdaaDoor
namespace Go.Proofs.YtkaimdcepnhkdaaDoor
open Go.RowKit

/-- The number in bytes, the highest one first. -/
def numOf (l : List Int) : Int := l.foldl (fun n b => n * 256 + b) 0
theorem numOf_snoc (l : List Int) (b : Int) : numOf (l ++ [b]) = numOf l * 256 + b := by simp [numOf]
theorem numOf_bd_take (l : List Int) (h : Oct l) : ∀ m, m ≤ l.length → 0 ≤ numOf (l.take m) ∧ numOf (l.take m) < 256 ^ m
  | 0, _ => by simp [numOf]
  | m + 1, hm => by
    have ih := numOf_bd_take l h m (by omega)
    have hb := h l[m] (List.getElem_mem (by omega))
    rw [List.take_succ_eq_append_getElem (by omega), numOf_snoc, Int.pow_succ]
    omega
theorem numOf_bd (l : List Int) (h : Oct l) : 0 ≤ numOf l ∧ numOf l < 256 ^ l.length := by
  have := numOf_bd_take l h l.length (Nat.le_refl _)
  rwa [List.take_length] at this
theorem numOf_or (N x : Int) (h0 : 0 ≤ N) (h1 : N < 72057594037927936) (hx0 : 0 ≤ x) (hx1 : x < 256) :
    bits .or .u64 (IntKind.u64.wrap (N * 256)) (IntKind.u64.wrap x) = N * 256 + x := by
  rw [IntKind.wrap_u64, IntKind.wrap_u64, Int.emod_eq_of_lt (by omega) (by omega), Int.emod_eq_of_lt (by omega) (by omega), u64_or _ _ (by omega) (by omega) (by omega) (by omega)]
  obtain ⟨n, rfl⟩ := Int.eq_ofNat_of_zero_le h0
  obtain ⟨y, rfl⟩ := Int.eq_ofNat_of_zero_le hx0
  have hy : y < 2 ^ 8 := by omega
  have e : ((n : Int) * 256).toNat = 2 ^ 8 * n := by omega
  rw [e, Int.toNat_natCast, ← Nat.two_pow_add_eq_or_of_lt hy]
  omega
theorem pow256_7 : ∀ m, m < 8 → (256 : Int) ^ m ≤ 72057594037927936 := by decide
theorem numOf_step (xs : List Int) (m : Nat) (hm : m < xs.length) (h8 : xs.length ≤ 8) (ho : Oct xs) :
    bits .or .u64 (IntKind.u64.wrap (numOf (xs.take m) * 256)) (IntKind.u64.wrap xs[m]) = numOf (xs.take (m + 1)) := by
  have hb := numOf_bd_take xs ho m (by omega)
  have hx := ho xs[m] (List.getElem_mem hm)
  have hp := pow256_7 m (by omega)
  rw [numOf_or _ _ hb.1 (by omega) hx.1 hx.2, List.take_succ_eq_append_getElem hm, numOf_snoc]

/-- The cells of bytes. -/
abbrev u8s (l : List Int) : List Value := l.map (Value.int .u8)

theorem u8s_inj {a b : List Int} (h : u8s a = u8s b) : a = b := by
  have := congrArg (List.map fun v : Value => match v with | .int _ n => n | _ => 0) h
  simpa [u8s, List.map_map, Function.comp_def] using this

/-- Two aggregates of a type that can be a key are compared by their literals. -/
theorem run_eql_key {P : Program} {t : TypeId} (m D D' : Nat) (hk : P.keyTypeAt m t = true) (hm : m ≤ 10000) (xs ys : Array Value) (lx ly : List Lit)
    (fx : (Value.agg xs).formed P t = true) (fy : (Value.agg ys).formed P t = true) (hx : P.keyLits D t xs.toList = some lx) (hy : P.keyLits D' t ys.toList = some ly) (b : Bool) (hb : b = true ↔ lx = ly) (w : World) :
    (binOp .eql t (.agg xs) (.agg ys)).run P w = .ok (.bool b) w := by
  obtain ⟨r, hr, hiff⟩ := run_equalIn_deep (10000 - m) m t hk w D D' (.agg xs) (.agg ys) lx ly fx fy (by simpa [Value.cells] using hx) (by simpa [Value.cells] using hy)
  rw [show 10000 - m + m = 10000 by omega] at hr
  rw [run_eql_struct, hr]
  have : r = b := by rw [Bool.eq_iff_iff, hiff, hb]
  simp [Result.andThen, this]
theorem run_neq_key {P : Program} {t : TypeId} (m D D' : Nat) (hk : P.keyTypeAt m t = true) (hm : m ≤ 10000) (xs ys : Array Value) (lx ly : List Lit)
    (fx : (Value.agg xs).formed P t = true) (fy : (Value.agg ys).formed P t = true) (hx : P.keyLits D t xs.toList = some lx) (hy : P.keyLits D' t ys.toList = some ly) (b : Bool) (hb : b = true ↔ lx = ly) (w : World) :
    (binOp .neq t (.agg xs) (.agg ys)).run P w = .ok (.bool (!b)) w := by
  obtain ⟨r, hr, hiff⟩ := run_equalIn_deep (10000 - m) m t hk w D D' (.agg xs) (.agg ys) lx ly fx fy (by simpa [Value.cells] using hx) (by simpa [Value.cells] using hy)
  rw [show 10000 - m + m = 10000 by omega] at hr
  rw [run_neq_struct, hr]
  have : r = b := by rw [Bool.eq_iff_iff, hiff, hb]
  simp [Result.andThen, this]
theorem mapM_some {α β : Type} {f : α → Option β} {g : α → β} : ∀ (xs : List α), (∀ x ∈ xs, f x = some (g x)) → xs.mapM f = some (xs.map g)
  | [], _ => rfl
  | x :: xs, h => by simp [List.mapM_cons, h x (by simp), mapM_some xs (fun y hy => h y (by simp [hy]))]
theorem range_map_get {α : Type} (l : List Int) (g : Int → α) : (List.range l.length).map (fun i => g (l.getD i 0)) = l.map g := by
  apply List.ext_getElem (by simp)
  intro i h1 h2
  have hi : i < l.length := by simpa using h1
  simp [List.getD, hi]
theorem oct_wf {x : Int} (h : 0 ≤ x ∧ x < 256) : (Lit.int .u8 x).wf = true := by
  simp [Lit.wf, IntKind.min, IntKind.max, IntKind.signed, IntKind.bits]; omega
theorem flatten_single {α β : Type} (g : α → β) : ∀ l : List α, (l.map fun x => [g x]).flatten = l.map g
  | [] => rfl
  | x :: l => by simp [flatten_single g l]
/-- The literals of an array of bytes. -/
theorem keyLits_u8s {P : Program} (d : Nat) {t e : TypeId} {n : Nat} (hu : P.underlying t = some (.array n e)) (he : P.underlying e = some (.int .u8)) (hce : P.cellsOf e = 1) (hct : P.cellsOf t = n)
    (l : List Int) (hl : l.length = n) (ho : Oct l) : P.keyLits (d + 2) t (u8s l) = some (l.map (Lit.int .u8)) := by
  subst hl
  unfold Program.keyLits
  rw [hu]
  simp only [hct, hce, u8s, List.length_map, if_true]
  rw [mapM_some (g := fun i => [Lit.int .u8 (l.getD i 0)])]
  · rw [range_map_get l (fun x => [Lit.int .u8 x])]
    simp only [Option.map_some, flatten_single]
  · intro i hi
    have hi' : i < l.length := by simpa using hi
    have hx := oct_wf (ho l[i] (List.getElem_mem hi'))
    unfold Program.keyLits
    rw [he]
    have : ((l.map (Value.int .u8)).drop (i * 1)).take 1 = [Value.int .u8 l[i]] := by
      rw [Nat.mul_one, ← List.map_drop, List.drop_eq_getElem_cons hi']
      rfl
    rw [this]
    simp [hx, List.getD, hi']
/-- Two arrays of bytes. -/
theorem run_eql_u8s {P : Program} {t e : TypeId} {n : Nat} (hk : P.keyTypeAt 2 t = true) (hu : P.underlying t = some (.array n e)) (he : P.underlying e = some (.int .u8)) (hce : P.cellsOf e = 1) (hct : P.cellsOf t = n)
    (l l' : List Int) (hl : l.length = n) (hl' : l'.length = n) (ho : Oct l) (ho' : Oct l') (b : Bool) (hb : decide (l = l') = b) (w : World) :
    (binOp .eql t (.agg (u8s l).toArray) (.agg (u8s l').toArray)).run P w = .ok (.bool b) w := by
  refine run_eql_key 2 2 2 hk (by omega) _ _ _ _ ?_ ?_ (by simpa using keyLits_u8s 0 hu he hce hct l hl ho) (by simpa using keyLits_u8s 0 hu he hce hct l' hl' ho') b ?_ w
  · simp [Value.formed, hu, hct, hl]
  · simp [Value.formed, hu, hct, hl']
  · subst hb
    simp only [decide_eq_true_eq]
    exact ⟨fun h => by rw [h], fun h => by
      have := congrArg (List.map fun v : Lit => match v with | .int _ n => n | _ => 0) h
      simpa [List.map_map, Function.comp_def] using this⟩
theorem run_neq_u8s {P : Program} {t e : TypeId} {n : Nat} (hk : P.keyTypeAt 2 t = true) (hu : P.underlying t = some (.array n e)) (he : P.underlying e = some (.int .u8)) (hce : P.cellsOf e = 1) (hct : P.cellsOf t = n)
    (l l' : List Int) (hl : l.length = n) (hl' : l'.length = n) (ho : Oct l) (ho' : Oct l') (b : Bool) (hb : (!decide (l = l')) = b) (w : World) :
    (binOp .neq t (.agg (u8s l).toArray) (.agg (u8s l').toArray)).run P w = .ok (.bool b) w := by
  subst hb
  refine run_neq_key 2 2 2 hk (by omega) _ _ _ _ ?_ ?_ (by simpa using keyLits_u8s 0 hu he hce hct l hl ho) (by simpa using keyLits_u8s 0 hu he hce hct l' hl' ho') _ ?_ w
  · simp [Value.formed, hu, hct, hl]
  · simp [Value.formed, hu, hct, hl']
  · simp only [decide_eq_true_eq]
    exact ⟨fun h => by rw [h], fun h => by
      have := congrArg (List.map fun v : Lit => match v with | .int _ n => n | _ => 0) h
      simpa [List.map_map, Function.comp_def] using this⟩
end Go.Proofs.YtkaimdcepnhkdaaDoor
namespace Go.Proofs.YtkaimdcepnhkdaaDoor
open Go.RowKit

section
variable {w w' : World} {b o B : Nat} {cs : List Value}
theorem range_new (w : World) (t : TypeId) (cs : List Value) : (w.alloc (.cells cs.toArray t)).rangeAt w.heap.size 0 cs := by
  intro j v hv
  rw [World.cell?_alloc_new]
  simpa using hv
theorem range_lt (h : w.rangeAt b o cs) (hn : 0 < cs.length) : b < w.heap.size := by
  have h0 := h 0 cs[0] (by simp)
  exact World.block_lt_of_cell? w _ h0
theorem range_keep (h : w.rangeAt b o cs) (hk : ∀ p : Addr, p.block = b → w'.cell? p = w.cell? p) : w'.rangeAt b o cs := fun j v hv => by
  rw [hk _ rfl]
  exact h j v hv
theorem range_below (h : w.rangeAt b o cs) (hB : Below B w w') (hb : b < B) : w'.rangeAt b o cs := range_keep h fun p hp => hB.cell (by rw [hp]; exact hb)
theorem range_alloc (h : w.rangeAt b o cs) (ob : Obj) (hb : b < w.heap.size) : (w.alloc ob).rangeAt b o cs := range_keep h fun p hp => World.cell?_of_block (Below.heap_alloc w ob p.block (by omega))
theorem range_drewN (h : w.rangeAt b o cs) (n : Nat) : (w.drewN n).rangeAt b o cs := h
theorem range_far (h : w.rangeAt b o cs) {p : Addr} (hp : b ≠ p.block) (u : Value) : (w.setCell p u).rangeAt b o cs := range_keep h fun q hq => World.cell?_of_block (Below.heap_setCell w p u q.block (by rw [hq]; exact hp))
theorem range_grown {row : Option Nat} (h : w.rangeAt b o cs) (hg : w.grownBy w' row) (hb : b < w.heap.size) (hr : some b ≠ row) : w'.rangeAt b o cs :=
  range_keep h fun p hp => World.cell?_of_block (hg.block p.block (by omega) (by rw [hp]; exact hr))
/-- The first ones of them. -/
theorem range_pre {ds : List Value} (h : w.rangeAt b o (cs ++ ds)) : w.rangeAt b o cs := fun j v hv => h j v (by rw [List.getElem?_append_left (List.getElem?_eq_some_iff.1 hv).1]; exact hv)
theorem range_post {ds : List Value} (h : w.rangeAt b o (cs ++ ds)) : w.rangeAt b (o + cs.length) ds := fun j v hv => by
  have := h (cs.length + j) v (by rw [List.getElem?_append_right (by omega), Nat.add_sub_cancel_left]; exact hv)
  rwa [← Nat.add_assoc] at this
theorem range_cell {v : Value} {j : Nat} (h : w.rangeAt b o cs) (hv : cs[j]? = some v) : w.cell? ⟨b, o + j, none⟩ = some v := h j v hv
end

theorem below_setRow (w : World) (g : Nat) (cs : Array Value) {B : Nat} (hg : B ≤ g) : Below B w (w.setRow g cs) :=
  ⟨rfl, rfl, rfl, by simp [World.setRow], fun i hi => by simp [World.setRow, Array.getElem?_modify, show g ≠ i by omega]⟩
theorem Blk.setRow {w : World} {g : Nat} {t : TypeId} {old : Array Value} (h : Blk w g t old) (cs : Array Value) : Blk (w.setRow g cs) g t cs := setRow_heap w g old cs t (0, 0) h
theorem Blk.range {w : World} {g : Nat} {t : TypeId} {cs : List Value} (h : Blk w g t cs.toArray) : w.rangeAt g 0 cs := fun j u hu => by rw [Nat.zero_add, h.cell]; simpa using hu

/-- Two results: a variable of several cells, and a slot. -/
theorem results_cell_slot {P : Program} {fn : Func} {p q : Tmp} {ty : TypeId} (h : fn.results = #[.cell p ty, .tmp q]) (tmps : Array Value) (w : World) (g : Nat) (t : TypeId) (cs : Array Value) (d : TypeDesc) (u : Value)
    (hp : tmps.getD p undef = .pointer (some ⟨g, 0, none⟩)) (hq : tmps.getD q undef = u) (hg : Blk w g t cs) (hu : P.underlying ty = some d) (hd : (match d with | .struct _ | .array _ _ => true | _ => false) = true) (hi : (P.info? ty).map (·.size) = some cs.size) :
    (results fn tmps).run P w = .ok (.tuple #[.agg cs, u]) w := by
  have hp' : tmps[p]?.getD undef = .pointer (some ⟨g, 0, none⟩) := by simpa using hp
  have hq' : tmps[q]?.getD undef = u := by simpa using hq
  simp [results, h, hp', hq', asAddr, run_loadVar_row w g t ty cs (0, 0) d hg hu hd hi]

/-- 'a[l:h]', 'a[l:]', 'a[:h]' of an array of one-cell elements behind a pointer. -/
theorem slice_arr_lh {P : Program} {t e : TypeId} {n : Nat} (hu : P.underlying t = some (.array n e)) (hi0 : (P.info? e).map (·.size) = some 1) (g o l h : Nat) (h1 : l ≤ h) (h2 : h ≤ n) (h3 : l < n) (a b : Int) (ha : a = l) (hb : b = h) (W : World) :
    (Instr.sliceAt t (.pointer (some ⟨g, o, none⟩)) (some (.int .i64 a)) (some (.int .i64 b)) none).run P W = .ok (.slice (some ⟨g, o + l, none⟩) (h - l) (n - l)) W := by
  subst ha hb
  have hal : P.arrayLen t = n := by simp [Program.arrayLen, hu]
  have hel : P.elem t = e := by simp [Program.elem, hu]
  rw [run_sliceAt_array_lh W t ⟨g, o, none⟩ (by rw [hu, hal, hel]) .i64 .i64 (l : Int) (h : Int) (by omega) (by omega) (by rw [hal]; omega), hal, hel]
  obtain ⟨i, hi, hs⟩ := Option.map_eq_some_iff.1 hi0
  simp only [sizeOf, typeInfo, Sem.run_bind]
  simp [Result.andThen, slicedAt, hi, hs, show n ≠ l by omega, Addr.add]
theorem slice_arr_l {P : Program} {t e : TypeId} {n : Nat} (hu : P.underlying t = some (.array n e)) (hi0 : (P.info? e).map (·.size) = some 1) (g o l : Nat) (h3 : l < n) (a : Int) (ha : a = l) (W : World) :
    (Instr.sliceAt t (.pointer (some ⟨g, o, none⟩)) (some (.int .i64 a)) none none).run P W = .ok (.slice (some ⟨g, o + l, none⟩) (n - l) (n - l)) W := by
  subst ha
  have hal : P.arrayLen t = n := by simp [Program.arrayLen, hu]
  have hel : P.elem t = e := by simp [Program.elem, hu]
  rw [run_sliceAt_array_l W t ⟨g, o, none⟩ (by rw [hu, hal, hel]) .i64 (l : Int) (by omega) (by rw [hal]; omega), hal, hel]
  obtain ⟨i, hi, hs⟩ := Option.map_eq_some_iff.1 hi0
  simp only [sizeOf, typeInfo, Sem.run_bind]
  simp [Result.andThen, slicedAt, hi, hs, show n ≠ l by omega, Addr.add]
theorem slice_arr_h {P : Program} {t e : TypeId} {n : Nat} (hu : P.underlying t = some (.array n e)) (hi0 : (P.info? e).map (·.size) = some 1) (g o h : Nat) (h2 : h ≤ n) (h3 : 0 < n) (b : Int) (hb : b = h) (W : World) :
    (Instr.sliceAt t (.pointer (some ⟨g, o, none⟩)) none (some (.int .i64 b)) none).run P W = .ok (.slice (some ⟨g, o, none⟩) h n) W := by
  subst hb
  have hal : P.arrayLen t = n := by simp [Program.arrayLen, hu]
  have hel : P.elem t = e := by simp [Program.elem, hu]
  rw [run_sliceAt_array_h W t ⟨g, o, none⟩ (by rw [hu, hal, hel]) .i64 (h : Int) (by omega) (by rw [hal]; omega), hal, hel]
  obtain ⟨i, hi, hs⟩ := Option.map_eq_some_iff.1 hi0
  simp only [sizeOf, typeInfo, Sem.run_bind]
  simp [Result.andThen, slicedAt, hi, hs, show n ≠ 0 by omega, Addr.add]

/-- Bytes among the cells of a range. -/
theorem rd_range {w : World} {b B : Nat} {pre post : List Value} {l : List Int} (h : w.rangeAt b 0 (pre ++ (u8s l ++ post))) (ho : Oct l) (k m : Nat) (hm : k + m ≤ l.length) (hB : b < B) :
    Rd w B (some ⟨b, pre.length + k, none⟩) m ((l.drop k).take m) := by
  refine ⟨by simp; omega, fun x hx => ho x (List.mem_of_mem_drop (List.mem_of_mem_take hx)), fun _ => ⟨_, _, rfl, hB, fun i hi => ?_⟩⟩
  have h2 : k + i < l.length := by omega
  have hv : (pre ++ (u8s l ++ post))[pre.length + (k + i)]? = some (.int .u8 (l.getD (k + i) 0)) := by
    rw [List.getElem?_append_right (by omega), Nat.add_sub_cancel_left, List.getElem?_append_left (by simp; omega)]
    simp [List.getD, h2]
  have := h _ _ hv
  rw [Nat.zero_add, ← Nat.add_assoc] at this
  rw [this]
  simp [List.getD, hi]
end Go.Proofs.YtkaimdcepnhkdaaDoor
namespace Go.Proofs.YtkaimdcepnhkdaaDoor
open Go.RowKit
set_option linter.unusedSimpArgs false
set_option linter.unusedVariables false

set_option maxHeartbeats 400000 in
theorem number_is (w : World) (B : Nat) (A : Option Addr) (n c : Nat) (l : List Int) (hr : Rd w B A n l) (h8 : n ≤ 8) :
    Calls Tryd.prog 117 #[.slice A n c] w fun e w' => e = .returned (.int .u64 (numOf l)) ∧ w = w' := by
  have H := Lib.hid hr
  obtain rfl := hr.len
  have HO := Lib.hid hr.oct
  clear hr
  go_enter Tryd.func117, Tryd.ntmps117
  go_wp2
  go_loop [3, 5, 8] (fun s _ i => ∃ m : Nat, m ≤ l.length ∧ i = .int .i64 m ∧ s = .int .u64 (numOf (l.take m))) (fun _ _ i => l.length - (intOf i).toNat)
  case atStart => exact ⟨0, Nat.zero_le _, rfl, rfl⟩
  case round =>
    obtain ⟨m, hm, rfl, rfl⟩ := hrel
    by_cases hlt : m < l.length
    · obtain ⟨b, off, rfl, hb, hcell⟩ := H.out.at_ (by omega)
      have hcm := hcell m hlt
      have HS := Lib.hid (numOf_step l m hlt h8 HO.out)
      clear hcell
      go_wp2
      refine ⟨⟨m + 1, by omega, by go_num, by rw [HS.out]⟩, by simp [intOf]; omega⟩
    · obtain rfl : m = l.length := by omega
      rw [List.take_length]
      go_wp2
      go_ret
      exact ⟨rfl, rfl⟩

/-- An address's cells. -/
abbrev ipc (v : Bool) (l : List Int) : List Value := Value.bool v :: u8s l
set_option maxHeartbeats 400000 in
theorem first4_is (w : World) (v : Bool) (l : List Int) (hl : l.length = 16) (ho : Oct l) :
    Calls Tryd.prog 76 #[.agg (ipc v l).toArray] w fun e w' => e = .returned (.int .u32 (numOf (l.take 4))) ∧ Below w.heap.size w w' := by
  have hr0 := rd_range (pre := [.bool v]) (post := []) (l := l) (B := w.heap.size + 1) (by simpa using range_new w 24 (ipc v l)) ho 0 4 (by omega) (by omega)
  have H := Lib.hid hr0
  clear hr0
  have hb := numOf_bd (l.take 4) (fun x hx => ho x (List.mem_of_mem_take hx))
  rw [show (l.take 4).length = 4 by simp; omega] at hb
  have HW := Lib.hid (show numOf (l.take 4) % 4294967296 = numOf (l.take 4) from Int.emod_eq_of_lt hb.1 (by omega))
  clear hb
  go_enter Tryd.func76, Tryd.ntmps76
  go_wp2_with fail
  refine (number_is _ (w.heap.size + 1) _ 4 16 (l.take 4) (by simpa using H.out) (by omega)).mono ?_
  rintro e w' ⟨rfl, rfl⟩
  go_wp2
  go_ret
  rw [HW.out]
  exact ⟨rfl, (Below.refl _ _).alloc (Nat.le_refl _) _⟩

/-- The four bytes of n. -/
def four (n : Int) : List Int := [n / 16777216, n / 65536 % 256, n / 256 % 256, n % 256] ++ List.replicate 12 0

set_option maxHeartbeats 400000 in
theorem four_is (w : World) (n : Int) (h0 : 0 ≤ n) (h1 : n < 4294967296) :
    Calls Tryd.prog 19 #[.int .u32 n] w fun e w' => e = .returned (.agg (ipc false (four n)).toArray) ∧ Below w.heap.size w w' := by
  go_enter Tryd.func19, Tryd.ntmps19
  go_wp2
  refine bodyPost_ret (v := .agg (ipc false (four n)).toArray) ?_ rfl ⟨rfl, (Below.refl _ _).alloc (Nat.le_refl _) _⟩
  exact results_cell_row rfl _ _ w.heap.size 24 _ (0, 0) _ rfl (Blk.new w 24 _) Tryd.underlying24 rfl (by kernel_rfl)

theorem four_len (n : Int) : (four n).length = 16 := by simp [four]
theorem four_oct (n : Int) (h0 : 0 ≤ n) (h1 : n < 4294967296) : Oct (four n) := by
  intro x hx
  simp [four] at hx
  omega
/-- An address that is right. -/
def rightB (v : Bool) (l : List Int) : Bool := v || decide (l.drop 4 = List.replicate 12 0)
theorem four_num : ∀ (l : List Int), l.length = 16 → Oct l → (l = four (numOf (l.take 4)) ↔ l.drop 4 = List.replicate 12 0) := by
  intro l hl ho
  match l, hl with
  | a :: b :: c :: d :: r, hl =>
    have ha := ho a (by simp)
    have hb := ho b (by simp)
    have hc := ho c (by simp)
    have hd := ho d (by simp)
    have e : numOf [a, b, c, d] = ((a * 256 + b) * 256 + c) * 256 + d := by simp [numOf]
    simp only [List.take_succ_cons, List.take_zero, e, four, List.drop_succ_cons, List.drop_zero, List.cons_append, List.nil_append, List.cons.injEq]
    constructor
    · exact fun h => h.2.2.2.2
    · exact fun h => ⟨by omega, by omega, by omega, by omega, h⟩

end Go.Proofs.YtkaimdcepnhkdaaDoor
namespace Go.Proofs.YtkaimdcepnhkdaaDoor
open Go.RowKit
set_option linter.unusedSimpArgs false
set_option linter.unusedVariables false

theorem ip_lits (v : Bool) (l : List Int) (hl : l.length = 16) (ho : Oct l) : Tryd.prog.keyLits 3 24 (ipc v l) = some (.bool v :: l.map (Lit.int .u8)) := by
  have h := keyLits_u8s (P := Tryd.prog) 0 (t := 22) (e := 5) (n := 16) Tryd.underlying22 Tryd.underlying5 (by kernel_rfl) (by kernel_rfl) l hl ho
  have hc1 : Tryd.prog.cellsOf 24 = 17 := by kernel_rfl
  have hc2 : Tryd.prog.cellsOf 22 = 16 := by kernel_rfl
  have hc3 : Tryd.prog.cellsOf 4 = 1 := by kernel_rfl
  unfold Program.keyLits
  rw [Tryd.underlying24]
  have hb : Tryd.prog.keyLits 2 4 [Value.bool v] = some [Lit.bool v] := by
    unfold Program.keyLits
    rw [Tryd.underlying4]
  have ht : (u8s l).take 16 = u8s l := List.take_of_length_le (by simp [hl])
  simp [hc1, hc2, hc3, hl, hb, ht, h]
theorem ip_formed (v : Bool) (l : List Int) (hl : l.length = 16) : (Value.agg (ipc v l).toArray).formed Tryd.prog 24 = true := by
  have hc1 : Tryd.prog.cellsOf 24 = 17 := by kernel_rfl
  simp [Value.formed, Tryd.underlying24, hc1, hl]
theorem lits_inj {a b : List Int} (h : a.map (Lit.int .u8) = b.map (Lit.int .u8)) : a = b := by
  have := congrArg (List.map fun v : Lit => match v with | .int _ n => n | _ => 0) h
  simpa [List.map_map, Function.comp_def] using this
theorem ip_eql (v v' : Bool) (l l' : List Int) (hl : l.length = 16) (hl' : l'.length = 16) (ho : Oct l) (ho' : Oct l') (b : Bool) (hb : decide (v = v' ∧ l = l') = b) (w : World) :
    (binOp .eql 24 (.agg (ipc v l).toArray) (.agg (ipc v' l').toArray)).run Tryd.prog w = .ok (.bool b) w := by
  refine run_eql_key 3 3 3 (by kernel_rfl) (by omega) _ _ _ _ (ip_formed v l hl) (ip_formed v' l' hl') (ip_lits v l hl ho) (ip_lits v' l' hl' ho') b ?_ w
  subst hb
  simp only [decide_eq_true_eq, List.cons.injEq, Lit.bool.injEq]
  exact ⟨fun h => ⟨h.1, by rw [h.2]⟩, fun h => ⟨h.1, lits_inj h.2⟩⟩
theorem ip_neq (v v' : Bool) (l l' : List Int) (hl : l.length = 16) (hl' : l'.length = 16) (ho : Oct l) (ho' : Oct l') (b : Bool) (hb : (!decide (v = v' ∧ l = l')) = b) (w : World) :
    (binOp .neq 24 (.agg (ipc v l).toArray) (.agg (ipc v' l').toArray)).run Tryd.prog w = .ok (.bool b) w := by
  subst hb
  refine run_neq_key 3 3 3 (by kernel_rfl) (by omega) _ _ _ _ (ip_formed v l hl) (ip_formed v' l' hl') (ip_lits v l hl ho) (ip_lits v' l' hl' ho') _ ?_ w
  simp only [decide_eq_true_eq, List.cons.injEq, Lit.bool.injEq]
  exact ⟨fun h => ⟨h.1, by rw [h.2]⟩, fun h => ⟨h.1, lits_inj h.2⟩⟩

set_option maxHeartbeats 400000 in
theorem right_six (w : World) (l : List Int) (hl : l.length = 16) :
    Calls Tryd.prog 17 #[.agg (ipc true l).toArray] w fun e w' => e = .returned (.bool true) ∧ Below w.heap.size w w' := by
  go_enter Tryd.func17, Tryd.ntmps17
  go_wp2
  go_region_with (fail)
  all_goals
    go_wp2
    go_ret
    exact ⟨rfl, below_drewN ((Below.refl _ _).alloc (Nat.le_refl _) _) 1⟩

theorem ipc_get (v : Bool) (xs ys : List Int) (y : Int) (k : Nat) (hk : xs.length = k) : (ipc v (xs ++ y :: ys)).toArray[1 + k]? = some (.int .u8 y) := by
  subst hk
  rw [Nat.add_comm]
  simp [u8s]
theorem ipc_set (v : Bool) (xs ys : List Int) (y z : Int) (k : Nat) (hk : xs.length = k) : (ipc v (xs ++ y :: ys)).toArray.setIfInBounds (1 + k) (.int .u8 z) = (ipc v (xs ++ z :: ys)).toArray := by
  subst hk
  rw [Nat.add_comm]
  simp [u8s, List.set_append]

theorem num4_bd (l : List Int) (hl : l.length = 16) (ho : Oct l) : 0 ≤ numOf (l.take 4) ∧ numOf (l.take 4) < 4294967296 := by
  have hb := numOf_bd (l.take 4) (fun x hx => ho x (List.mem_of_mem_take hx))
  rw [show (l.take 4).length = 4 by simp; omega] at hb
  exact ⟨hb.1, by omega⟩

theorem ip_size (v : Bool) (l : List Int) (hl : l.length = 16) : (Tryd.prog.info? 24).map (·.size) = some (ipc v l).length := by
  have : (Tryd.prog.info? 24).map (·.size) = some 17 := by kernel_rfl
  rw [this]; simp [hl]

set_option maxHeartbeats 1000000 in
theorem right_four (w : World) (l : List Int) (hl : l.length = 16) (ho : Oct l) :
    Calls Tryd.prog 17 #[.agg (ipc false l).toArray] w fun e w' => e = .returned (.bool (rightB false l)) ∧ Below w.heap.size w w' := by
  have HN := Lib.hid (num4_bd l hl ho)
  have he : ∀ W, (binOp .eql 24 (.agg (ipc false l).toArray) (.agg (ipc false (four (numOf (l.take 4)))).toArray)).run Tryd.prog W = .ok (.bool (rightB false l)) W :=
    ip_eql false false l _ hl (four_len _) ho (four_oct _ HN.out.1 HN.out.2) _ (by simp only [true_and, rightB, Bool.false_or]; rw [Bool.eq_iff_iff]; simp only [decide_eq_true_eq]; exact four_num l hl ho)
  have HL := Lib.hid hl
  have HO := Lib.hid ho
  clear hl ho
  generalize rightB false l = r at *
  go_enter Tryd.func17, Tryd.ntmps17
  go_wp2
  refine wp_region_held_drew (S := fun w' => w'.rangeAt w.heap.size 0 (ipc false l)) (by kernel_rfl) (range_drewN (range_new w 24 (ipc false l)) 1) (fun hS => ?_)
  refine wpAnyH_take (i := 0) (oi := ⟨some 3, _, _, _, _, _⟩) (v := ?_) rfl (by kernel_rfl) (by kernel_rfl) (by kernel_rfl) (fun _ _ _ h => h) (Or.inl ⟨by rfl, ?_⟩) hS ?_
  rotate_left
  · intro wq hq
    first | (go_simp; done) | (go_simp; rfl)
  try simp only [Act.put, List.setIfInBounds_toArray, List.set_cons_zero, List.set_cons_succ]
  refine wpAnyH_take (i := 1) (oi := ⟨some 4, _, _, _, _, _⟩) (v := ?_) rfl (by kernel_rfl) (by kernel_rfl) (by kernel_rfl) (fun _ _ _ h => h) (Or.inl ⟨by rfl, ?_⟩) hS ?_
  rotate_left
  · intro wq hq
    have hc := hq 0 _ rfl
    first | (go_simp; done) | (go_simp; rfl)
  try simp only [Act.put, List.setIfInBounds_toArray, List.set_cons_zero, List.set_cons_succ]
  refine wpAnyH_take (i := 2) (oi := ⟨some 5, _, _, _, _, _⟩) (v := ?_) rfl (by kernel_rfl) (by kernel_rfl) (by kernel_rfl) (fun _ _ _ h => h) (Or.inl ⟨by rfl, ?_⟩) hS ?_
  rotate_left
  · intro wq hq
    first | (go_simp; done) | (go_simp; rfl)
  try simp only [Act.put, List.setIfInBounds_toArray, List.set_cons_zero, List.set_cons_succ]
  refine wpAnyH_take (i := 3) (oi := ⟨some 6, _, _, _, _, _⟩) rfl (by kernel_rfl) (by kernel_rfl) (by kernel_rfl) (fun _ _ _ h => h) (yieldsIf_load_mid (by rfl) 24 _ rfl _ _ rfl (ipc false l) _ (fun wq hq => hq) Tryd.underlying24 rfl (ip_size false l HL.out)) hS ?_
  try simp only [Act.put, List.setIfInBounds_toArray, List.set_cons_zero, List.set_cons_succ]
  refine wpAnyH_take (i := 4) (oi := ⟨some 7, _, _, _, _, _⟩) rfl (by kernel_rfl) (by kernel_rfl) (by kernel_rfl) (fun _ _ _ h => h) (yieldsIf_load_mid (by rfl) 24 _ rfl _ _ rfl (ipc false l) _ (fun wq hq => hq) Tryd.underlying24 rfl (ip_size false l HL.out)) hS ?_
  try simp only [Act.put, List.setIfInBounds_toArray, List.set_cons_zero, List.set_cons_succ]
  refine wpAnyH_ready (rs := [5]) (by kernel_rfl) (by simp) ?_
  refine AllReadyH.cons (o := ⟨some 8, _, _, _, _, _⟩) rfl (fun K hK => ?_) AllReadyH.nil
  rw [if_pos (by rfl)]
  go_wp2_with fail
  refine (first4_is _ false l HL.out HO.out).mono ?_
  rintro e w1 ⟨rfl, hB⟩
  have hS1 := range_below hS hB (by simp)
  have HB := Lib.hid hB
  clear hB
  refine hK.out _ _ (hS1) (fun hS => ?_)
  clear hK K
  try simp only [Act.put, List.setIfInBounds_toArray, List.set_cons_zero, List.set_cons_succ]
  refine wpAnyH_ready (rs := [6]) (by kernel_rfl) (by simp) ?_
  refine AllReadyH.cons (o := ⟨some 9, _, _, _, _, _⟩) rfl (fun K hK => ?_) AllReadyH.nil
  rw [if_pos (by rfl)]
  go_wp2_with fail
  refine (four_is _ _ HN.out.1 HN.out.2).mono ?_
  rintro e w2 ⟨rfl, hB2⟩
  have hS2 := range_below hS hB2 (by have := HB.out.size; simp at this; omega)
  have HB2 := Lib.hid hB2
  clear hB2
  refine hK.out _ _ (hS2) (fun hS => ?_)
  clear hK K
  try simp only [Act.put, List.setIfInBounds_toArray, List.set_cons_zero, List.set_cons_succ]
  refine wpAnyH_take (i := 7) (oi := ⟨some 10, _, _, _, _, _⟩) (v := ?_) rfl (by kernel_rfl) (by kernel_rfl) (by kernel_rfl) (fun _ _ _ h => h) (Or.inl ⟨by rfl, ?_⟩) hS ?_
  rotate_left
  · intro wq hq
    first | (go_simp; done) | (go_simp; rfl)
  try simp only [Act.put, List.setIfInBounds_toArray, List.set_cons_zero, List.set_cons_succ]
  refine wpAnyH_take (i := 8) (oi := ⟨some 11, _, _, _, _, _⟩) (v := ?_) rfl (by kernel_rfl) (by kernel_rfl) (by kernel_rfl) (fun _ _ _ h => h) (Or.inl ⟨by rfl, ?_⟩) hS ?_
  rotate_left
  · intro wq hq
    first | (go_simp; done) | (go_simp; rfl)
  try simp only [Act.put, List.setIfInBounds_toArray, List.set_cons_zero, List.set_cons_succ]
  refine wpAnyH_take (i := 9) (oi := ⟨some 2, _, _, _, _, _⟩) (v := ?_) rfl (by kernel_rfl) (by kernel_rfl) (by kernel_rfl) (fun _ _ _ h => h) (Or.inl ⟨by rfl, ?_⟩) hS ?_
  rotate_left
  · intro wq hq
    first | (go_simp; done) | (go_simp; rfl)
  try simp only [Act.put, List.setIfInBounds_toArray, List.set_cons_zero, List.set_cons_succ]
  refine wpAnyH_done (by kernel_rfl) ?_ _
  go_wp2
  go_ret
  refine ⟨rfl, ?_⟩
  have h1 : Below w.heap.size w w1 := (below_drewN ((Below.refl w.heap.size w).alloc (Nat.le_refl _) _) 1).trans (HB.out.mono (by simp))
  exact h1.trans (HB2.out.mono h1.size)

theorem right_is (w : World) (v : Bool) (l : List Int) (hl : l.length = 16) (ho : Oct l) :
    Calls Tryd.prog 17 #[.agg (ipc v l).toArray] w fun e w' => e = .returned (.bool (rightB v l)) ∧ Below w.heap.size w w' := by
  cases v with
  | true => exact right_six w l hl
  | false => exact right_four w l hl ho
end Go.Proofs.YtkaimdcepnhkdaaDoor
namespace Go.Proofs.YtkaimdcepnhkdaaDoor
open Go.RowKit
set_option linter.unusedSimpArgs false
set_option linter.unusedVariables false

def bitsOf (v : Bool) : Int := if v then 128 else 32
theorem bits_is (w : World) (v : Bool) (l : List Int) :
    Calls Tryd.prog 21 #[.agg (ipc v l).toArray] w fun e w' => e = .returned (.int .i64 (bitsOf v)) ∧ Below w.heap.size w w' := by
  cases v
  · go_enter Tryd.func21, Tryd.ntmps21
    go_wp2
    go_ret
    exact ⟨rfl, (Below.refl _ _).alloc (Nat.le_refl _) _⟩
  · go_enter Tryd.func21, Tryd.ntmps21
    go_wp2
    go_ret
    exact ⟨rfl, (Below.refl _ _).alloc (Nat.le_refl _) _⟩

/-- A byte's first k bits. -/
def keepB (b : Int) (k : Nat) : Int := b / 2 ^ (8 - k) * 2 ^ (8 - k)
/-- How many bits of byte i stay. -/
def stay (n : Int) (i : Nat) : Nat := (min (max (n - 8 * i) 0) 8).toNat
def firstBits (l : List Int) (n : Int) : List Int := l.mapIdx fun i b => keepB b (stay n i)
theorem keepB_all : ∀ b : Fin 256, ∀ k : Fin 9, bits .andNot .u8 (b.val : Int) (255 / 2 ^ k.val) = keepB (b.val : Int) k.val := by decide +kernel
theorem keepB_is (b : Int) (k : Nat) (h0 : 0 ≤ b) (h1 : b < 256) (hk : k ≤ 8) : bits .andNot .u8 b (255 / 2 ^ k) = keepB b k := by
  have := keepB_all ⟨b.toNat, by omega⟩ ⟨k, by omega⟩
  simpa [Int.toNat_of_nonneg h0] using this

theorem fb_len (l : List Int) (n : Int) : (firstBits l n).length = l.length := by simp [firstBits]
theorem fb_get (l : List Int) (n : Int) (k : Nat) (hk : k < l.length) : (firstBits l n)[k]'(by rw [fb_len]; exact hk) = keepB (l.getD k 0) (stay n k) := by simp [firstBits, List.getD, hk]
theorem fb_split (l : List Int) (n : Int) (k : Nat) (hk : k < l.length) : (firstBits l n).take k ++ l.drop k = (firstBits l n).take k ++ l.getD k 0 :: l.drop (k + 1) := by
  rw [List.drop_eq_getElem_cons hk]
  simp [List.getD, hk]
theorem fb_split2 (l : List Int) (n : Int) (k : Nat) (hk : k < l.length) : (firstBits l n).take (k + 1) ++ l.drop (k + 1) = (firstBits l n).take k ++ keepB (l.getD k 0) (stay n k) :: l.drop (k + 1) := by
  rw [List.take_succ_eq_append_getElem (by rw [fb_len]; exact hk), fb_get l n k hk]
  simp
set_option maxHeartbeats 1000000 in
set_option maxRecDepth 100000 in
theorem fbits_is (w : World) (v : Bool) (l : List Int) (n : Int) (hl : l.length = 16) (ho : Oct l) (hn : 0 ≤ n) (hn2 : n ≤ 128) :
    Calls Tryd.prog 79 #[.agg (ipc v l).toArray, .int .i64 n] w fun e w' => e = .returned (.agg (ipc v (firstBits l n)).toArray) ∧ Below w.heap.size w w' := by
  go_enter Tryd.func79, Tryd.ntmps79
  go_wp2
  go_loopw [5, 6, 7] (fun _ _ i wr => ∃ k : Nat, k ≤ 16 ∧ i = .int .i64 k ∧ Blk wr w.heap.size 24 (ipc v ((firstBits l n).take k ++ l.drop k)).toArray ∧ (∃ z, Blk wr (w.heap.size + 1) 24 z ∧ z.size = 17) ∧ Below w.heap.size w wr) (fun _ _ i _ => 16 - (intOf i).toNat)
  case atStart =>
    exact ⟨0, by omega, rfl, by simpa using (Blk.new w 24 (ipc v l).toArray).alloc _, ⟨_, by simpa using Blk.new (w.alloc (.cells (ipc v l).toArray 24)) 24 _, rfl⟩, ((Below.refl _ _).alloc (Nat.le_refl _) _).alloc (by simp) _⟩
  case round =>
    obtain ⟨k, hk, rfl, hb, ⟨z, hz, hzs⟩, hB⟩ := hrel
    by_cases hlt : k < 16
    · have hkl : ((firstBits l n).take k).length = k := by simp [fb_len]; omega
      rw [fb_split l n k (by omega)] at hb
      have hc := hb.cell (1 + k)
      rw [ipc_get v _ _ _ k hkl] at hc
      have hf := hb.frozen (1 + k)
      have hset := hb.set_ (1 + k) (.int .u8 (keepB (l.getD k 0) (stay n k)))
      rw [ipc_set v _ _ _ _ k hkl, ← fb_split2 l n k (by omega)] at hset
      have Hb := Lib.hid hset
      have Hz := Lib.hid (show Blk (wr.setCell ⟨w.heap.size, 1 + k, none⟩ (.int .u8 (keepB (l.getD k 0) (stay n k)))) (w.heap.size + 1) 24 z from hz.far (by simp) _)
      have HB := Lib.hid (hB.setCell (p := ⟨w.heap.size, 1 + k, none⟩) (Nat.le_refl _) (.int .u8 (keepB (l.getD k 0) (stay n k))))
      have HZ := Lib.hid hzs
      have hx := ho.getD k
      have HK := Lib.hid (fun s hs => keepB_is (l.getD k 0) s hx.1 hx.2 hs)
      generalize hX : l.getD k 0 = x at *
      clear hset hb hB hz hzs hX hkl
      have e3 : (n - 8 * k < 0 ∧ stay n k = 0) ∨ (0 ≤ n - 8 * k ∧ n - 8 * k ≤ 8 ∧ stay n k = (n - 8 * k).toNat) ∨ (8 < n - 8 * k ∧ stay n k = 8) := by unfold stay; omega
      generalize stay n k = s at *
      have hv : (n - 8 * k < 0 ∧ bits .andNot .u8 x 255 = keepB x s) ∨ (0 ≤ n - 8 * k ∧ n - 8 * k ≤ 8 ∧ bits .andNot .u8 x (255 / 2 ^ (n - 8 * k).toNat) = keepB x s) ∨ (8 < n - 8 * k ∧ bits .andNot .u8 x 0 = keepB x s) := by
        rcases e3 with ⟨h1, rfl⟩ | ⟨h1, h2, rfl⟩ | ⟨h1, rfl⟩
        · exact .inl ⟨h1, HK.out 0 (by omega)⟩
        · exact .inr (.inl ⟨h1, h2, HK.out _ (by omega)⟩)
        · exact .inr (.inr ⟨h1, HK.out 8 (by omega)⟩)
      clear e3 HK hx
      generalize keepB x s = y at *
      rcases hv with ⟨h1, hv⟩ | ⟨h1, h2, hv⟩ | ⟨h1, hv⟩
      all_goals
        go_wp2
        go_region
        go_wp2
        exact ⟨⟨k + 1, by omega, by go_num, Hb.out, ⟨z, Hz.out, HZ.out⟩, below_drewN HB.out 1⟩, by simp [intOf]; omega⟩
    · obtain rfl : k = 16 := by omega
      rw [show (firstBits l n).take 16 ++ l.drop 16 = firstBits l n by rw [List.take_of_length_le (by rw [fb_len]; omega), List.drop_of_length_le (by omega), List.append_nil]] at hb
      have Hr := Lib.hid (show wr.rangeAt w.heap.size 0 (ipc v (firstBits l n)) from fun j u hu => by rw [hb.cell]; simpa using hu)
      have Hs := Lib.hid (ip_size v (firstBits l n) (by rw [fb_len]; exact hl))
      have Hz := Lib.hid hz
      have HZ := Lib.hid hzs
      have HB := Lib.hid hB
      clear hb hz hzs hB
      go_wp2_with (first
        | (refine wpList_load_mid rfl 24 _ rfl w.heap.size 0 rfl (ipc v (firstBits l n)) _ Hr.out Tryd.underlying24 rfl Hs.out ?_)
        | (refine wpList_store_row rfl 24 _ _ rfl (w.heap.size + 1) (ipc v (firstBits l n)).toArray rfl rfl 24 z Hz.out (by simpa using Hs.out) (by rw [HZ.out]; simp [fb_len, hl]) (by simp [Value.oneCell']) ?_))
      refine bodyPost_ret (v := .agg (ipc v (firstBits l n)).toArray) ?_ rfl ⟨rfl, HB.out.trans (below_setRow _ _ _ (by omega))⟩
      exact results_cell_row rfl _ _ (w.heap.size + 1) 24 _ (0, 0) _ rfl (Blk.setRow Hz.out _) Tryd.underlying24 rfl (by simpa using Hs.out)
theorem fb_oct (l : List Int) (n : Int) (ho : Oct l) : Oct (firstBits l n) := by
  intro x hx
  obtain ⟨i, hi, rfl⟩ := List.getElem_of_mem hx
  rw [fb_get l n i (by rwa [fb_len] at hi)]
  have hb := ho.getD i
  generalize l.getD i 0 = b at *
  have hs : stay n i ≤ 8 := by unfold stay; omega
  generalize stay n i = k at *
  unfold keepB
  have hp : (0 : Int) < 2 ^ (8 - k) := Int.pow_pos (by decide)
  have h1 := Int.mul_ediv_add_emod b (2 ^ (8 - k))
  have h2 := Int.emod_nonneg b (Int.ne_of_gt hp)
  have h3 : 0 ≤ b / 2 ^ (8 - k) := Int.ediv_nonneg hb.1 (Int.le_of_lt hp)
  rw [Int.mul_comm] at h1
  exact ⟨Int.mul_nonneg h3 (Int.le_of_lt hp), by omega⟩

/-- A prefix's cells. -/
abbrev pfc (v : Bool) (l : List Int) (n : Int) : List Value := Value.bool v :: (u8s l ++ [Value.int .i64 n])
def cutB (v : Bool) (l : List Int) (n : Int) : Bool := rightB v l && (decide (0 ≤ n) && decide (n ≤ bitsOf v))
def noPf : List Value := pfc false (List.replicate 16 0) 0
theorem u8s_one (l : List Int) : ∀ x ∈ u8s l, x.oneCell' = true := by
  intro x hx
  obtain ⟨y, _, rfl⟩ := List.mem_map.1 hx
  rfl
theorem pfc_one (v : Bool) (l : List Int) (n : Int) : (pfc v l n).toArray.all (·.oneCell') = true := all_oneCell_toArray (by
  intro x hx
  simp only [pfc, List.mem_cons, List.mem_append, List.mem_nil_iff, or_false] at hx
  rcases hx with rfl | hx | rfl
  · rfl
  · exact u8s_one l x hx
  · rfl)
theorem pfc_size (v : Bool) (l : List Int) (n : Int) (hl : l.length = 16) : (Tryd.prog.info? 40).map (·.size) = some (pfc v l n).toArray.size := by
  have : (Tryd.prog.info? 40).map (·.size) = some 18 := by kernel_rfl
  rw [this]; simp [hl]
theorem pf_store {ops : Array Oper} {rest : List Oper} {o : Oper} {a : Act} {w : World} {Q : Exit → Act → World → Prop} (hgd : o.guard = none) (x y : Operand) (ho : o.op = .store 40 x y) (g : Nat) (v : Bool) (l : List Int) (n : Int) (hl : l.length = 16)
    (hx : a.eval x = .pointer (some ⟨g, 0, none⟩)) (hy : a.eval y = .agg (pfc v l n).toArray) (t : TypeId) (old : Array Value) (hg : Blk w g t old) (hold : old.size = 18)
    (h : wpList Tryd.prog ops Q rest (a.put o.dst undef) (w.setRow g (pfc v l n).toArray)) : wpList Tryd.prog ops Q (o :: rest) a w :=
  wpList_store_row hgd 40 x y ho g _ hx hy t old hg (pfc_size v l n hl) (by rw [hold]; simp [hl]) (pfc_one v l n) h
theorem ip_fetch {ops : Array Oper} {rest : List Oper} {op : Oper} {a : Act} {w : World} {Q : Exit → Act → World → Prop} (hw : Region.wanted op (yielded ops a.tmps) = true) (x : Operand) (ho : op.op = .load 24 x) (b o : Nat) (v : Bool) (l : List Int) (hl : l.length = 16)
    (hx : a.eval x = .pointer (some ⟨b, o, none⟩)) (hc : w.rangeAt b o (ipc v l)) (h : wpList Tryd.prog ops Q rest (a.put op.dst (.agg (ipc v l).toArray)) w) : wpList Tryd.prog ops Q (op :: rest) a w :=
  BigFrame.wpList_want hw fun _ hK => wp_load_mid 24 x ho b o hx (ipc v l) _ hc Tryd.underlying24 rfl (ip_size v l hl) (hK _ _ h)
theorem built_pf16 (v : Bool) (b0 b1 b2 b3 b4 b5 b6 b7 b8 b9 b10 b11 b12 b13 b14 b15 n : Int) : Tryd.prog.built 40 [(0, .agg (ipc v [b0, b1, b2, b3, b4, b5, b6, b7, b8, b9, b10, b11, b12, b13, b14, b15]).toArray), (1, .int .i64 n)] = some (pfc v [b0, b1, b2, b3, b4, b5, b6, b7, b8, b9, b10, b11, b12, b13, b14, b15] n).toArray := by kernel_rfl
theorem built_pf (v : Bool) (l : List Int) (n : Int) (hl : l.length = 16) : Tryd.prog.built 40 [(0, .agg (ipc v l).toArray), (1, .int .i64 n)] = some (pfc v l n).toArray := by
  match l, hl with
  | [b0, b1, b2, b3, b4, b5, b6, b7, b8, b9, b10, b11, b12, b13, b14, b15], _ => exact built_pf16 v b0 b1 b2 b3 b4 b5 b6 b7 b8 b9 b10 b11 b12 b13 b14 b15 n
theorem pf_build {ops : Array Oper} {rest : List Oper} {o : Oper} {a : Act} {w : World} {Q : Exit → Act → World → Prop} (hg : o.guard = none) (x y : Operand) (ho : o.op = .build 40 #[(0, x), (1, y)]) (v : Bool) (l : List Int) (n : Int) (hl : l.length = 16)
    (hx : a.eval x = .agg (ipc v l).toArray) (hy : a.eval y = .int .i64 n) (h : wpList Tryd.prog ops Q rest (a.put o.dst (.agg (pfc v l n).toArray)) w) : wpList Tryd.prog ops Q (o :: rest) a w := by
  have hb := built_pf v l n hl
  have he : (#[(0, x), (1, y)].map fun (i, x) => (i, a.eval x)).toList = [(0, .agg (ipc v l).toArray), (1, .int .i64 n)] := by simp [hx, hy]
  refine wpList_build hg 40 _ ho (by rw [he, hb]; rfl) ?_
  rw [he, hb]
  exact h
def Cut (w : World) (v : Bool) (l : List Int) (n : Int) (e : Ending) (w' : World) : Prop :=
  Below w.heap.size w w' ∧ e = .returned (if cutB v l n then .tuple #[.agg (pfc v (firstBits l n) n).toArray, .int .i64 0] else .tuple #[.agg noPf.toArray, .int .i64 2])
set_option maxHeartbeats 1000000 in
set_option maxRecDepth 100000 in
theorem cut_no (w : World) (v : Bool) (l : List Int) (n : Int) (hl : l.length = 16) (ho : Oct l) (h : rightB v l = false) :
    Calls Tryd.prog 26 #[.agg (ipc v l).toArray, .int .i64 n] w (Cut w v l n) := by
  have hr := range_alloc (range_new w 24 (ipc v l)) (.cells noPf.toArray 40) (by simp)
  have Hr := Lib.hid hr
  have Hs := Lib.hid (ip_size v l hl)
  have HC := Lib.hid (show cutB v l n = false by unfold cutB; rw [h]; rfl)
  have HR := Lib.hid (right_is ((w.alloc (.cells (ipc v l).toArray 24)).alloc (.cells noPf.toArray 40)) v l hl ho)
  rw [h] at HR
  clear hr h
  go_enter Tryd.func26, Tryd.ntmps26
  go_wp2_with (refine ip_fetch rfl _ rfl w.heap.size 0 v l hl rfl Hr.out ?_)
  refine HR.out.mono ?_
  rintro e w1 ⟨rfl, hB⟩
  have HB := Lib.hid hB
  have Hz := Lib.hid ((Blk.new (w.alloc (.cells (ipc v l).toArray 24)) 40 noPf.toArray).below hB (by simp))
  rw [show (w.alloc (.cells (ipc v l).toArray 24)).heap.size = w.heap.size + 1 by simp] at Hz
  clear hB
  go_wp2_with (refine pf_store rfl _ _ rfl (w.heap.size + 1) false (List.replicate 16 0) 0 rfl rfl rfl 40 noPf.toArray Hz.out rfl ?_)
  refine bodyPost_ret (v := .tuple #[.agg noPf.toArray, .int .i64 2]) ?_ rfl ⟨?_, by rw [HC.out]; rfl⟩
  · exact results_cell_slot rfl _ _ (w.heap.size + 1) 40 _ _ _ rfl rfl (Blk.setRow Hz.out _) Tryd.underlying40 rfl (by kernel_rfl)
  · exact ((((Below.refl w.heap.size w).alloc (Nat.le_refl _) _).alloc (by simp) _).trans (HB.out.mono (by simp; omega))).trans (below_setRow _ _ _ (by omega))

set_option maxHeartbeats 1000000 in
set_option maxRecDepth 100000 in
theorem cut_low (w : World) (v : Bool) (l : List Int) (n : Int) (hl : l.length = 16) (ho : Oct l) (h : rightB v l = true) (hn : n < 0) :
    Calls Tryd.prog 26 #[.agg (ipc v l).toArray, .int .i64 n] w (Cut w v l n) := by
  have hr := range_alloc (range_new w 24 (ipc v l)) (.cells noPf.toArray 40) (by simp)
  have Hr := Lib.hid hr
  have HC := Lib.hid (show cutB v l n = false by unfold cutB; rw [decide_eq_false (show ¬ 0 ≤ n by omega), Bool.false_and, Bool.and_false])
  have HR := Lib.hid (right_is ((w.alloc (.cells (ipc v l).toArray 24)).alloc (.cells noPf.toArray 40)) v l hl ho)
  rw [h] at HR
  have hd : decide (n < 0) = true := by simpa using hn
  clear hr h
  go_enter Tryd.func26, Tryd.ntmps26
  go_wp2_with (refine ip_fetch rfl _ rfl w.heap.size 0 v l hl rfl Hr.out ?_)
  refine HR.out.mono ?_
  rintro e w1 ⟨rfl, hB⟩
  have HB := Lib.hid hB
  have Hz := Lib.hid ((Blk.new (w.alloc (.cells (ipc v l).toArray 24)) 40 noPf.toArray).below hB (by simp))
  rw [show (w.alloc (.cells (ipc v l).toArray 24)).heap.size = w.heap.size + 1 by simp] at Hz
  clear hB
  go_wp2_with (refine pf_store rfl _ _ rfl (w.heap.size + 1) false (List.replicate 16 0) 0 rfl rfl rfl 40 noPf.toArray Hz.out rfl ?_)
  refine bodyPost_ret (v := .tuple #[.agg noPf.toArray, .int .i64 2]) ?_ rfl ⟨?_, by rw [HC.out]; rfl⟩
  · exact results_cell_slot rfl _ _ (w.heap.size + 1) 40 _ _ _ rfl rfl (Blk.setRow Hz.out _) Tryd.underlying40 rfl (by kernel_rfl)
  · exact ((((Below.refl w.heap.size w).alloc (Nat.le_refl _) _).alloc (by simp) _).trans (HB.out.mono (by simp; omega))).trans (below_setRow _ _ _ (by omega))

set_option maxHeartbeats 1000000 in
set_option maxRecDepth 100000 in
theorem cut_in (w : World) (v : Bool) (l : List Int) (n : Int) (hl : l.length = 16) (ho : Oct l) (h : rightB v l = true) (hn : 0 ≤ n) :
    Calls Tryd.prog 26 #[.agg (ipc v l).toArray, .int .i64 n] w (Cut w v l n) := by
  have hr := range_alloc (range_new w 24 (ipc v l)) (.cells noPf.toArray 40) (by simp)
  have Hr := Lib.hid hr
  have HC := Lib.hid (show cutB v l n = decide (n ≤ bitsOf v) by unfold cutB; rw [h, decide_eq_true hn, Bool.true_and, Bool.true_and])
  have HR := Lib.hid (right_is ((w.alloc (.cells (ipc v l).toArray 24)).alloc (.cells noPf.toArray 40)) v l hl ho)
  rw [h] at HR
  have hd : decide (n < 0) = false := by simpa using hn
  have hb8 : bitsOf v ≤ 128 := by unfold bitsOf; split <;> omega
  clear hr h
  go_enter Tryd.func26, Tryd.ntmps26
  go_wp2_with (refine ip_fetch rfl _ rfl w.heap.size 0 v l hl rfl Hr.out ?_)
  refine HR.out.mono ?_
  rintro e w1 ⟨rfl, hB⟩
  have HB := Lib.hid hB
  have Hz := Lib.hid ((Blk.new (w.alloc (.cells (ipc v l).toArray 24)) 40 noPf.toArray).below hB (by simp))
  rw [show (w.alloc (.cells (ipc v l).toArray 24)).heap.size = w.heap.size + 1 by simp] at Hz
  have Hr1 := Lib.hid (range_below Hr.out hB (by simp; omega))
  clear hB
  go_wp2_with (refine ip_fetch rfl _ rfl w.heap.size 0 v l hl rfl Hr1.out ?_)
  refine (bits_is w1 v l).mono ?_
  rintro e w2 ⟨rfl, hB2⟩
  have HB2 := Lib.hid hB2
  have hs1 : w.heap.size + 1 < w1.heap.size := by have := HB.out.size; simp at this; omega
  have Hz2 := Lib.hid (Hz.out.below hB2 hs1)
  have Hr2 := Lib.hid (range_below Hr1.out hB2 (by omega))
  have HB02 : Hid (Below w.heap.size w w2) := Lib.hid ((((((Below.refl w.heap.size w).alloc (Nat.le_refl _) _).alloc (by simp) _).trans (HB.out.mono (by simp; omega)))).trans (HB2.out.mono (by omega)))
  have hs2 : w.heap.size + 1 < w2.heap.size := by have := HB2.out.size; omega
  clear hB2 Hr1 Hz HB HB2 Hr
  by_cases hle : n ≤ bitsOf v
  · have HL := Lib.hid hle
    have hd2 : decide (n > bitsOf v) = false := by simpa using hle
    have hd3 : decide (bitsOf v < n) = false := by simpa using hle
    go_wp2_with (refine ip_fetch rfl _ rfl w.heap.size 0 v l hl rfl Hr2.out ?_)
    refine (fbits_is w2 v l n hl ho hn (by omega)).mono ?_
    rintro e w3 ⟨rfl, hB3⟩
    have HB3 := Lib.hid hB3
    have Hz3 := Lib.hid (Hz2.out.below hB3 hs2)
    clear hB3
    go_wp2_with (first
      | (refine pf_build rfl _ _ rfl v (firstBits l n) n (by rw [fb_len]; exact hl) rfl rfl ?_)
      | (refine pf_store rfl _ _ rfl (w.heap.size + 1) v (firstBits l n) n (by rw [fb_len]; exact hl) rfl rfl 40 noPf.toArray Hz3.out rfl ?_))
    refine bodyPost_ret (v := .tuple #[.agg (pfc v (firstBits l n) n).toArray, .int .i64 0]) ?_ rfl ⟨?_, by rw [HC.out, decide_eq_true HL.out]; rfl⟩
    · exact results_cell_slot rfl _ _ (w.heap.size + 1) 40 _ _ _ rfl rfl (Blk.setRow Hz3.out _) Tryd.underlying40 rfl (pfc_size v _ n (by rw [fb_len]; exact hl))
    · exact (HB02.out.trans (HB3.out.mono (by omega))).trans (below_setRow _ _ _ (by omega))
  · have HL := Lib.hid hle
    have hd2 : decide (n > bitsOf v) = true := by simpa using hle
    have hd3 : decide (bitsOf v < n) = true := by simpa using hle
    go_wp2_with (refine pf_store rfl _ _ rfl (w.heap.size + 1) false (List.replicate 16 0) 0 rfl rfl rfl 40 noPf.toArray Hz2.out rfl ?_)
    refine bodyPost_ret (v := .tuple #[.agg noPf.toArray, .int .i64 2]) ?_ rfl ⟨?_, by rw [HC.out, decide_eq_false (Int.not_le.2 HL.out)]; rfl⟩
    · exact results_cell_slot rfl _ _ (w.heap.size + 1) 40 _ _ _ rfl rfl (Blk.setRow Hz2.out _) Tryd.underlying40 rfl (by kernel_rfl)
    · exact HB02.out.trans (below_setRow _ _ _ (by omega))

theorem cut_is (w : World) (v : Bool) (l : List Int) (n : Int) (hl : l.length = 16) (ho : Oct l) :
    Calls Tryd.prog 26 #[.agg (ipc v l).toArray, .int .i64 n] w (Cut w v l n) := by
  cases h : rightB v l
  · exact cut_no w v l n hl ho h
  · rcases Int.lt_or_le n 0 with hn | hn
    · exact cut_low w v l n hl ho h hn
    · exact cut_in w v l n hl ho h hn
end Go.Proofs.YtkaimdcepnhkdaaDoor
namespace Go.Proofs.YtkaimdcepnhkdaaDoor
open Go.RowKit
set_option linter.unusedSimpArgs false
set_option linter.unusedVariables false

abbrev I64 (n : Int) : Prop := -9223372036854775808 ≤ n ∧ n < 9223372036854775808
theorem i64_wf {n : Int} (h : I64 n) : (Lit.int .i64 n).wf = true := by
  simp [Lit.wf, IntKind.min, IntKind.max, IntKind.signed, IntKind.bits]; omega
theorem pf_lits (v : Bool) (l : List Int) (n : Int) (hl : l.length = 16) (ho : Oct l) (hn : I64 n) : Tryd.prog.keyLits 4 40 (pfc v l n) = some (.bool v :: (l.map (Lit.int .u8) ++ [.int .i64 n])) := by
  have h := ip_lits v l hl ho
  have hc1 : Tryd.prog.cellsOf 40 = 18 := by kernel_rfl
  have hc2 : Tryd.prog.cellsOf 24 = 17 := by kernel_rfl
  have hc3 : Tryd.prog.cellsOf 3 = 1 := by kernel_rfl
  unfold Program.keyLits
  rw [Tryd.underlying40]
  have hb : Tryd.prog.keyLits 3 3 [Value.int .i64 n] = some [Lit.int .i64 n] := by
    unfold Program.keyLits
    rw [Tryd.underlying3]
    simp [i64_wf hn]
  have ht : (pfc v l n).take 17 = ipc v l := by show (ipc v l ++ [Value.int .i64 n]).take 17 = _; rw [List.take_append_of_le_length (by simp [hl])]; exact List.take_of_length_le (by simp [hl])
  have hd : ((pfc v l n).drop 17).take 1 = [Value.int .i64 n] := by
    show ((ipc v l ++ [Value.int .i64 n]).drop 17).take 1 = _
    rw [show 17 = (ipc v l).length by simp [hl], List.drop_left]; rfl
  have hlen : (pfc v l n).length = 18 := by simp [hl]
  simp only [hc1, hlen, hc2, hc3, List.mapM_cons, List.mapM_nil, List.drop_zero, ht, hd, h, hb]
  simp [ht, hd, h, hb, hc2, hc3]
theorem pf_formed (v : Bool) (l : List Int) (n : Int) (hl : l.length = 16) : (Value.agg (pfc v l n).toArray).formed Tryd.prog 40 = true := by
  have hc1 : Tryd.prog.cellsOf 40 = 18 := by kernel_rfl
  simp [Value.formed, Tryd.underlying40, hc1, hl]
theorem pf_inj {v v' : Bool} {l l' : List Int} {n n' : Int} (hl : l.length = 16) (hl' : l'.length = 16) :
    (Lit.bool v :: (l.map (Lit.int .u8) ++ [Lit.int .i64 n]) = Lit.bool v' :: (l'.map (Lit.int .u8) ++ [Lit.int .i64 n'])) ↔ (v = v' ∧ l = l' ∧ n = n') := by
  constructor
  · intro h
    simp only [List.cons.injEq, Lit.bool.injEq] at h
    obtain ⟨h1, h2⟩ := List.append_inj h.2 (by simp [hl, hl'])
    simp at h2
    exact ⟨h.1, lits_inj h1, h2⟩
  · rintro ⟨rfl, rfl, rfl⟩; rfl
theorem pf_eql (v v' : Bool) (l l' : List Int) (n n' : Int) (hl : l.length = 16) (hl' : l'.length = 16) (ho : Oct l) (ho' : Oct l') (hn : I64 n) (hn' : I64 n') (b : Bool) (hb : decide (v = v' ∧ l = l' ∧ n = n') = b) (w : World) :
    (binOp .eql 40 (.agg (pfc v l n).toArray) (.agg (pfc v' l' n').toArray)).run Tryd.prog w = .ok (.bool b) w := by
  refine run_eql_key 4 4 4 (by kernel_rfl) (by omega) _ _ _ _ (pf_formed v l n hl) (pf_formed v' l' n' hl') (pf_lits v l n hl ho hn) (pf_lits v' l' n' hl' ho' hn') b ?_ w
  subst hb
  rw [decide_eq_true_eq, pf_inj hl hl']
theorem pf_neq (v v' : Bool) (l l' : List Int) (n n' : Int) (hl : l.length = 16) (hl' : l'.length = 16) (ho : Oct l) (ho' : Oct l') (hn : I64 n) (hn' : I64 n') (b : Bool) (hb : (!decide (v = v' ∧ l = l' ∧ n = n')) = b) (w : World) :
    (binOp .neq 40 (.agg (pfc v l n).toArray) (.agg (pfc v' l' n').toArray)).run Tryd.prog w = .ok (.bool b) w := by
  subst hb
  refine run_neq_key 4 4 4 (by kernel_rfl) (by omega) _ _ _ _ (pf_formed v l n hl) (pf_formed v' l' n' hl') (pf_lits v l n hl ho hn) (pf_lits v' l' n' hl' ho' hn') _ ?_ w
  rw [decide_eq_true_eq, pf_inj hl hl']
theorem pf_fetch {ops : Array Oper} {rest : List Oper} {op : Oper} {a : Act} {w : World} {Q : Exit → Act → World → Prop} (hw : Region.wanted op (yielded ops a.tmps) = true) (x : Operand) (ho : op.op = .load 40 x) (b : Nat) (v : Bool) (l : List Int) (n : Int) (hl : l.length = 16)
    (hx : a.eval x = .pointer (some ⟨b, 0, none⟩)) (hc : w.rangeAt b 0 (pfc v l n)) (h : wpList Tryd.prog ops Q rest (a.put op.dst (.agg (pfc v l n).toArray)) w) : wpList Tryd.prog ops Q (op :: rest) a w :=
  BigFrame.wpList_want hw fun _ hK => wp_load_mid 40 x ho b 0 hx (pfc v l n) _ hc Tryd.underlying40 rfl (by simpa using pfc_size v l n hl) (hK _ _ h)

def hasB (v : Bool) (l : List Int) (n : Int) (v' : Bool) (l' : List Int) : Bool := cutB v' l' n && decide (v' = v ∧ firstBits l' n = l)

set_option maxHeartbeats 1000000 in
set_option maxRecDepth 100000 in
theorem has_is (w : World) (v : Bool) (l : List Int) (n : Int) (v' : Bool) (l' : List Int) (hl : l.length = 16) (ho : Oct l) (hl' : l'.length = 16) (ho' : Oct l') (hn : I64 n) :
    Calls Tryd.prog 34 #[.agg (pfc v l n).toArray, .agg (ipc v' l').toArray] w fun e w' => e = .returned (.bool (hasB v l n v' l')) ∧ Below w.heap.size w w' := by
  have hp := range_alloc (range_new w 40 (pfc v l n)) (.cells (ipc v' l').toArray 24) (by simp)
  have ha := range_new (w.alloc (.cells (pfc v l n).toArray 40)) 24 (ipc v' l')
  rw [show (w.alloc (.cells (pfc v l n).toArray 40)).heap.size = w.heap.size + 1 by simp] at ha
  have hc := (range_post (cs := ipc v l) (ds := [Value.int .i64 n]) hp) 0 _ rfl
  rw [show 0 + (ipc v l).length + 0 = 17 by simp [hl]] at hc
  have Hp := Lib.hid hp
  have Ha := Lib.hid ha
  clear hp ha
  go_enter Tryd.func34, Tryd.ntmps34
  go_wp2_with (refine ip_fetch rfl _ rfl (w.heap.size + 1) 0 v' l' hl' rfl Ha.out ?_)
  refine (cut_is _ v' l' n hl' ho').mono ?_
  rintro e w1 ⟨hB, he⟩
  have Hp1 := Lib.hid (range_below Hp.out hB (by simp; omega))
  have HB : Hid (Below w.heap.size w w1) := Lib.hid ((((Below.refl w.heap.size w).alloc (Nat.le_refl _) _).alloc (by simp) _).trans (hB.mono (by simp; omega)))
  have hs1 : w.heap.size < w1.heap.size := by have := hB.size; simp at this; omega
  clear hB Hp Ha hc
  cases hcut : cutB v' l' n
  · rw [hcut] at he
    subst he
    have HR := Lib.hid (show hasB v l n v' l' = false by unfold hasB; rw [hcut]; rfl)
    clear hcut
    go_wp2_with (first | (refine pf_store rfl _ _ rfl w1.heap.size false (List.replicate 16 0) 0 rfl rfl rfl 40 noPf.toArray (Blk.new w1 40 noPf.toArray) rfl ?_))
    go_ret
    exact ⟨by rw [HR.out]; rfl, (HB.out.alloc (Nat.le_of_lt hs1) _).trans (below_setRow _ _ _ (Nat.le_of_lt hs1))⟩
  · rw [hcut] at he
    subst he
    have hr0 : hasB v l n v' l' = decide (v' = v ∧ firstBits l' n = l) := by unfold hasB; rw [hcut, Bool.true_and]
    have hE : ∀ W, (binOp .eql 40 (.agg (pfc v' (firstBits l' n) n).toArray) (.agg (pfc v l n).toArray)).run Tryd.prog W = .ok (.bool (hasB v l n v' l')) W :=
      pf_eql v' v (firstBits l' n) l n n (by rw [fb_len]; exact hl') hl (fb_oct l' n ho') ho hn hn _ (by rw [hr0]; simp)
    have hfl : (firstBits l' n).length = 16 := by rw [fb_len]; exact hl'
    have HF := Lib.hid hfl
    have Hn1 : Hid (((w1.alloc (.cells noPf.toArray 40)).setRow w1.heap.size (pfc v' (firstBits l' n) n).toArray).rangeAt w1.heap.size 0 (pfc v' (firstBits l' n) n)) := Lib.hid (Blk.range (Blk.setRow (Blk.new w1 40 noPf.toArray) _))
    have Hn2 : Hid (((w1.alloc (.cells noPf.toArray 40)).setRow w1.heap.size (pfc v' (firstBits l' n) n).toArray).rangeAt w.heap.size 0 (pfc v l n)) :=
      Lib.hid (range_below (range_alloc Hp1.out _ hs1) (below_setRow _ w1.heap.size _ (Nat.le_refl _)) hs1)
    clear hcut hr0 hfl Hp1
    generalize hr : hasB v l n v' l' = r at *
    have HRR := Lib.hid hr
    clear hr
    generalize firstBits l' n = f at *
    go_wp2_with (first
      | (refine pf_store rfl _ _ rfl w1.heap.size v' f n HF.out rfl rfl 40 noPf.toArray (Blk.new w1 40 noPf.toArray) rfl ?_)
      | (refine pf_fetch rfl _ rfl w1.heap.size v' f n HF.out rfl Hn1.out ?_)
      | (refine pf_fetch rfl _ rfl w.heap.size v l n hl rfl Hn2.out ?_))
    go_ret
    exact ⟨by rw [HRR.out]; rfl, (HB.out.alloc (Nat.le_of_lt hs1) _).trans (below_setRow _ _ _ (Nat.le_of_lt hs1))⟩

def rightPfB (v : Bool) (l : List Int) (n : Int) : Bool := hasB v l n v l
set_option maxHeartbeats 1000000 in
set_option maxRecDepth 100000 in
theorem rpf_is (w : World) (v : Bool) (l : List Int) (n : Int) (hl : l.length = 16) (ho : Oct l) (hn : I64 n) :
    Calls Tryd.prog 32 #[.agg (pfc v l n).toArray] w fun e w' => e = .returned (.bool (rightPfB v l n)) ∧ Below w.heap.size w w' := by
  have hp := range_new w 40 (pfc v l n)
  have Hp := Lib.hid hp
  have Ha := Lib.hid (range_pre (cs := ipc v l) (ds := [Value.int .i64 n]) hp)
  clear hp
  go_enter Tryd.func32, Tryd.ntmps32
  go_wp2_with (first
    | (refine pf_fetch rfl _ rfl w.heap.size v l n hl rfl Hp.out ?_)
    | (refine ip_fetch rfl _ rfl w.heap.size 0 v l hl rfl Ha.out ?_))
  refine (has_is _ v l n v l hl ho hl ho hn).mono ?_
  rintro e w1 ⟨rfl, hB⟩
  have HB := Lib.hid hB
  clear hB
  go_wp2
  go_ret
  exact ⟨rfl, ((Below.refl w.heap.size w).alloc (Nat.le_refl _) _).trans (HB.out.mono (by simp))⟩
end Go.Proofs.YtkaimdcepnhkdaaDoor
namespace Go.Proofs.YtkaimdcepnhkdaaDoor

def isDig (c : UInt8) : Bool := decide (48 ≤ (c.toNat : Int)) && decide ((c.toNat : Int) ≤ 57)
/-- The number of decimal digits. -/
def decN (l : List UInt8) : Int := l.foldl (fun n c => 10 * n + ((c.toNat : Int) - 48)) 0
theorem decN_snoc (l : List UInt8) (c : UInt8) : decN (l ++ [c]) = 10 * decN l + ((c.toNat : Int) - 48) := by simp [decN]
theorem isDig_iff (c : UInt8) : isDig c = true ↔ 48 ≤ (c.toNat : Int) ∧ (c.toNat : Int) ≤ 57 := by simp [isDig]
def bad0 (l : List UInt8) : Bool := l.isEmpty || (l.head? == some 48 && decide (1 < l.length))
/-- Digits. -/
def digits (l : List UInt8) (most : Int) : Option Int :=
  if bad0 l || !(l.all isDig) || decide (most < decN l) then none else some (decN l)
theorem decN_nn : ∀ (l : List UInt8) (k : Nat), l.all isDig = true → 0 ≤ decN (l.take k)
  | l, 0, _ => by simp [decN]
  | l, k + 1, h => by
    by_cases hk : k < l.length
    · have hc := (isDig_iff l[k]).1 (by simpa using List.all_eq_true.1 h l[k] (List.getElem_mem hk))
      have := decN_nn l k h
      rw [List.take_succ_eq_append_getElem hk, decN_snoc]
      omega
    · rw [List.take_of_length_le (by omega)]
      have := decN_nn l k h
      rwa [List.take_of_length_le (by omega)] at this
theorem decN_mono1 (l : List UInt8) (k : Nat) (h : l.all isDig = true) : decN (l.take k) ≤ decN (l.take (k + 1)) := by
  by_cases hk : k < l.length
  · have hc := (isDig_iff l[k]).1 (by simpa using List.all_eq_true.1 h l[k] (List.getElem_mem hk))
    have := decN_nn l k h
    rw [List.take_succ_eq_append_getElem hk, decN_snoc]
    omega
  · rw [List.take_of_length_le (by omega), List.take_of_length_le (by omega)]
    omega
theorem decN_mono (l : List UInt8) (h : l.all isDig = true) : ∀ (k j : Nat), decN (l.take k) ≤ decN (l.take (k + j))
  | k, 0 => by simp
  | k, j + 1 => Int.le_trans (decN_mono l h k j) (by have := decN_mono1 l (k + j) h; rwa [Nat.add_assoc] at this)
theorem decN_le (l : List UInt8) (k : Nat) (h : l.all isDig = true) : decN (l.take k) ≤ decN l := by
  by_cases hk : k ≤ l.length
  · have := decN_mono l h k (l.length - k)
    rwa [show k + (l.length - k) = l.length by omega, List.take_length] at this
  · rw [List.take_of_length_le (by omega)]; omega
theorem digits_nd (l : List UInt8) (most : Int) (k : Nat) (hk : k < l.length) (h : isDig l[k] = false) : digits l most = none := by
  have : l.all isDig = false := by rw [List.all_eq_false]; exact ⟨l[k], List.getElem_mem hk, by simp [h]⟩
  simp [digits, this]
theorem digits_big (l : List UInt8) (most : Int) (k : Nat) (h : most < decN (l.take k)) : digits l most = none := by
  unfold digits
  cases ha : l.all isDig
  · simp
  · have := decN_le l k ha
    rw [decide_eq_true (show most < decN l by omega)]
    simp
theorem digits_ok (l : List UInt8) (most : Int) (h0 : bad0 l = false) (ha : l.all isDig = true) (hm : decN l ≤ most) : digits l most = some (decN l) := by
  unfold digits
  rw [h0, ha, decide_eq_false (show ¬ most < decN l by omega)]
  simp
theorem digits_bad (l : List UInt8) (most : Int) (h0 : bad0 l = true) : digits l most = none := by simp [digits, h0]
theorem all_take_succ (l : List UInt8) (k : Nat) (hk : k < l.length) (h : (l.take k).all isDig = true) (hc : isDig l[k] = true) : (l.take (k + 1)).all isDig = true := by
  rw [List.take_succ_eq_append_getElem hk, List.all_append, h]; simp [hc]
theorem digits_lt (l : List UInt8) (most n : Int) (h : digits l most = some n) : 0 ≤ n ∧ n ≤ most := by
  unfold digits at h
  split at h
  · cases h
  · rename_i hc
    simp at hc h
    have h0 := decN_nn l l.length (by simpa using hc.1.2)
    rw [List.take_length] at h0
    omega
end Go.Proofs.YtkaimdcepnhkdaaDoor
namespace Go.Proofs.YtkaimdcepnhkdaaDoor
open Go.RowKit
set_option linter.unusedSimpArgs false
set_option linter.unusedVariables false

def digV (o : Option Int) : Value := .tuple #[.int .u64 (o.getD 0), .bool o.isSome]
def Digs (w : World) (o : Option Int) (e : Ending) (w' : World) : Prop := e = .returned (digV o) ∧ w = w'

theorem str_len (s : ByteArray) : s.data.toList.length = s.size := by rw [Array.length_toList]; rfl
theorem take_snoc (s : ByteArray) (k : Nat) (h : k < s.size) : s.data.toList.take (k + 1) = s.data.toList.take k ++ [s[k]] := by
  rw [List.take_succ_eq_append_getElem (by simpa using h)]; rfl
theorem str_get (s : ByteArray) (k : Nat) (h : k < s.size) : s.data.toList[k]'(by simpa using h) = s[k] := rfl
theorem bad0_empty (s : ByteArray) (h : s.size = 0) : bad0 s.data.toList = true := by
  have : s.data.toList = [] := List.eq_nil_of_length_eq_zero (by rw [str_len]; exact h)
  rw [this]; rfl
theorem bad0_eq (s : ByteArray) (h : 0 < s.size) : bad0 s.data.toList = ((s[0].toNat : Int) == 48 && decide (1 < (s.size : Int))) := by
  have hl := str_len s
  have h0 := str_get s 0 h
  unfold bad0
  cases hd : s.data.toList with
  | nil => rw [hd] at hl; simp at hl; omega
  | cons c r =>
    have hc : c = s[0] := by rw [← h0]; simp [hd]
    rw [hd] at hl
    simp only [List.isEmpty_cons, Bool.false_or, List.head?_cons, hl]
    congr 1
    · rw [← hc, Bool.eq_iff_iff]
      simp
      constructor
      · rintro rfl; rfl
      · intro e; exact UInt8.toNat_inj.1 (by show c.toNat = 48; omega)
    · rw [Bool.eq_iff_iff]; simp; omega
theorem toList_isEmpty (s : ByteArray) (h : 0 < s.size) : s.toList.isEmpty = false := by
  rw [ByteArray.toList_eq, List.isEmpty_eq_false_iff]
  intro e
  have := str_len s
  rw [e] at this
  simp at this
  omega
theorem toList_ne (s : ByteArray) (h : 0 < s.size) : ¬ s.toList = [] := by
  have := toList_isEmpty s h
  intro e
  rw [e] at this
  cases this

set_option maxHeartbeats 1000000 in
theorem digits_none (w : World) (s : ByteArray) (most : Int) (h : s.size = 0) :
    Calls Tryd.prog 83 #[.string s, .int .u64 most] w (Digs w (digits s.data.toList most)) := by
  have H := Lib.hid (digits_bad s.data.toList most (bad0_empty s h))
  have he : s.toList = [] := by rw [ByteArray.toList_eq]; exact List.eq_nil_of_length_eq_zero (by rw [str_len]; exact h)
  clear h
  go_enter Tryd.func83, Tryd.ntmps83
  go_wp2
  go_ret2
  exact ⟨by rw [H.out]; rfl, rfl⟩
set_option maxHeartbeats 1000000 in
theorem digits_zero (w : World) (s : ByteArray) (most : Int) (h : 0 < s.size) (h0 : ((s[0].toNat : Int) == 48) = true) (h1 : decide (1 < (s.size : Int)) = true) :
    Calls Tryd.prog 83 #[.string s, .int .u64 most] w (Digs w (digits s.data.toList most)) := by
  have H := Lib.hid (digits_bad s.data.toList most (by rw [bad0_eq s h, h0, h1]; rfl))
  have he := toList_isEmpty s h
  have hn := toList_ne s h
  go_enter Tryd.func83, Tryd.ntmps83
  go_wp2
  go_ret2
  exact ⟨by rw [H.out]; rfl, rfl⟩
set_option maxHeartbeats 1000000 in
theorem digits_go (w : World) (s : ByteArray) (most : Int) (hs : s.size ≤ 9223372036854775807) (h0 : 0 ≤ most) (h1 : most < 18446744073709551616) (h : 0 < s.size) (hb : bad0 s.data.toList = false) :
    Calls Tryd.prog 83 #[.string s, .int .u64 most] w (Digs w (digits s.data.toList most)) := by
  have HB := Lib.hid hb
  have hc : ((s[0].toNat : Int) == 48) = false ∨ (((s[0].toNat : Int) == 48) = true ∧ decide (1 < (s.size : Int)) = false) := by
    rw [bad0_eq s h] at hb
    cases e : ((s[0].toNat : Int) == 48)
    · exact .inl rfl
    · rw [e, Bool.true_and] at hb; exact .inr ⟨rfl, hb⟩
  have he := toList_isEmpty s h
  have hn := toList_ne s h
  have HL := Lib.hid (str_len s)
  clear hb
  rcases hc with hc | ⟨hc, hc2⟩
  all_goals
    go_enter Tryd.func83, Tryd.ntmps83
    go_wp2
    go_loop [6, 7, 8, 23] (fun n _ _ i => ∃ k : Nat, k ≤ s.size ∧ i = .int .i64 k ∧ n = .int .u64 (decN (s.data.toList.take k)) ∧ (s.data.toList.take k).all isDig = true ∧ decN (s.data.toList.take k) ≤ most) (fun _ _ _ i => s.size - (intOf i).toNat)
    case atStart => exact ⟨0, Nat.zero_le _, rfl, rfl, rfl, by simpa [decN] using h0⟩
    case round =>
      obtain ⟨k, hk, rfl, rfl, hall, hle⟩ := hrel
      try clear hc2
      clear hc he hn
      have hnn := decN_nn (s.data.toList.take k) k hall
      rw [List.take_take, Nat.min_self] at hnn
      have HA := Lib.hid hall
      clear hall
      by_cases hlt : k < s.size
      · have HS := Lib.hid (take_snoc s k hlt)
        have HG := Lib.hid (str_get s k hlt)
        by_cases hd : 48 ≤ (s[k].toNat : Int) ∧ (s[k].toNat : Int) ≤ 57
        · obtain ⟨hd1, hd2⟩ := hd
          have HD := Lib.hid (decN_snoc (s.data.toList.take k) s[k])
          have HI := Lib.hid ((isDig_iff s[k]).2 ⟨hd1, hd2⟩)
          have HN : Hid (10 * decN (s.data.toList.take k) + ((s[k].toNat : Int) - 48) = decN (s.data.toList.take (k + 1))) := Lib.hid (by rw [HS.out, HD.out])
          have HA2 : Hid ((s.data.toList.take (k + 1)).all isDig = true) := Lib.hid (by rw [HS.out, List.all_append, HA.out]; simp [HI.out])
          have HBig := Lib.hid (fun hx => digits_big s.data.toList most (k + 1) hx)
          generalize hN1 : decN (s.data.toList.take (k + 1)) = n1 at *
          have HN1 := Lib.hid hN1
          clear hN1
          generalize decN (s.data.toList.take k) = n at *
          clear HD HI HS HG HA
          by_cases hm : 10 * n + ((s[k].toNat : Int) - 48) ≤ most
          · have hq1 : (s[k].toNat : Int) - 48 ≤ most := by omega
            have hq2 : n ≤ (most - ((s[k].toNat : Int) - 48)) / 10 := by omega
            go_wp2
            exact ⟨⟨k + 1, by omega, by go_num, by rw [HN1.out, HN.out], HA2.out, by rw [HN1.out, ← HN.out]; exact hm⟩, by simp [intOf]; omega⟩
          · have hm' : most < 10 * n + ((s[k].toNat : Int) - 48) := by omega
            go_wp2
            all_goals
              go_ret2
              exact ⟨by rw [HBig.out (by rw [← HN.out]; exact hm')]; rfl, rfl⟩
        · have HI := Lib.hid (digits_nd s.data.toList most k (by rw [HL.out]; exact hlt) (by
            rw [HG.out]
            cases h : isDig s[k]
            · rfl
            · exact absurd ((isDig_iff s[k]).1 h) hd))
          clear HA HS HG
          have hd' : (s[k].toNat : Int) < 48 ∨ 57 < (s[k].toNat : Int) := by omega
          clear hd
          rcases hd' with hd | hd
          · go_wp2
            go_ret2
            exact ⟨by rw [HI.out]; rfl, rfl⟩
          · have hd2 : ¬ (s[k].toNat : Int) < 48 := by omega
            go_wp2
            go_ret2
            exact ⟨by rw [HI.out]; rfl, rfl⟩
      · obtain rfl : k = s.size := by omega
        have ht : s.data.toList.take s.size = s.data.toList := by rw [← HL.out, List.take_length]
        have ha2 := HA.out
        rw [ht] at ha2 hle ⊢
        have HF := Lib.hid (digits_ok s.data.toList most HB.out ha2 hle)
        clear HA ht ha2
        go_wp2
        go_ret2
        exact ⟨by rw [HF.out]; rfl, rfl⟩

theorem digits_is (w : World) (s : ByteArray) (most : Int) (hs : s.size ≤ 9223372036854775807) (h0 : 0 ≤ most) (h1 : most < 18446744073709551616) :
    Calls Tryd.prog 83 #[.string s, .int .u64 most] w (Digs w (digits s.data.toList most)) := by
  rcases Nat.eq_zero_or_pos s.size with h | h
  · exact digits_none w s most h
  · cases hb : bad0 s.data.toList
    · exact digits_go w s most hs h0 h1 h hb
    · rw [bad0_eq s h, Bool.and_eq_true] at hb
      exact digits_zero w s most h hb.1 hb.2

/-- A hexadecimal digit. -/
def hexD (c : Int) : Option Int := if 48 ≤ c ∧ c ≤ 57 then some (c - 48) else if 97 ≤ c ∧ c ≤ 102 then some (c - 87) else if 65 ≤ c ∧ c ≤ 70 then some (c - 55) else none
def hexV (o : Option Int) : Value := .tuple #[.int .u8 (o.getD 0), .bool o.isSome]
theorem hexD_bd {c x : Int} (h : hexD c = some x) : 0 ≤ x ∧ x < 16 := by
  unfold hexD at h
  split at h
  · cases h; omega
  · split at h
    · cases h; omega
    · split at h
      · cases h; omega
      · cases h
set_option maxHeartbeats 1000000 in
theorem hex_is (w : World) (c : Int) (h0 : 0 ≤ c) (h1 : c < 256) :
    Calls Tryd.prog 173 #[.int .u8 c] w fun e w' => e = .returned (hexV (hexD c)) ∧ w = w' := by
  have hcases : (48 ≤ c ∧ c ≤ 57 ∧ hexD c = some (c - 48)) ∨ (97 ≤ c ∧ c ≤ 102 ∧ hexD c = some (c - 87)) ∨ (65 ≤ c ∧ c ≤ 70 ∧ hexD c = some (c - 55)) ∨ (¬ (48 ≤ c ∧ c ≤ 57) ∧ ¬ (97 ≤ c ∧ c ≤ 102) ∧ ¬ (65 ≤ c ∧ c ≤ 70) ∧ hexD c = none) := by
    unfold hexD
    by_cases a : 48 ≤ c ∧ c ≤ 57
    · exact .inl ⟨a.1, a.2, if_pos a⟩
    · rw [if_neg a]
      by_cases b : 97 ≤ c ∧ c ≤ 102
      · exact .inr (.inl ⟨b.1, b.2, if_pos b⟩)
      · rw [if_neg b]
        by_cases d : 65 ≤ c ∧ c ≤ 70
        · exact .inr (.inr (.inl ⟨d.1, d.2, if_pos d⟩))
        · exact .inr (.inr (.inr ⟨a, b, d, if_neg d⟩))
  rcases hcases with ⟨a, b, h⟩ | ⟨a, b, h⟩ | ⟨a, b, h⟩ | ⟨a, b, d, h⟩
  · have H := Lib.hid h
    clear h
    go_enter Tryd.func173, Tryd.ntmps173
    go_wp2
    go_ret2
    exact ⟨by rw [H.out]; rfl, rfl⟩
  · have H := Lib.hid h
    have n1 : ¬ c ≤ 57 := by omega
    clear h
    go_enter Tryd.func173, Tryd.ntmps173
    go_wp2
    go_ret2
    exact ⟨by rw [H.out]; show _ = Ending.returned (.tuple #[.int .u8 (c - 87), .bool true]); rw [show c - 87 = c - 97 + 10 by omega]; rfl, rfl⟩
  · have H := Lib.hid h
    have n1 : ¬ c ≤ 57 := by omega
    have n2 : ¬ 97 ≤ c := by omega
    clear h
    go_enter Tryd.func173, Tryd.ntmps173
    go_wp2
    go_ret2
    exact ⟨by rw [H.out]; show _ = Ending.returned (.tuple #[.int .u8 (c - 55), .bool true]); rw [show c - 55 = c - 65 + 10 by omega]; rfl, rfl⟩
  · have H := Lib.hid h
    clear h
    go_enter Tryd.func173, Tryd.ntmps173
    go_wp2
    all_goals first | (exfalso; omega) | skip
    all_goals
      go_ret2
      exact ⟨by rw [H.out]; rfl, rfl⟩
end Go.Proofs.YtkaimdcepnhkdaaDoor
