/-
  Words for memory: a slice of bytes that reads as a list; a block of bytes that is known whole; a block of three cells (a cursor). No program is named here.
-/
import Derived.WalkKit
import Derived.Below
import Derived.Laws.BytesArg
import Derived.Laws.CopyRow
import Derived.Laws.CopyOwn
import Derived.Deep.OwnRows
import Derived.Deep.Draws
import Derived.Lib.Hide
namespace Go.Proofs.YtgfjjkckamppoaaDoor
open Go.RowKit
set_option maxRecDepth 100000

/-- All are bytes. -/
def Oct (l : List Int) : Prop := ∀ x ∈ l, 0 ≤ x ∧ x < 256

theorem Oct.getD {l : List Int} (h : Oct l) (i : Nat) : 0 ≤ l.getD i 0 ∧ l.getD i 0 < 256 := by
  rcases Nat.lt_or_ge i l.length with hi | hi
  · have := h l[i] (List.getElem_mem hi)
    simpa [List.getD, List.getElem?_eq_getElem hi] using this
  · simp [List.getD, List.getElem?_eq_none hi]

/-- The slice value '.slice A n _' reads as the bytes l, in blocks below B. -/
structure Rd (w : World) (B : Nat) (A : Option Addr) (n : Nat) (l : List Int) : Prop where
  len : l.length = n
  oct : Oct l
  at_ : 0 < n → ∃ b off, A = some ⟨b, off, none⟩ ∧ b < B ∧ ∀ i, i < n → w.cell? ⟨b, off + i, none⟩ = some (.int .u8 (l.getD i 0))

/-- Block g is a row of the bytes l, known whole, none frozen. -/
def Byt (w : World) (g : Nat) (t : TypeId) (l : List Int) : Prop := w.heap[g]? = some (.cells (l.map (Value.int .u8)).toArray t (0, 0))

/-- Block g holds just the cells cs, none frozen. -/
def Blk (w : World) (g : Nat) (t : TypeId) (cs : Array Value) : Prop := w.heap[g]? = some (.cells cs t (0, 0))

section
variable {w w' : World} {B B' n g : Nat} {A : Option Addr} {l : List Int} {t : TypeId} {cs : Array Value}

theorem Rd.nil_ (A : Option Addr) : Rd w B A 0 [] := ⟨rfl, (fun x h => by cases h), fun h => absurd h (by omega)⟩
theorem Rd.keep (h : Rd w B A n l) (hk : ∀ p : Addr, p.block < B → w'.cell? p = w.cell? p) : Rd w' B A n l :=
  ⟨h.len, h.oct, fun hn => by
    obtain ⟨b, off, e, hb, hc⟩ := h.at_ hn
    exact ⟨b, off, e, hb, fun i hi => (hk _ hb).trans (hc i hi)⟩⟩
theorem Rd.more (h : Rd w B A n l) (hB : B ≤ B') : Rd w B' A n l :=
  ⟨h.len, h.oct, fun hn => by
    obtain ⟨b, off, e, hb, hc⟩ := h.at_ hn
    exact ⟨b, off, e, by omega, hc⟩⟩
theorem Rd.below (h : Rd w B A n l) (hb : Below B w w') : Rd w' B A n l := h.keep fun _ hp => hb.cell hp
theorem Rd.grown (h : Rd w B A n l) {row : Option Nat} (hg : w.grownBy w' row) (hB : B ≤ w.heap.size) (hr : ∀ g, row = some g → B ≤ g) : Rd w' B A n l :=
  h.keep fun p hp => World.cell?_of_block (hg.block p.block (by omega) (fun e => by have := hr _ e.symm; omega))
/-- A store into, or a growth beside, another block. -/
theorem Rd.apart (h : Rd w B A n l) {g : Nat} (hg : w.grownBy w' (some g)) (hB : B ≤ w.heap.size) (hne : ∀ b off, A = some ⟨b, off, none⟩ → b ≠ g) : Rd w' B A n l :=
  ⟨h.len, h.oct, fun hn => by
    obtain ⟨b, off, e, hb, hc⟩ := h.at_ hn
    exact ⟨b, off, e, hb, fun i hi => (World.cell?_of_block (hg.block b (by omega) (fun e' => hne b off e (by injection e')))).trans (hc i hi)⟩⟩

theorem Byt.lt (h : Byt w g t l) : g < w.heap.size := by
  rcases Nat.lt_or_ge g w.heap.size with hlt | hge
  · exact hlt
  · unfold Byt at h; rw [Array.getElem?_eq_none hge] at h; cases h
theorem Byt.cell (h : Byt w g t l) {i : Nat} (hi : i < l.length) : w.cell? ⟨g, i, none⟩ = some (.int .u8 (l.getD i 0)) := by
  unfold Byt at h
  simp [World.cell?, h, hi, List.getD]
theorem Byt.frozen (h : Byt w g t l) (i : Nat) : w.frozen? ⟨g, i, none⟩ = false := by
  unfold Byt at h
  simp [World.frozen?, h]
theorem Byt.set_ (h : Byt w g t l) (i : Nat) (x : Int) : Byt (w.setCell ⟨g, i, none⟩ (.int .u8 x)) g t (l.set i x) := by
  unfold Byt at h ⊢
  simp [World.setCell, Array.getElem?_modify, h, List.map_set, List.setIfInBounds_toArray]
theorem Byt.below (h : Byt w g t l) (hb : Below B w w') (hg : g < B) : Byt w' g t l := (hb.block g hg).trans h
theorem Byt.alloc (h : Byt w g t l) (o : Obj) : Byt (w.alloc o) g t l := (Below.heap_alloc w o g h.lt).trans h
theorem Byt.far (h : Byt w g t l) {p : Addr} (hp : g ≠ p.block) (u : Value) : Byt (w.setCell p u) g t l := (Below.heap_setCell w p u g hp).trans h
theorem Byt.grown {row : Option Nat} (h : Byt w g t l) (hb : w.grownBy w' row) (hg : some g ≠ row) : Byt w' g t l := (hb.block g h.lt hg).trans h
theorem Byt.rd (h : Byt w g t l) (ho : Oct l) {k : Nat} (hk : k ≤ l.length) (hB : g < B) : Rd w B (some ⟨g, 0, none⟩) k (l.take k) :=
  ⟨by simp; omega, fun x hx => ho x (List.mem_of_mem_take hx), fun hn => ⟨g, 0, rfl, hB, fun i hi => by
    rw [Nat.zero_add, h.cell (by omega)]
    simp [List.getD, hi]⟩⟩
theorem Byt.rd_all (h : Byt w g t l) (ho : Oct l) (hB : g < B) : Rd w B (some ⟨g, 0, none⟩) l.length l := by
  have := h.rd ho (Nat.le_refl _) hB
  rwa [List.take_length] at this

theorem Blk.lt (h : Blk w g t cs) : g < w.heap.size := by
  rcases Nat.lt_or_ge g w.heap.size with hlt | hge
  · exact hlt
  · unfold Blk at h; rw [Array.getElem?_eq_none hge] at h; cases h
theorem Blk.cell (h : Blk w g t cs) (i : Nat) : w.cell? ⟨g, i, none⟩ = cs[i]? := by
  unfold Blk at h
  simp [World.cell?, h]
theorem Blk.frozen (h : Blk w g t cs) (i : Nat) : w.frozen? ⟨g, i, none⟩ = false := by
  unfold Blk at h
  simp [World.frozen?, h]
theorem Blk.new (w : World) (t : TypeId) (cs : Array Value) : Blk (w.alloc (.cells cs t)) w.heap.size t cs := by
  unfold Blk
  show (w.heap.push _)[w.heap.size]? = _
  simp
theorem Blk.set_ (h : Blk w g t cs) (i : Nat) (u : Value) : Blk (w.setCell ⟨g, i, none⟩ u) g t (cs.setIfInBounds i u) := by
  unfold Blk at h ⊢
  simp [World.setCell, Array.getElem?_modify, h]
theorem Blk.far (h : Blk w g t cs) {p : Addr} (hp : g ≠ p.block) (u : Value) : Blk (w.setCell p u) g t cs := (Below.heap_setCell w p u g hp).trans h
theorem Blk.below (h : Blk w g t cs) (hb : Below B w w') (hg : g < B) : Blk w' g t cs := (hb.block g hg).trans h
theorem Blk.alloc (h : Blk w g t cs) (o : Obj) : Blk (w.alloc o) g t cs := (Below.heap_alloc w o g h.lt).trans h
theorem Blk.grown {row : Option Nat} (h : Blk w g t cs) (hb : w.grownBy w' row) (hg : some g ≠ row) : Blk w' g t cs := (hb.block g h.lt hg).trans h
end

/-! Only block g, and what is new, has turned: 'grownBy (some g)'. -/
section
variable {a w : World} {row : Option Nat} {g : Nat}
theorem only_refl (w : World) (row : Option Nat) : w.grownBy w row := ⟨rfl, rfl, rfl, Nat.le_refl _, fun _ _ _ => rfl⟩
theorem only_drewN (h : a.grownBy w row) (n : Nat) : a.grownBy (w.drewN n) row := ⟨h.os, h.tape, h.output, h.size, h.block⟩
theorem only_alloc (h : a.grownBy w row) (o : Obj) : a.grownBy (w.alloc o) row :=
  ⟨h.os, h.tape, h.output, Nat.le_trans h.size (by simp), fun i hi hne => (Below.heap_alloc w o i (Nat.lt_of_lt_of_le hi h.size)).trans (h.block i hi hne)⟩
theorem only_setCell (h : a.grownBy w (some g)) {p : Addr} (hp : p.block = g ∨ a.heap.size ≤ p.block) (u : Value) : a.grownBy (w.setCell p u) (some g) :=
  ⟨h.os, h.tape, h.output, by simpa [World.setCell] using h.size, fun i hi hne => (Below.heap_setCell w p u i (by
    rintro rfl
    rcases hp with hp | hp
    · exact hne (by rw [hp])
    · omega)).trans (h.block i hi hne)⟩
theorem only_of_below (h : Below a.heap.size a w) (row : Option Nat) : a.grownBy w row := ⟨h.os, h.tape, h.output, h.size, fun i hi _ => h.block i hi⟩
theorem only_trans {b : World} (h : a.grownBy b row) (k : b.grownBy w row) : a.grownBy w row :=
  ⟨k.os.trans h.os, k.tape.trans h.tape, k.output.trans h.output, Nat.le_trans h.size k.size, fun i hi hne => (k.block i (Nat.lt_of_lt_of_le hi h.size) hne).trans (h.block i hi hne)⟩
/-- What has turned in a block of the call's own has turned below no old block. -/
theorem below_only {b : World} {B : Nat} (h : Below B a b) (k : b.grownBy w row) (hB : B ≤ b.heap.size) (hr : ∀ g, row = some g → B ≤ g) : Below B a w := h.grown k hB hr
theorem below_drewN {B : Nat} (h : Below B a w) (n : Nat) : Below B a (w.drewN n) := ⟨h.os, h.tape, h.output, h.size, h.block⟩
end

/-- A cut 's[k:k+m]', the address as the walk leaves it. -/
theorem Rd.cut {w : World} {B n c k m : Nat} {A : Option Addr} {l : List Int} (h : Rd w B A n l) (hk : k + m ≤ n) (hc : n ≤ c) :
    Rd w B (if c = k then A else A.map (fun x => x.add k)) m ((l.drop k).take m) := by
  refine ⟨by have := h.len; simp; omega, fun x hx => h.oct x (List.mem_of_mem_drop (List.mem_of_mem_take hx)), fun hm => ?_⟩
  obtain ⟨b, off, rfl, hb, hcell⟩ := h.at_ (by omega)
  rw [if_neg (by omega)]
  have e : (⟨b, off, none⟩ : Addr).add k = ⟨b, off + k, none⟩ := by unfold Addr.add; split <;> simp_all
  refine ⟨b, off + k, by simp [e], hb, fun i hi => ?_⟩
  rw [Nat.add_assoc, hcell (k + i) (by omega)]
  simp [List.getD, hi]

/-- New bytes: a slice (empty, or a block of its own, known whole) that was not there in w. -/
def New (t : TypeId) (w w' : World) (A : Option Addr) (n : Nat) (l : List Int) : Prop :=
  Oct l ∧ l.length = n ∧ (n = 0 ∨ ∃ g, A = some ⟨g, 0, none⟩ ∧ w.heap.size ≤ g ∧ Byt w' g t l)

theorem New.rd {t : TypeId} {w w' : World} {A : Option Addr} {n : Nat} {l : List Int} (h : New t w w' A n l) : Rd w' w'.heap.size A n l := by
  obtain ⟨ho, hl, rfl | ⟨g, rfl, hg, hb⟩⟩ := h
  · obtain rfl : l = [] := List.eq_nil_of_length_eq_zero hl
    exact Rd.nil_ A
  · subst hl
    exact hb.rd_all ho hb.lt

/-- 'string(b)' of bytes that read as l. -/
theorem run_conv_rd {P : Program} (w : World) (src dst e : TypeId) (hs : P.underlying src = some (.slice e)) (he : P.underlying e = some (.int .u8)) (hd : P.underlying dst = some .string)
    {B : Nat} {A : Option Addr} {n : Nat} {l : List Int} (c : Nat) (h : Rd w B A n l) : (convert src dst (.slice A n c)).run P w = .ok (.string (strOfNums l)) w := by
  rcases Nat.eq_zero_or_pos n with h0 | hn
  · subst h0
    obtain rfl : l = [] := List.eq_nil_of_length_eq_zero h.len
    rw [run_convert_bytes_string w src dst e _ 0 c hs he hd]
    cases A <;> simp [Conv.bytesToString, loadCells]
    all_goals rfl
  · obtain ⟨b, off, rfl, _, hc⟩ := h.at_ hn
    exact run_convert_bytes_arg w src e hs he b off n c l h.len hc dst hd

theorem strOfNums_inj {a b : List Int} (ha : Oct a) (hb : Oct b) (h : strOfNums a = strOfNums b) : a = b := by
  have h1 : a.map (fun n => UInt8.ofNat n.toNat) = b.map (fun n => UInt8.ofNat n.toNat) := by
    rw [← strOfNums_data, ← strOfNums_data, h]
  have hl : a.length = b.length := by simpa using congrArg List.length h1
  apply List.ext_getElem hl
  intro i h2 h3
  have e := congrArg (fun l : List UInt8 => l[i]?) h1
  simp only [List.getElem?_map, List.getElem?_eq_getElem h2, List.getElem?_eq_getElem h3, Option.map_some, Option.some.injEq] at e
  have xa := ha a[i] (List.getElem_mem h2)
  have xb := hb b[i] (List.getElem_mem h3)
  have e' := congrArg UInt8.toNat e
  rw [UInt8.toNat_ofNat', UInt8.toNat_ofNat'] at e'
  omega
theorem beq_str (a b : List Int) (ha : Oct a) (hb : Oct b) (r : Bool) (h : decide (a = b) = r) : ((strOfNums a).toList == (strOfNums b).toList) = r := by
  subst h
  rw [Bool.eq_iff_iff, beq_iff_eq, decide_eq_true_iff]
  constructor
  · intro e
    refine strOfNums_inj ha hb ?_
    have : (strOfNums a).data.toList = (strOfNums b).data.toList := by rw [← ByteArray.toList_eq, ← ByteArray.toList_eq]; exact e
    unfold strOfNums at this ⊢
    simpa using this
  · rintro rfl
    rfl

/-- A slice of structs of two ints that reads as the pairs xs, in blocks below B. -/
structure Rec2 (w : World) (B : Nat) (A : Option Addr) (n : Nat) (xs : List (Int × Int)) : Prop where
  len : xs.length = n
  bd : ∀ x ∈ xs, (-9223372036854775808 ≤ x.1 ∧ x.1 < 9223372036854775808) ∧ (-9223372036854775808 ≤ x.2 ∧ x.2 < 9223372036854775808)
  at_ : 0 < n → ∃ b off, A = some ⟨b, off, none⟩ ∧ b < B ∧ ∀ i (h : i < xs.length), w.cell? ⟨b, off + i * 2, none⟩ = some (.int .i64 xs[i].1) ∧ w.cell? ⟨b, off + i * 2 + 1, none⟩ = some (.int .i64 xs[i].2)
theorem Rec2.keep {w w' : World} {B n : Nat} {A : Option Addr} {xs : List (Int × Int)} (h : Rec2 w B A n xs) (hk : ∀ p : Addr, p.block < B → w'.cell? p = w.cell? p) : Rec2 w' B A n xs :=
  ⟨h.len, h.bd, fun hn => by
    obtain ⟨b, off, e, hb, hc⟩ := h.at_ hn
    exact ⟨b, off, e, hb, fun i hi => ⟨(hk _ hb).trans (hc i hi).1, (hk _ hb).trans (hc i hi).2⟩⟩⟩
theorem Rec2.below {w w' : World} {B n : Nat} {A : Option Addr} {xs : List (Int × Int)} (h : Rec2 w B A n xs) (hb : Below B w w') : Rec2 w' B A n xs := h.keep fun _ hp => hb.cell hp

theorem wf_u64 {a : Int} (h : (Lit.int .u64 a).wf = true) : 0 ≤ a ∧ a < 18446744073709551616 := by
  simp [Lit.wf, IntKind.min, IntKind.max, IntKind.signed, IntKind.bits] at h
  omega
theorem wf_i64 {a : Int} (h : (Lit.int .i64 a).wf = true) : -9223372036854775808 ≤ a ∧ a < 9223372036854775808 := by
  simp [Lit.wf, IntKind.min, IntKind.max, IntKind.signed, IntKind.bits] at h
  omega

/-- What make lays for bytes is a row of zeros. -/
theorem byt_made (w : World) (n : Nat) (t : TypeId) : Byt (w.alloc (.cells (madeCells #[.int .u8 0] n) t)) w.heap.size t (List.replicate n 0) := by
  unfold Byt
  show (w.heap.push _)[w.heap.size]? = _
  rw [Array.getElem?_push, if_pos rfl]
  congr 2
  apply Array.ext_getElem?
  intro i
  by_cases hi : i < n <;> simp [madeCells, hi, Nat.mod_one]
end Go.Proofs.YtgfjjkckamppoaaDoor
