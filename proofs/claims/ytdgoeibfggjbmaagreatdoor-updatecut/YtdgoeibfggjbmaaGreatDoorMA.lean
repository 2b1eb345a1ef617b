/-
  Put together: Words OctA OctB OctC Num Mid OctD OctE OctG OctH AtA AtM AtR Wrap Frame FrW FrameM AtX FrameU AtY AtN AtO AdA AtP AtB AtQ.
-/
import Derived.WalkKit
import Derived.Below
import Derived.Laws.BytesArg
import Derived.Laws.CopyRow
import Derived.Laws.CopyOwn
import Derived.Deep.OwnRows
import Derived.Deep.Draws
import Derived.Lib.Hide
import Derived.Test.YtdgoeibfggjbmaaGreatDoorProg
import Derived.Outline
import Derived.BigQuiet
import Derived.WalkLawsBesides
import Derived.Laws.BitsAllLaws
import Derived.DeepKeys
import Derived.Deep.MidRow
import Derived.Deep.RegionHeld3
import Derived.Laws.Rows
import Derived.Laws.Tables
import Derived.Maps.AppendAt
import Derived.OwnWalk
import Derived.Laws.AppendOwnNone
import Derived.HandedShaped
import Derived.ProofKit
import Derived.Lay
import Derived.OpenShut
import Derived.ChangeOld
import Derived.SizedLaws
import Derived.Deep.Slices
import Derived.Deep.Fields
import Derived.ChangeSame
import Derived.Lib.SmallJoins
import Derived.Test.YtdgoeibfggjbmaaGreatDoorRows
import Derived.Lib.LaidU8
import Derived.Deep.Strs
import Derived.Laws.Cover3
namespace Go.Proofs.YtdgoeibfggjbmaaGreatDoor
open Go.RowKit
set_option maxRecDepth 100000

/-- All are bytes. -/
def Oct (l : List Int) : Prop := ∀ x ∈ l, 0 ≤ x ∧ x < 256

theorem Oct.getD {l : List Int} (h : Oct l) (i : Nat) : 0 ≤ l.getD i 0 ∧ l.getD i 0 < 256 := by
  rcases Nat.lt_or_ge i l.length with hi | hi
  · have := h l[i] (List.getElem_mem hi)
    simpa [List.getD, List.getElem?_eq_getElem hi] using this
  · simp [List.getD, List.getElem?_eq_none hi]

/-- The slice value '.slice A n _' reads as the bytes l, in blocks below B. -/
structure Rd (w : World) (B : Nat) (A : Option Addr) (n : Nat) (l : List Int) : Prop where
  len : l.length = n
  oct : Oct l
  at_ : 0 < n → ∃ b off, A = some ⟨b, off, none⟩ ∧ b < B ∧ ∀ i, i < n → w.cell? ⟨b, off + i, none⟩ = some (.int .u8 (l.getD i 0))

/-- Block g is a row of the bytes l, known whole, none frozen. -/
def Byt (w : World) (g : Nat) (t : TypeId) (l : List Int) : Prop := w.heap[g]? = some (.cells (l.map (Value.int .u8)).toArray t (0, 0))

/-- Block g holds just the cells cs, none frozen. -/
def Blk (w : World) (g : Nat) (t : TypeId) (cs : Array Value) : Prop := w.heap[g]? = some (.cells cs t (0, 0))

section
variable {w w' : World} {B B' n g : Nat} {A : Option Addr} {l : List Int} {t : TypeId} {cs : Array Value}

theorem Rd.nil_ (A : Option Addr) : Rd w B A 0 [] := ⟨rfl, (fun x h => by cases h), fun h => absurd h (by omega)⟩
theorem Rd.keep (h : Rd w B A n l) (hk : ∀ p : Addr, p.block < B → w'.cell? p = w.cell? p) : Rd w' B A n l :=
  ⟨h.len, h.oct, fun hn => by
    obtain ⟨b, off, e, hb, hc⟩ := h.at_ hn
    exact ⟨b, off, e, hb, fun i hi => (hk _ hb).trans (hc i hi)⟩⟩
theorem Rd.more (h : Rd w B A n l) (hB : B ≤ B') : Rd w B' A n l :=
  ⟨h.len, h.oct, fun hn => by
    obtain ⟨b, off, e, hb, hc⟩ := h.at_ hn
    exact ⟨b, off, e, by omega, hc⟩⟩
theorem Rd.below (h : Rd w B A n l) (hb : Below B w w') : Rd w' B A n l := h.keep fun _ hp => hb.cell hp
theorem Rd.grown (h : Rd w B A n l) {row : Option Nat} (hg : w.grownBy w' row) (hB : B ≤ w.heap.size) (hr : ∀ g, row = some g → B ≤ g) : Rd w' B A n l :=
  h.keep fun p hp => World.cell?_of_block (hg.block p.block (by omega) (fun e => by have := hr _ e.symm; omega))
/-- A store into, or a growth beside, another block. -/
theorem Rd.apart (h : Rd w B A n l) {g : Nat} (hg : w.grownBy w' (some g)) (hB : B ≤ w.heap.size) (hne : ∀ b off, A = some ⟨b, off, none⟩ → b ≠ g) : Rd w' B A n l :=
  ⟨h.len, h.oct, fun hn => by
    obtain ⟨b, off, e, hb, hc⟩ := h.at_ hn
    exact ⟨b, off, e, hb, fun i hi => (World.cell?_of_block (hg.block b (by omega) (fun e' => hne b off e (by injection e')))).trans (hc i hi)⟩⟩

theorem Byt.lt (h : Byt w g t l) : g < w.heap.size := by
  rcases Nat.lt_or_ge g w.heap.size with hlt | hge
  · exact hlt
  · unfold Byt at h; rw [Array.getElem?_eq_none hge] at h; cases h
theorem Byt.cell (h : Byt w g t l) {i : Nat} (hi : i < l.length) : w.cell? ⟨g, i, none⟩ = some (.int .u8 (l.getD i 0)) := by
  unfold Byt at h
  simp [World.cell?, h, hi, List.getD]
theorem Byt.frozen (h : Byt w g t l) (i : Nat) : w.frozen? ⟨g, i, none⟩ = false := by
  unfold Byt at h
  simp [World.frozen?, h]
theorem Byt.set_ (h : Byt w g t l) (i : Nat) (x : Int) : Byt (w.setCell ⟨g, i, none⟩ (.int .u8 x)) g t (l.set i x) := by
  unfold Byt at h ⊢
  simp [World.setCell, Array.getElem?_modify, h, List.map_set, List.setIfInBounds_toArray]
theorem Byt.below (h : Byt w g t l) (hb : Below B w w') (hg : g < B) : Byt w' g t l := (hb.block g hg).trans h
theorem Byt.alloc (h : Byt w g t l) (o : Obj) : Byt (w.alloc o) g t l := (Below.heap_alloc w o g h.lt).trans h
theorem Byt.far (h : Byt w g t l) {p : Addr} (hp : g ≠ p.block) (u : Value) : Byt (w.setCell p u) g t l := (Below.heap_setCell w p u g hp).trans h
theorem Byt.grown {row : Option Nat} (h : Byt w g t l) (hb : w.grownBy w' row) (hg : some g ≠ row) : Byt w' g t l := (hb.block g h.lt hg).trans h
theorem Byt.rd (h : Byt w g t l) (ho : Oct l) {k : Nat} (hk : k ≤ l.length) (hB : g < B) : Rd w B (some ⟨g, 0, none⟩) k (l.take k) :=
  ⟨by simp; omega, fun x hx => ho x (List.mem_of_mem_take hx), fun hn => ⟨g, 0, rfl, hB, fun i hi => by
    rw [Nat.zero_add, h.cell (by omega)]
    simp [List.getD, hi]⟩⟩
theorem Byt.rd_all (h : Byt w g t l) (ho : Oct l) (hB : g < B) : Rd w B (some ⟨g, 0, none⟩) l.length l := by
  have := h.rd ho (Nat.le_refl _) hB
  rwa [List.take_length] at this

theorem Blk.lt (h : Blk w g t cs) : g < w.heap.size := by
  rcases Nat.lt_or_ge g w.heap.size with hlt | hge
  · exact hlt
  · unfold Blk at h; rw [Array.getElem?_eq_none hge] at h; cases h
theorem Blk.cell (h : Blk w g t cs) (i : Nat) : w.cell? ⟨g, i, none⟩ = cs[i]? := by
  unfold Blk at h
  simp [World.cell?, h]
theorem Blk.frozen (h : Blk w g t cs) (i : Nat) : w.frozen? ⟨g, i, none⟩ = false := by
  unfold Blk at h
  simp [World.frozen?, h]
theorem Blk.new (w : World) (t : TypeId) (cs : Array Value) : Blk (w.alloc (.cells cs t)) w.heap.size t cs := by
  unfold Blk
  show (w.heap.push _)[w.heap.size]? = _
  simp
theorem Blk.set_ (h : Blk w g t cs) (i : Nat) (u : Value) : Blk (w.setCell ⟨g, i, none⟩ u) g t (cs.setIfInBounds i u) := by
  unfold Blk at h ⊢
  simp [World.setCell, Array.getElem?_modify, h]
theorem Blk.far (h : Blk w g t cs) {p : Addr} (hp : g ≠ p.block) (u : Value) : Blk (w.setCell p u) g t cs := (Below.heap_setCell w p u g hp).trans h
theorem Blk.below (h : Blk w g t cs) (hb : Below B w w') (hg : g < B) : Blk w' g t cs := (hb.block g hg).trans h
theorem Blk.alloc (h : Blk w g t cs) (o : Obj) : Blk (w.alloc o) g t cs := (Below.heap_alloc w o g h.lt).trans h
theorem Blk.grown {row : Option Nat} (h : Blk w g t cs) (hb : w.grownBy w' row) (hg : some g ≠ row) : Blk w' g t cs := (hb.block g h.lt hg).trans h
end

/-! Only block g, and what is new, has turned: 'grownBy (some g)'. -/
section
variable {a w : World} {row : Option Nat} {g : Nat}
theorem only_refl (w : World) (row : Option Nat) : w.grownBy w row := ⟨rfl, rfl, rfl, Nat.le_refl _, fun _ _ _ => rfl⟩
theorem only_drewN (h : a.grownBy w row) (n : Nat) : a.grownBy (w.drewN n) row := ⟨h.os, h.tape, h.output, h.size, h.block⟩
theorem only_alloc (h : a.grownBy w row) (o : Obj) : a.grownBy (w.alloc o) row :=
  ⟨h.os, h.tape, h.output, Nat.le_trans h.size (by simp), fun i hi hne => (Below.heap_alloc w o i (Nat.lt_of_lt_of_le hi h.size)).trans (h.block i hi hne)⟩
theorem only_setCell (h : a.grownBy w (some g)) {p : Addr} (hp : p.block = g ∨ a.heap.size ≤ p.block) (u : Value) : a.grownBy (w.setCell p u) (some g) :=
  ⟨h.os, h.tape, h.output, by simpa [World.setCell] using h.size, fun i hi hne => (Below.heap_setCell w p u i (by
    rintro rfl
    rcases hp with hp | hp
    · exact hne (by rw [hp])
    · omega)).trans (h.block i hi hne)⟩
theorem only_of_below (h : Below a.heap.size a w) (row : Option Nat) : a.grownBy w row := ⟨h.os, h.tape, h.output, h.size, fun i hi _ => h.block i hi⟩
theorem only_trans {b : World} (h : a.grownBy b row) (k : b.grownBy w row) : a.grownBy w row :=
  ⟨k.os.trans h.os, k.tape.trans h.tape, k.output.trans h.output, Nat.le_trans h.size k.size, fun i hi hne => (k.block i (Nat.lt_of_lt_of_le hi h.size) hne).trans (h.block i hi hne)⟩
/-- What has turned in a block of the call's own has turned below no old block. -/
theorem below_only {b : World} {B : Nat} (h : Below B a b) (k : b.grownBy w row) (hB : B ≤ b.heap.size) (hr : ∀ g, row = some g → B ≤ g) : Below B a w := h.grown k hB hr
theorem below_drewN {B : Nat} (h : Below B a w) (n : Nat) : Below B a (w.drewN n) := ⟨h.os, h.tape, h.output, h.size, h.block⟩
end

/-- A cut 's[k:k+m]', the address as the walk leaves it. -/
theorem Rd.cut {w : World} {B n c k m : Nat} {A : Option Addr} {l : List Int} (h : Rd w B A n l) (hk : k + m ≤ n) (hc : n ≤ c) :
    Rd w B (if c = k then A else A.map (fun x => x.add k)) m ((l.drop k).take m) := by
  refine ⟨by have := h.len; simp; omega, fun x hx => h.oct x (List.mem_of_mem_drop (List.mem_of_mem_take hx)), fun hm => ?_⟩
  obtain ⟨b, off, rfl, hb, hcell⟩ := h.at_ (by omega)
  rw [if_neg (by omega)]
  have e : (⟨b, off, none⟩ : Addr).add k = ⟨b, off + k, none⟩ := by unfold Addr.add; split <;> simp_all
  refine ⟨b, off + k, by simp [e], hb, fun i hi => ?_⟩
  rw [Nat.add_assoc, hcell (k + i) (by omega)]
  simp [List.getD, hi]

/-- New bytes: a slice (empty, or a block of its own, known whole) that was not there in w. -/
def New (t : TypeId) (w w' : World) (A : Option Addr) (n : Nat) (l : List Int) : Prop :=
  Oct l ∧ l.length = n ∧ (n = 0 ∨ ∃ g, A = some ⟨g, 0, none⟩ ∧ w.heap.size ≤ g ∧ Byt w' g t l)

theorem New.rd {t : TypeId} {w w' : World} {A : Option Addr} {n : Nat} {l : List Int} (h : New t w w' A n l) : Rd w' w'.heap.size A n l := by
  obtain ⟨ho, hl, rfl | ⟨g, rfl, hg, hb⟩⟩ := h
  · obtain rfl : l = [] := List.eq_nil_of_length_eq_zero hl
    exact Rd.nil_ A
  · subst hl
    exact hb.rd_all ho hb.lt

/-- 'string(b)' of bytes that read as l. -/
theorem run_conv_rd {P : Program} (w : World) (src dst e : TypeId) (hs : P.underlying src = some (.slice e)) (he : P.underlying e = some (.int .u8)) (hd : P.underlying dst = some .string)
    {B : Nat} {A : Option Addr} {n : Nat} {l : List Int} (c : Nat) (h : Rd w B A n l) : (convert src dst (.slice A n c)).run P w = .ok (.string (strOfNums l)) w := by
  rcases Nat.eq_zero_or_pos n with h0 | hn
  · subst h0
    obtain rfl : l = [] := List.eq_nil_of_length_eq_zero h.len
    rw [run_convert_bytes_string w src dst e _ 0 c hs he hd]
    cases A <;> simp [Conv.bytesToString, loadCells]
    all_goals rfl
  · obtain ⟨b, off, rfl, _, hc⟩ := h.at_ hn
    exact run_convert_bytes_arg w src e hs he b off n c l h.len hc dst hd

theorem strOfNums_inj {a b : List Int} (ha : Oct a) (hb : Oct b) (h : strOfNums a = strOfNums b) : a = b := by
  have h1 : a.map (fun n => UInt8.ofNat n.toNat) = b.map (fun n => UInt8.ofNat n.toNat) := by
    rw [← strOfNums_data, ← strOfNums_data, h]
  have hl : a.length = b.length := by simpa using congrArg List.length h1
  apply List.ext_getElem hl
  intro i h2 h3
  have e := congrArg (fun l : List UInt8 => l[i]?) h1
  simp only [List.getElem?_map, List.getElem?_eq_getElem h2, List.getElem?_eq_getElem h3, Option.map_some, Option.some.injEq] at e
  have xa := ha a[i] (List.getElem_mem h2)
  have xb := hb b[i] (List.getElem_mem h3)
  have e' := congrArg UInt8.toNat e
  rw [UInt8.toNat_ofNat', UInt8.toNat_ofNat'] at e'
  omega
theorem beq_str (a b : List Int) (ha : Oct a) (hb : Oct b) (r : Bool) (h : decide (a = b) = r) : ((strOfNums a).toList == (strOfNums b).toList) = r := by
  subst h
  rw [Bool.eq_iff_iff, beq_iff_eq, decide_eq_true_iff]
  constructor
  · intro e
    refine strOfNums_inj ha hb ?_
    have : (strOfNums a).data.toList = (strOfNums b).data.toList := by rw [← ByteArray.toList_eq, ← ByteArray.toList_eq]; exact e
    unfold strOfNums at this ⊢
    simpa using this
  · rintro rfl
    rfl

/-- A slice of structs of two ints that reads as the pairs xs, in blocks below B. -/
structure Rec2 (w : World) (B : Nat) (A : Option Addr) (n : Nat) (xs : List (Int × Int)) : Prop where
  len : xs.length = n
  bd : ∀ x ∈ xs, (-9223372036854775808 ≤ x.1 ∧ x.1 < 9223372036854775808) ∧ (-9223372036854775808 ≤ x.2 ∧ x.2 < 9223372036854775808)
  at_ : 0 < n → ∃ b off, A = some ⟨b, off, none⟩ ∧ b < B ∧ ∀ i (h : i < xs.length), w.cell? ⟨b, off + i * 2, none⟩ = some (.int .i64 xs[i].1) ∧ w.cell? ⟨b, off + i * 2 + 1, none⟩ = some (.int .i64 xs[i].2)
theorem Rec2.keep {w w' : World} {B n : Nat} {A : Option Addr} {xs : List (Int × Int)} (h : Rec2 w B A n xs) (hk : ∀ p : Addr, p.block < B → w'.cell? p = w.cell? p) : Rec2 w' B A n xs :=
  ⟨h.len, h.bd, fun hn => by
    obtain ⟨b, off, e, hb, hc⟩ := h.at_ hn
    exact ⟨b, off, e, hb, fun i hi => ⟨(hk _ hb).trans (hc i hi).1, (hk _ hb).trans (hc i hi).2⟩⟩⟩
theorem Rec2.below {w w' : World} {B n : Nat} {A : Option Addr} {xs : List (Int × Int)} (h : Rec2 w B A n xs) (hb : Below B w w') : Rec2 w' B A n xs := h.keep fun _ hp => hb.cell hp

theorem wf_i64 {a : Int} (h : (Lit.int .i64 a).wf = true) : -9223372036854775808 ≤ a ∧ a < 9223372036854775808 := by
  simp [Lit.wf, IntKind.min, IntKind.max, IntKind.signed, IntKind.bits] at h
  omega

/-- What make lays for bytes is a row of zeros. -/
theorem byt_made (w : World) (n : Nat) (t : TypeId) : Byt (w.alloc (.cells (madeCells #[.int .u8 0] n) t)) w.heap.size t (List.replicate n 0) := by
  unfold Byt
  show (w.heap.push _)[w.heap.size]? = _
  rw [Array.getElem?_push, if_pos rfl]
  congr 2
  apply Array.ext_getElem?
  intro i
  by_cases hi : i < n <;> simp [madeCells, hi, Nat.mod_one]
end Go.Proofs.YtdgoeibfggjbmaaGreatDoor
namespace Go.Proofs.YtdgoeibfggjbmaaGreatDoor
open Go.RowKit
set_option maxRecDepth 100000

theorem isSize_yes (n : Int) (w : World) (h1 : 1 ≤ n) (h8 : n ≤ 8) :
    Calls Tryz.prog 158 #[.int .i64 n] w fun e w' => e = .returned (.bool true) ∧ w = w' := by
  go_enter Tryz.func158, Tryz.ntmps158
  go_wp2
  go_ret
  exact ⟨rfl, rfl⟩

theorem isSize_no (n : Int) (w : World) (h : n < 1 ∨ 8 < n) :
    Calls Tryz.prog 158 #[.int .i64 n] w fun e w' => e = .returned (.bool false) ∧ w = w' := by
  rcases h with h | h
  · go_enter Tryz.func158, Tryz.ntmps158
    go_wp2
    go_ret
    exact ⟨rfl, rfl⟩
  · have h1 : 1 ≤ n := by omega
    have h2 : ¬ n ≤ 8 := by omega
    go_enter Tryz.func158, Tryz.ntmps158
    go_wp2
    go_ret
    exact ⟨rfl, rfl⟩

theorem shr_zero (n : Int) (k : Nat) (hn : 0 ≤ n) : (n / 2 ^ (8 * k) == 0) = decide (n < 256 ^ k) := by
  have h : (2 : Int) ^ (8 * k) = 256 ^ k := by rw [Int.pow_mul]; rfl
  have hp : (0 : Int) < 256 ^ k := Int.pow_pos (by decide)
  rw [h, Bool.eq_iff_iff, beq_iff_eq, decide_eq_true_iff]
  constructor
  · intro e
    by_cases hlt : n < 256 ^ k
    · exact hlt
    · have := (Int.le_ediv_iff_mul_le hp (a := 1) (b := n)).2 (by omega)
      omega
  · intro hlt
    exact Int.ediv_eq_zero_of_lt hn hlt

theorem fits_is (n size : Int) (w : World) (h1 : 1 ≤ size) (h8 : size ≤ 8) (hn : 0 ≤ n) (hm : n < 18446744073709551616) (b : Bool) (hb : decide (n < 256 ^ size.toNat) = b) :
    Calls Tryz.prog 159 #[.int .u64 n, .int .i64 size] w fun e w' => e = .returned (.bool b) ∧ w = w' := by
  have H := Lib.hid hb
  clear hb
  by_cases h : size = 8
  · subst h
    have hb : b = true := by rw [← H.out]; simpa using hm
    subst hb
    clear H hm
    go_enter Tryz.func159, Tryz.ntmps159
    go_wp2
    go_ret
    exact ⟨rfl, rfl⟩
  · have hne : (size == 8) = false := by simpa using h
    have hz : (8 * size).toNat = 8 * size.toNat := by omega
    have H2 := Lib.hid (shr_zero n size.toNat hn)
    rw [← hz] at H2
    clear hm hz
    go_enter Tryz.func159, Tryz.ntmps159
    go_wp2
    go_ret
    rw [H2.out, H.out]
    exact ⟨rfl, rfl⟩
end Go.Proofs.YtdgoeibfggjbmaaGreatDoor
namespace Go.Proofs.YtdgoeibfggjbmaaGreatDoor
open Go.RowKit
set_option maxRecDepth 100000

/-- A cursor's block: its bytes, its place, its first error. -/
def CurT (T : TypeId) (w : World) (g : Nat) (A : Option Addr) (n c : Nat) (at_ err : Int) : Prop := Blk w g T #[.slice A n c, .int .i64 at_, .int .i64 err]
abbrev Cur (w : World) (g : Nat) (A : Option Addr) (n c : Nat) (at_ err : Int) : Prop := CurT 212 w g A n c at_ err

set_option maxHeartbeats 400000 in
theorem left_is (w : World) (g : Nat) (A : Option Addr) (n c : Nat) (at_ err : Int) (h : Cur w g A n c at_ err) (h0 : 0 ≤ at_) (hn : at_ ≤ n) (hm : n ≤ 281474976710656) :
    Calls Tryz.prog 176 #[.pointer (some ⟨g, 0, none⟩)] w fun e w' => e = .returned (.int .i64 (n - at_)) ∧ ∃ k, w' = w.drewN k := by
  have c0 : w.cell? ⟨g, 0, none⟩ = some (.slice A n c) := Blk.cell h 0
  have c1 : w.cell? ⟨g, 1, none⟩ = some (.int .i64 at_) := Blk.cell h 1
  have c2 : w.cell? ⟨g, 2, none⟩ = some (.int .i64 err) := Blk.cell h 2
  clear h
  go_enter Tryz.func176, Tryz.ntmps176
  go_wp2
  go_quiet (fail)
  go_wp2
  go_ret
  exact ⟨rfl, nq, rfl⟩

theorem fail_first (w : World) (g : Nat) (A : Option Addr) (n c : Nat) (at_ e0 : Int) (h : Cur w g A n c at_ 0) :
    Calls Tryz.prog 166 #[.pointer (some ⟨g, 0, none⟩), .int .i64 e0] w fun e w' => e = .returned (.tuple #[]) ∧ w.setCell ⟨g, 2, none⟩ (.int .i64 e0) = w' := by
  have c2 : w.cell? ⟨g, 2, none⟩ = some (.int .i64 0) := Blk.cell h 2
  have f2 : w.frozen? ⟨g, 2, none⟩ = false := Blk.frozen h 2
  clear h
  go_enter Tryz.func166, Tryz.ntmps166
  go_wp2
  go_end0
  exact ⟨rfl, rfl⟩

theorem fail_later (w : World) (g : Nat) (A : Option Addr) (n c : Nat) (at_ err e0 : Int) (h : Cur w g A n c at_ err) (hne : (err == 0) = false) :
    Calls Tryz.prog 166 #[.pointer (some ⟨g, 0, none⟩), .int .i64 e0] w fun e w' => e = .returned (.tuple #[]) ∧ w = w' := by
  have c2 : w.cell? ⟨g, 2, none⟩ = some (.int .i64 err) := Blk.cell h 2
  have f2 : w.frozen? ⟨g, 2, none⟩ = false := Blk.frozen h 2
  clear h
  go_enter Tryz.func166, Tryz.ntmps166
  go_wp2
  go_end0
  exact ⟨rfl, rfl⟩

/-- A cursor over the bytes l, at a place, with its first error (0: none); all that it leads to lies ahead of it. -/
structure IsCurT (T : TypeId) (w : World) (g : Nat) (l : List Int) (at_ : Nat) (err : Int) : Prop where
  ex : ∃ A c, CurT T w g A l.length c at_ err ∧ Rd w g A l.length l ∧ l.length ≤ c
  le : at_ ≤ l.length
  sm : l.length ≤ 281474976710656

theorem IsCurT.lt {T : TypeId} {w : World} {g : Nat} {l : List Int} {at_ : Nat} {err : Int} (h : IsCurT T w g l at_ err) : g < w.heap.size := by
  obtain ⟨_, _, h, _, _⟩ := h.ex
  exact Blk.lt h
theorem IsCurT.keep {T : TypeId} {w w' : World} {g : Nat} {l : List Int} {at_ : Nat} {err : Int} (h : IsCurT T w g l at_ err) (hk : Below (g + 1) w w') : IsCurT T w' g l at_ err := by
  obtain ⟨A, c, h0, h1, h2⟩ := h.ex
  exact ⟨⟨A, c, Blk.below h0 hk (by omega), h1.below (hk.mono (by omega)), h2⟩, h.le, h.sm⟩
theorem IsCurT.drewN {T : TypeId} {w : World} {g : Nat} {l : List Int} {at_ : Nat} {err : Int} (h : IsCurT T w g l at_ err) (k : Nat) : IsCurT T (w.drewN k) g l at_ err :=
  h.keep (below_drewN (Below.refl _ _) k)
theorem IsCurT.set1 {T : TypeId} {w : World} {g : Nat} {l : List Int} {at_ k : Nat} {err : Int} (h : IsCurT T w g l at_ err) (hk : k ≤ l.length) : IsCurT T (w.setCell ⟨g, 1, none⟩ (.int .i64 k)) g l k err := by
  obtain ⟨A, c, h0, h1, h2⟩ := h.ex
  exact ⟨⟨A, c, Blk.set_ h0 1 _, h1.keep fun p hp => World.cell?_setCell_other _ _ _ _ (fun e => by subst e; exact absurd hp (Nat.lt_irrefl _)), h2⟩, hk, h.sm⟩
theorem IsCurT.set2 {T : TypeId} {w : World} {g : Nat} {l : List Int} {at_ : Nat} {err e0 : Int} (h : IsCurT T w g l at_ err) : IsCurT T (w.setCell ⟨g, 2, none⟩ (.int .i64 e0)) g l at_ e0 := by
  obtain ⟨A, c, h0, h1, h2⟩ := h.ex
  exact ⟨⟨A, c, Blk.set_ h0 2 _, h1.keep fun p hp => World.cell?_setCell_other _ _ _ _ (fun e => by subst e; exact absurd hp (Nat.lt_irrefl _)), h2⟩, h.le, h.sm⟩

abbrev IsCur (w : World) (g : Nat) (l : List Int) (at_ : Nat) (err : Int) : Prop := IsCurT 212 w g l at_ err

def PassRaw (w : World) (g : Nat) (A : Option Addr) (c at_ k : Nat) (e : Ending) (w' : World) : Prop :=
  e = .returned (.slice (if c = at_ then A else A.map (fun x => x.add at_)) k (c - at_)) ∧ ∃ k1 k2, w' = ((w.drewN k1).setCell ⟨g, 1, none⟩ (.int .i64 ((at_ + k : Nat) : Int))).drewN k2

set_option maxHeartbeats 400000 in
theorem pass_raw (w : World) (g : Nat) (A : Option Addr) (n c at_ k : Nat) (h : Cur w g A n c at_ 0) (hn : at_ + k ≤ n) (hc : n ≤ c) (hm : n ≤ 281474976710656) :
    Calls Tryz.prog 165 #[.pointer (some ⟨g, 0, none⟩), .int .i64 k] w (PassRaw w g A c at_ k) := by
  have c0 : w.cell? ⟨g, 0, none⟩ = some (.slice A n c) := Blk.cell h 0
  have c1 : w.cell? ⟨g, 1, none⟩ = some (.int .i64 at_) := Blk.cell h 1
  have c2 : w.cell? ⟨g, 2, none⟩ = some (.int .i64 0) := Blk.cell h 2
  have f1 : w.frozen? ⟨g, 1, none⟩ = false := Blk.frozen h 1
  have HC := Lib.hid h
  clear h
  go_enter Tryz.func165, Tryz.ntmps165
  go_wp2_with fail
  refine (left_is w g A n c at_ 0 HC.out (by omega) (by omega) hm).mono ?_
  rintro e w' ⟨rfl, k1, rfl⟩
  go_wp2
  have e1 : ((at_ : Int) + (k : Int)).toNat = at_ + k := by omega
  have e2 : (at_ : Int) + (k : Int) ≤ (c : Int) := by omega
  go_quiet (fail)
  generalize hA : (if c = at_ then A else Option.map (fun x => x.add at_) A) = A'
  have HA := Lib.hid hA
  clear hA
  go_wp2
  go_ret
  exact ⟨by rw [HA.out]; rfl, k1, nq, by rw [show (((at_ + k : Nat) : Int)) = (at_ : Int) + (k : Int) from by omega]⟩

/-- Passed: the next k bytes; the place moves on. -/
def PassOk (w : World) (g : Nat) (l : List Int) (at_ k : Nat) (e : Ending) (w' : World) : Prop :=
  ∃ A c, e = .returned (.slice A k c) ∧ Rd w' g A k ((l.drop at_).take k) ∧ IsCur w' g l (at_ + k) 0 ∧ w.grownBy w' (some g)

theorem pass_ok (w : World) (g : Nat) (l : List Int) (at_ k : Nat) (h : IsCur w g l at_ 0) (hk : at_ + k ≤ l.length) :
    Calls Tryz.prog 165 #[.pointer (some ⟨g, 0, none⟩), .int .i64 k] w (PassOk w g l at_ k) := by
  obtain ⟨A, c, h0, h1, h2⟩ := h.ex
  refine (pass_raw w g A l.length c at_ k h0 hk h2 h.sm).mono ?_
  rintro e w' ⟨rfl, k1, k2, rfl⟩
  have hc : IsCur (((w.drewN k1).setCell ⟨g, 1, none⟩ (.int .i64 ((at_ + k : Nat) : Int))).drewN k2) g l (at_ + k) 0 := ((h.drewN k1).set1 hk).drewN k2
  refine ⟨_, _, rfl, ?_, hc, only_drewN (only_setCell (only_drewN (only_refl w _) k1) (.inl rfl) _) k2⟩
  refine (h1.cut hk h2).keep fun p hp => ?_
  exact World.cell?_setCell_other _ _ _ _ (fun e => by subst e; exact absurd hp (Nat.lt_irrefl _))

/-- Not passed: the cursor's error is e1 from now on, nothing is told. -/
def PassNo (w : World) (g : Nat) (l : List Int) (at_ : Nat) (e1 : Int) (e : Ending) (w' : World) : Prop :=
  e = .returned (.slice none 0 0) ∧ IsCur w' g l at_ e1 ∧ w.grownBy w' (some g)

set_option maxHeartbeats 400000 in
theorem pass_neg (w : World) (g : Nat) (l : List Int) (at_ : Nat) (k : Int) (h : IsCur w g l at_ 0) (hk : k < 0) :
    Calls Tryz.prog 165 #[.pointer (some ⟨g, 0, none⟩), .int .i64 k] w (PassNo w g l at_ 2) := by
  obtain ⟨A, c, h0, h1, h2⟩ := h.ex
  have c2 : (w.setCell ⟨g, 2, none⟩ (.int .i64 2)).cell? ⟨g, 2, none⟩ = some (.int .i64 2) := Blk.cell (Blk.set_ h0 2 _) 2
  have H := Lib.hid h
  have H0 := Lib.hid h0
  clear h h0 h1 h2
  go_enter Tryz.func165, Tryz.ntmps165
  go_wp2_with fail
  refine (fail_first w g A _ c at_ 2 H0.out).mono ?_
  rintro e w' ⟨rfl, rfl⟩
  go_wp2
  go_ret
  exact ⟨rfl, H.out.set2, only_setCell (only_refl w _) (.inl rfl) _⟩

set_option maxHeartbeats 400000 in
theorem pass_long (w : World) (g : Nat) (l : List Int) (at_ : Nat) (k : Int) (h : IsCur w g l at_ 0) (hk : (l.length : Int) - at_ < k) :
    Calls Tryz.prog 165 #[.pointer (some ⟨g, 0, none⟩), .int .i64 k] w (PassNo w g l at_ 3) := by
  obtain ⟨A, c, h0, h1, h2⟩ := h.ex
  have c2 : ∀ n, ((w.drewN n).setCell ⟨g, 2, none⟩ (.int .i64 3)).cell? ⟨g, 2, none⟩ = some (.int .i64 3) := fun n => Blk.cell (Blk.set_ (w := w.drewN n) h0 2 _) 2
  have H := Lib.hid h
  have H0 := Lib.hid h0
  have hle := h.le
  have hsm := h.sm
  have hpos : 0 ≤ k := by omega
  clear h h0 h1 h2
  go_enter Tryz.func165, Tryz.ntmps165
  go_wp2_with fail
  refine (left_is w g A _ c at_ 0 H0.out (by omega) (by omega) hsm).mono ?_
  rintro e w' ⟨rfl, k1, rfl⟩
  go_wp2_with fail
  refine (fail_first (w.drewN k1) g A _ c at_ 3 H0.out).mono ?_
  rintro e w' ⟨rfl, rfl⟩
  go_wp2
  go_ret
  exact ⟨rfl, (H.out.drewN k1).set2, only_setCell (only_drewN (only_refl w _) k1) (.inl rfl) _⟩

set_option maxHeartbeats 400000 in
theorem pass_late (w : World) (g : Nat) (l : List Int) (at_ : Nat) (k err : Int) (h : IsCur w g l at_ err) (hne : (err == 0) = false) :
    Calls Tryz.prog 165 #[.pointer (some ⟨g, 0, none⟩), .int .i64 k] w (PassNo w g l at_ err) := by
  obtain ⟨A, c, h0, h1, h2⟩ := h.ex
  have c2 : w.cell? ⟨g, 2, none⟩ = some (.int .i64 err) := Blk.cell h0 2
  have H := Lib.hid h
  have H0 := Lib.hid h0
  have hle := h.le
  have hsm := h.sm
  have hne' : (err != 0) = true := by simpa using hne
  clear h h0 h1 h2
  by_cases hk : k < 0
  · go_enter Tryz.func165, Tryz.ntmps165
    go_wp2_with fail
    refine (fail_later w g A _ c at_ err 2 H0.out hne).mono ?_
    rintro e w' ⟨rfl, rfl⟩
    go_wp2
    go_ret
    exact ⟨rfl, H.out, only_refl w _⟩
  · have hpos : 0 ≤ k := by omega
    by_cases hl : (l.length : Int) - at_ < k
    · go_enter Tryz.func165, Tryz.ntmps165
      go_wp2_with fail
      refine (left_is w g A _ c at_ err H0.out (by omega) (by omega) hsm).mono ?_
      rintro e w' ⟨rfl, k1, rfl⟩
      go_wp2_with fail
      refine (fail_later (w.drewN k1) g A _ c at_ err 3 H0.out hne).mono ?_
      rintro e w' ⟨rfl, rfl⟩
      go_wp2
      go_ret
      exact ⟨rfl, H.out.drewN k1, only_drewN (only_refl w _) k1⟩
    · go_enter Tryz.func165, Tryz.ntmps165
      go_wp2_with fail
      refine (left_is w g A _ c at_ err H0.out (by omega) (by omega) hsm).mono ?_
      rintro e w' ⟨rfl, k1, rfl⟩
      go_wp2
      go_ret
      exact ⟨rfl, H.out.drewN k1, only_drewN (only_refl w _) k1⟩
end Go.Proofs.YtdgoeibfggjbmaaGreatDoor
namespace Go.Proofs.YtdgoeibfggjbmaaGreatDoor
open Go.RowKit
set_option maxRecDepth 100000

theorem info_byte : (Tryz.prog.info? 5).map (fun i => (i.zero, i.size, i.bytes)) = some (some (.int .u8 0), 1, 1) := by kernel_rfl
theorem size_byte : (Tryz.prog.info? 5).map (·.size) = some 1 := by kernel_rfl

/-- A copy in new memory; nothing, of no bytes. -/
def Copied (w : World) (n : Nat) (l : List Int) (e : Ending) (w' : World) : Prop :=
  ∃ A, e = .returned (.slice A n n) ∧ New 5 w w' A n l ∧ Below w.heap.size w w'

theorem one_u8 (l : List Int) : ∀ v ∈ l.map (Value.int .u8), v.oneCell' = true := by
  intro v hv
  obtain ⟨x, _, rfl⟩ := List.mem_map.1 hv
  rfl

theorem src_u8 {w : World} {b off n : Nat} {l : List Int} (hl : l.length = n) (hc : ∀ i, i < n → w.cell? ⟨b, off + i, none⟩ = some (.int .u8 (l.getD i 0))) :
    ∀ j v, (l.map (Value.int .u8))[j]? = some v → w.cell? ((⟨b, off, none⟩ : Addr).add j) = some v := by
  intro j v hv
  have e : (⟨b, off, none⟩ : Addr).add j = ⟨b, off + j, none⟩ := by unfold Addr.add; split <;> simp_all
  rw [List.getElem?_map] at hv
  obtain ⟨x, hx, rfl⟩ := Option.map_eq_some_iff.1 hv
  obtain ⟨hj, _⟩ := List.getElem?_eq_some_iff.1 hx
  rw [e, hc j (by omega)]
  simp [List.getD, hx]

/-- The world behind 'make' and 'copy' to its beginning: a new block that begins with the bytes. -/
theorem copy_into (w : World) (n m : Nat) (A : Option Addr) (c : Nat) (l : List Int) (hr : Rd w w.heap.size A n l) (hnm : n ≤ m) (ty : TypeId) :
    ∃ w', (Builtin.copy_ #[38, 38] ty #[.slice (some ⟨w.heap.size, 0, none⟩) m m, .slice A n c]).run Tryz.prog (w.alloc (.cells (madeCells #[.int .u8 0] m) 5)) = .ok (.int .i64 n) w' ∧
      Byt w' w.heap.size 5 (l ++ List.replicate (m - n) 0) ∧ Below w.heap.size w w' ∧ w'.heap.size = w.heap.size + 1 := by
  have hm := byt_made w m 5
  have hbl : Below w.heap.size w (w.alloc (.cells (madeCells #[.int .u8 0] m) 5)) := (Below.refl _ _).alloc (Nat.le_refl _) _
  rcases Nat.eq_zero_or_pos n with h0 | hn
  · subst h0
    obtain rfl : l = [] := List.eq_nil_of_length_eq_zero hr.len
    have hrun := run_copy_none (P := Tryz.prog) (w.alloc (.cells (madeCells #[.int .u8 0] m) 5)) 38 38 ty 5 (some ⟨w.heap.size, 0, none⟩) A m m 0 c Tryz.underlying38 size_byte (by simp)
    exact ⟨_, hrun, by simpa using hm, hbl, by simp⟩
  · obtain ⟨b, off, rfl, hb, hc⟩ := hr.at_ hn
    have hrun := run_copy_row (P := Tryz.prog) (w.alloc (.cells (madeCells #[.int .u8 0] m) 5)) 38 38 ty 5 w.heap.size 0 m m ⟨b, off, none⟩ n c _ 5 (l.map (Value.int .u8)) Tryz.underlying38 size_byte hm
      (by rw [List.length_map, hr.len]; exact (Nat.min_eq_left hnm).symm) (src_u8 hr.len (fun i hi => by rw [World.cell?_alloc_lt _ _ _ hb]; exact hc i hi)) (by simp [hr.len]; omega) (one_u8 l)
    rw [List.length_map, hr.len] at hrun
    refine ⟨_, hrun, ?_, Go.below_setRow hbl (Nat.le_refl _) _, by simp [World.setRow]⟩
    unfold Byt at hm ⊢
    rw [setRow_heap _ _ _ _ _ _ hm]
    simp

set_option maxHeartbeats 400000 in
theorem copied_is (w : World) (A : Option Addr) (n c : Nat) (l : List Int) (hr : Rd w w.heap.size A n l) (hm : n ≤ 281474976710656) :
    Calls Tryz.prog 164 #[.slice A n c] w (Copied w n l) := by
  by_cases h0 : n = 0
  · subst h0
    have H := Lib.hid hr
    clear hr
    go_enter Tryz.func164, Tryz.ntmps164
    go_wp2
    go_ret
    exact ⟨none, rfl, ⟨H.out.oct, H.out.len, .inl rfl⟩, Below.refl _ _⟩
  · have hne : ((n : Int) == 0) = false := by simp; omega
    have hmk := run_make_row' (P := Tryz.prog) 38 5 (.int .u8 0) 1 Tryz.underlying38 info_byte rfl .i64 .i64 n (by omega) (by omega) w
    have H := Lib.hid hr
    obtain ⟨w', hcp, hby, hbl, hsz⟩ := copy_into w n n A c l hr (Nat.le_refl _) 3
    rw [Nat.sub_self, List.replicate_zero, List.append_nil] at hby
    have H1 := Lib.hid hby
    have H2 := Lib.hid hbl
    clear hr hby hbl hsz
    go_enter Tryz.func164, Tryz.ntmps164
    go_wp2
    go_ret
    exact ⟨some ⟨w.heap.size, 0, none⟩, rfl, ⟨H.out.oct, H.out.len, .inr ⟨_, rfl, Nat.le_refl _, H1.out⟩⟩, H2.out⟩

/-- A new cursor. -/
def NewCur (w : World) (l : List Int) (e : Ending) (w' : World) : Prop :=
  ∃ g, e = .returned (.pointer (some ⟨g, 0, none⟩)) ∧ w.heap.size ≤ g ∧ IsCur w' g l 0 0 ∧ Below w.heap.size w w'

theorem isCur_new {w w1 : World} {A : Option Addr} {n : Nat} {l : List Int} (hn : New 5 w w1 A n l) (hm : n ≤ 281474976710656) :
    IsCur (w1.alloc (.cells #[.slice A n n, .int .i64 0, .int .i64 0] 212)) w1.heap.size l 0 0 := by
  obtain rfl := hn.2.1
  exact ⟨⟨A, _, Blk.new w1 212 _, hn.rd.keep (fun p hp => World.cell?_alloc_lt _ _ _ hp), Nat.le_refl _⟩, Nat.zero_le _, hm⟩

set_option maxHeartbeats 400000 in
theorem new_is (w : World) (A : Option Addr) (n c : Nat) (l : List Int) (hr : Rd w w.heap.size A n l) (hm : n ≤ 281474976710656) :
    Calls Tryz.prog 111 #[.slice A n c] w (NewCur w l) := by
  have H := Lib.hid hr
  clear hr
  go_enter Tryz.func111, Tryz.ntmps111
  go_wp2_with fail
  refine (copied_is w A n c l H.out hm).mono ?_
  rintro e w1 ⟨A1, rfl, hn, hb⟩
  have H1 := Lib.hid hn
  have H2 := Lib.hid hb
  clear hn hb
  go_wp2
  go_ret
  exact ⟨w1.heap.size, rfl, H2.out.size, isCur_new H1.out hm, H2.out.alloc H2.out.size _⟩

theorem err_is (w : World) (g : Nat) (l : List Int) (at_ : Nat) (err : Int) (h : IsCur w g l at_ err) :
    Calls Tryz.prog 115 #[.pointer (some ⟨g, 0, none⟩)] w fun e w' => e = .returned (.int .i64 err) ∧ w = w' := by
  obtain ⟨A, c, h0, _, _⟩ := h.ex
  have c2 : w.cell? ⟨g, 2, none⟩ = some (.int .i64 err) := Blk.cell h0 2
  clear h h0
  go_enter Tryz.func115, Tryz.ntmps115
  go_wp2
  go_ret
  exact ⟨rfl, rfl⟩

theorem leftC_is (w : World) (g : Nat) (l : List Int) (at_ : Nat) (err : Int) (h : IsCur w g l at_ err) :
    Calls Tryz.prog 122 #[.pointer (some ⟨g, 0, none⟩)] w fun e w' => e = .returned (.int .i64 ((l.length : Int) - at_)) ∧ ∃ k, w' = w.drewN k := by
  obtain ⟨A, c, h0, _, _⟩ := h.ex
  have hle := h.le
  have hsm := h.sm
  have H0 := Lib.hid h0
  clear h h0
  go_enter Tryz.func122, Tryz.ntmps122
  go_wp2_with fail
  refine (left_is w g A _ c at_ err H0.out (by omega) (by omega) hsm).mono ?_
  rintro e w' ⟨rfl, k1, rfl⟩
  go_wp2
  go_ret
  exact ⟨rfl, k1, rfl⟩

/-- Where a cursor is, what it bears behind a step by k: moved, or with its first error. -/
def stepAt (l : List Int) (at_ : Nat) (err k : Int) : Nat := if err = 0 ∧ 0 ≤ k ∧ at_ + k ≤ l.length then at_ + k.toNat else at_
def stepErr (l : List Int) (at_ : Nat) (err k : Int) : Int := if err = 0 then (if k < 0 then 2 else if (l.length : Int) - at_ < k then 3 else 0) else err
def stepTook (l : List Int) (at_ : Nat) (err k : Int) : List Int := if err = 0 ∧ 0 ≤ k ∧ at_ + k ≤ l.length then (l.drop at_).take k.toNat else []

/-- What pass comes to, in one word. -/
def Passed (w : World) (g : Nat) (l : List Int) (at_ : Nat) (err k : Int) (e : Ending) (w' : World) : Prop :=
  ∃ A c, e = .returned (.slice A (stepTook l at_ err k).length c) ∧ Rd w' g A (stepTook l at_ err k).length (stepTook l at_ err k) ∧ IsCur w' g l (stepAt l at_ err k) (stepErr l at_ err k) ∧ w.grownBy w' (some g)

theorem pass_is (w : World) (g : Nat) (l : List Int) (at_ : Nat) (err k : Int) (h : IsCur w g l at_ err) :
    Calls Tryz.prog 165 #[.pointer (some ⟨g, 0, none⟩), .int .i64 k] w (Passed w g l at_ err k) := by
  have hle := h.le
  by_cases he : err = 0
  · subst he
    by_cases hk : k < 0
    · have e1 : stepTook l at_ 0 k = [] := by unfold stepTook; rw [if_neg (by omega)]
      have e2 : stepAt l at_ 0 k = at_ := by unfold stepAt; rw [if_neg (by omega)]
      have e3 : stepErr l at_ 0 k = 2 := by unfold stepErr; rw [if_pos rfl, if_pos hk]
      refine (pass_neg w g l at_ k h hk).mono ?_
      rintro e w' ⟨rfl, hc, ho⟩
      exact ⟨none, 0, by rw [e1]; rfl, by rw [e1]; exact Rd.nil_ _, by rw [e2, e3]; exact hc, ho⟩
    · by_cases hl : (l.length : Int) - at_ < k
      · have e1 : stepTook l at_ 0 k = [] := by unfold stepTook; rw [if_neg (by omega)]
        have e2 : stepAt l at_ 0 k = at_ := by unfold stepAt; rw [if_neg (by omega)]
        have e3 : stepErr l at_ 0 k = 3 := by unfold stepErr; rw [if_pos rfl, if_neg hk, if_pos hl]
        refine (pass_long w g l at_ k h hl).mono ?_
        rintro e w' ⟨rfl, hc, ho⟩
        exact ⟨none, 0, by rw [e1]; rfl, by rw [e1]; exact Rd.nil_ _, by rw [e2, e3]; exact hc, ho⟩
      · obtain ⟨m, rfl⟩ : ∃ m : Nat, k = m := ⟨k.toNat, by omega⟩
        have e1 : stepTook l at_ 0 m = (l.drop at_).take m := by unfold stepTook; rw [if_pos (by omega)]; rfl
        have e2 : stepAt l at_ 0 m = at_ + m := by unfold stepAt; rw [if_pos (by omega)]; rfl
        have e3 : stepErr l at_ 0 m = 0 := by unfold stepErr; rw [if_pos rfl, if_neg hk, if_neg hl]
        have e4 : (stepTook l at_ 0 m).length = m := by rw [e1]; simp; omega
        refine (pass_ok w g l at_ m h (by omega)).mono ?_
        rintro e w' ⟨A, c, rfl, hr, hc, ho⟩
        exact ⟨A, c, by rw [e4], by rw [e4, e1]; exact hr, by rw [e2, e3]; exact hc, ho⟩
  · have e1 : stepTook l at_ err k = [] := by unfold stepTook; rw [if_neg (by omega)]
    have e2 : stepAt l at_ err k = at_ := by unfold stepAt; rw [if_neg (by omega)]
    have e3 : stepErr l at_ err k = err := by unfold stepErr; rw [if_neg he]
    refine (pass_late w g l at_ k err h (by simpa using he)).mono ?_
    rintro e w' ⟨rfl, hc, ho⟩
    exact ⟨none, 0, by rw [e1]; rfl, by rw [e1]; exact Rd.nil_ _, by rw [e2, e3]; exact hc, ho⟩

def Skipped (w : World) (g : Nat) (l : List Int) (at_ : Nat) (err k : Int) (e : Ending) (w' : World) : Prop :=
  e = .returned (.tuple #[]) ∧ IsCur w' g l (stepAt l at_ err k) (stepErr l at_ err k) ∧ w.grownBy w' (some g)

theorem skip_is (w : World) (g : Nat) (l : List Int) (at_ : Nat) (err k : Int) (h : IsCur w g l at_ err) :
    Calls Tryz.prog 112 #[.pointer (some ⟨g, 0, none⟩), .int .i64 k] w (Skipped w g l at_ err k) := by
  have H := Lib.hid h
  clear h
  go_enter Tryz.func112, Tryz.ntmps112
  go_wp2_with fail
  refine (pass_is w g l at_ err k H.out).mono ?_
  rintro e w' ⟨A, c, rfl, hr, hc, ho⟩
  have H1 := Lib.hid hr
  have H2 := Lib.hid hc
  have H3 := Lib.hid ho
  clear hr hc ho
  go_wp2
  go_end0
  exact ⟨rfl, H2.out, H3.out⟩

def Took (w : World) (g : Nat) (l : List Int) (at_ : Nat) (err k : Int) (e : Ending) (w' : World) : Prop :=
  ∃ A, e = .returned (.slice A (stepTook l at_ err k).length (stepTook l at_ err k).length) ∧ New 5 w w' A (stepTook l at_ err k).length (stepTook l at_ err k) ∧
    IsCur w' g l (stepAt l at_ err k) (stepErr l at_ err k) ∧ w.grownBy w' (some g)

theorem stepTook_len (l : List Int) (at_ : Nat) (err k : Int) : (stepTook l at_ err k).length ≤ l.length := by
  unfold stepTook
  split
  · simp; omega
  · simp

theorem New.from_ {t : TypeId} {w w0 w' : World} {A : Option Addr} {n : Nat} {l : List Int} (h : New t w w' A n l) (hs : w0.heap.size ≤ w.heap.size) : New t w0 w' A n l :=
  ⟨h.1, h.2.1, h.2.2.imp id fun ⟨g, a, b, c⟩ => ⟨g, a, by omega, c⟩⟩

theorem take_is (w : World) (g : Nat) (l : List Int) (at_ : Nat) (err k : Int) (h : IsCur w g l at_ err) :
    Calls Tryz.prog 114 #[.pointer (some ⟨g, 0, none⟩), .int .i64 k] w (Took w g l at_ err k) := by
  have hsm := h.sm
  have H := Lib.hid h
  have hlen := stepTook_len l at_ err k
  unfold Took
  have H0 := Lib.hid (pass_is w g l at_ err k h)
  unfold Passed at H0
  generalize stepTook l at_ err k = xs at *
  generalize stepAt l at_ err k = at1 at *
  generalize stepErr l at_ err k = err1 at *
  clear h
  go_enter Tryz.func114, Tryz.ntmps114
  go_wp2_with fail
  refine H0.out.mono ?_
  rintro e w1 ⟨A, c, rfl, hr, hc, ho⟩
  have H1 := Lib.hid hr
  have H2 := Lib.hid hc
  have H3 := Lib.hid ho
  clear hr hc ho
  go_wp2_with fail
  refine (copied_is w1 A _ c xs (H1.out.more (Nat.le_of_lt H2.out.lt)) (by omega)).mono ?_
  rintro e w2 ⟨A2, rfl, hn, hb⟩
  have H4 := Lib.hid hn
  have H5 := Lib.hid hb
  clear hn hb
  go_wp2
  go_ret
  exact ⟨A2, rfl, H4.out.from_ H3.out.size, H2.out.keep (H5.out.mono H2.out.lt), only_trans H3.out (only_of_below H5.out _)⟩
end Go.Proofs.YtdgoeibfggjbmaaGreatDoor
namespace Go.Proofs.YtdgoeibfggjbmaaGreatDoor
open Go.RowKit
set_option maxRecDepth 100000

/-- The number in bytes, the highest one first. -/
def numOf (l : List Int) : Int := l.foldl (fun n b => n * 256 + b) 0
theorem numOf_snoc (l : List Int) (b : Int) : numOf (l ++ [b]) = numOf l * 256 + b := by simp [numOf]
theorem numOf_bd_take (l : List Int) (h : Oct l) : ∀ m, m ≤ l.length → 0 ≤ numOf (l.take m) ∧ numOf (l.take m) < 256 ^ m
  | 0, _ => by simp [numOf]
  | m + 1, hm => by
    have ih := numOf_bd_take l h m (by omega)
    have hb := h l[m] (List.getElem_mem (by omega))
    rw [List.take_succ_eq_append_getElem (by omega), numOf_snoc, Int.pow_succ]
    omega
theorem numOf_bd (l : List Int) (h : Oct l) : 0 ≤ numOf l ∧ numOf l < 256 ^ l.length := by
  have := numOf_bd_take l h l.length (Nat.le_refl _)
  rwa [List.take_length] at this
theorem numOf_or (N x : Int) (h0 : 0 ≤ N) (h1 : N < 72057594037927936) (hx0 : 0 ≤ x) (hx1 : x < 256) :
    bits .or .u64 (IntKind.u64.wrap (N * 256)) (IntKind.u64.wrap x) = N * 256 + x := by
  rw [IntKind.wrap_u64, IntKind.wrap_u64, Int.emod_eq_of_lt (by omega) (by omega), Int.emod_eq_of_lt (by omega) (by omega), u64_or _ _ (by omega) (by omega) (by omega) (by omega)]
  obtain ⟨n, rfl⟩ := Int.eq_ofNat_of_zero_le h0
  obtain ⟨y, rfl⟩ := Int.eq_ofNat_of_zero_le hx0
  have hy : y < 2 ^ 8 := by omega
  have e : ((n : Int) * 256).toNat = 2 ^ 8 * n := by omega
  rw [e, Int.toNat_natCast, ← Nat.two_pow_add_eq_or_of_lt hy]
  omega
theorem pow256_7 : ∀ m, m < 8 → (256 : Int) ^ m ≤ 72057594037927936 := by decide
theorem numOf_step (xs : List Int) (m : Nat) (hm : m < xs.length) (h8 : xs.length ≤ 8) (ho : Oct xs) :
    bits .or .u64 (IntKind.u64.wrap (numOf (xs.take m) * 256)) (IntKind.u64.wrap xs[m]) = numOf (xs.take (m + 1)) := by
  have hb := numOf_bd_take xs ho m (by omega)
  have hx := ho xs[m] (List.getElem_mem hm)
  have hp := pow256_7 m (by omega)
  rw [numOf_or _ _ hb.1 (by omega) hx.1 hx.2, List.take_succ_eq_append_getElem hm, numOf_snoc]

/-- The cells of bytes. -/
abbrev u8s (l : List Int) : List Value := l.map (Value.int .u8)

/-- Two aggregates of a type that can be a key are compared by their literals. -/
theorem run_eql_key {P : Program} {t : TypeId} (m D D' : Nat) (hk : P.keyTypeAt m t = true) (hm : m ≤ 10000) (xs ys : Array Value) (lx ly : List Lit)
    (fx : (Value.agg xs).formed P t = true) (fy : (Value.agg ys).formed P t = true) (hx : P.keyLits D t xs.toList = some lx) (hy : P.keyLits D' t ys.toList = some ly) (b : Bool) (hb : b = true ↔ lx = ly) (w : World) :
    (binOp .eql t (.agg xs) (.agg ys)).run P w = .ok (.bool b) w := by
  obtain ⟨r, hr, hiff⟩ := run_equalIn_deep (10000 - m) m t hk w D D' (.agg xs) (.agg ys) lx ly fx fy (by simpa [Value.cells] using hx) (by simpa [Value.cells] using hy)
  rw [show 10000 - m + m = 10000 by omega] at hr
  rw [run_eql_struct, hr]
  have : r = b := by rw [Bool.eq_iff_iff, hiff, hb]
  simp [Result.andThen, this]
theorem run_neq_key {P : Program} {t : TypeId} (m D D' : Nat) (hk : P.keyTypeAt m t = true) (hm : m ≤ 10000) (xs ys : Array Value) (lx ly : List Lit)
    (fx : (Value.agg xs).formed P t = true) (fy : (Value.agg ys).formed P t = true) (hx : P.keyLits D t xs.toList = some lx) (hy : P.keyLits D' t ys.toList = some ly) (b : Bool) (hb : b = true ↔ lx = ly) (w : World) :
    (binOp .neq t (.agg xs) (.agg ys)).run P w = .ok (.bool (!b)) w := by
  obtain ⟨r, hr, hiff⟩ := run_equalIn_deep (10000 - m) m t hk w D D' (.agg xs) (.agg ys) lx ly fx fy (by simpa [Value.cells] using hx) (by simpa [Value.cells] using hy)
  rw [show 10000 - m + m = 10000 by omega] at hr
  rw [run_neq_struct, hr]
  have : r = b := by rw [Bool.eq_iff_iff, hiff, hb]
  simp [Result.andThen, this]
theorem mapM_some {α β : Type} {f : α → Option β} {g : α → β} : ∀ (xs : List α), (∀ x ∈ xs, f x = some (g x)) → xs.mapM f = some (xs.map g)
  | [], _ => rfl
  | x :: xs, h => by simp [List.mapM_cons, h x (by simp), mapM_some xs (fun y hy => h y (by simp [hy]))]
theorem range_map_get {α : Type} (l : List Int) (g : Int → α) : (List.range l.length).map (fun i => g (l.getD i 0)) = l.map g := by
  apply List.ext_getElem (by simp)
  intro i h1 h2
  have hi : i < l.length := by simpa using h1
  simp [List.getD, hi]
theorem oct_wf {x : Int} (h : 0 ≤ x ∧ x < 256) : (Lit.int .u8 x).wf = true := by
  simp [Lit.wf, IntKind.min, IntKind.max, IntKind.signed, IntKind.bits]; omega
theorem flatten_single {α β : Type} (g : α → β) : ∀ l : List α, (l.map fun x => [g x]).flatten = l.map g
  | [] => rfl
  | x :: l => by simp [flatten_single g l]
/-- The literals of an array of bytes. -/
theorem keyLits_u8s {P : Program} (d : Nat) {t e : TypeId} {n : Nat} (hu : P.underlying t = some (.array n e)) (he : P.underlying e = some (.int .u8)) (hce : P.cellsOf e = 1) (hct : P.cellsOf t = n)
    (l : List Int) (hl : l.length = n) (ho : Oct l) : P.keyLits (d + 2) t (u8s l) = some (l.map (Lit.int .u8)) := by
  subst hl
  unfold Program.keyLits
  rw [hu]
  simp only [hct, hce, u8s, List.length_map, if_true]
  rw [mapM_some (g := fun i => [Lit.int .u8 (l.getD i 0)])]
  · rw [range_map_get l (fun x => [Lit.int .u8 x])]
    simp only [Option.map_some, flatten_single]
  · intro i hi
    have hi' : i < l.length := by simpa using hi
    have hx := oct_wf (ho l[i] (List.getElem_mem hi'))
    unfold Program.keyLits
    rw [he]
    have : ((l.map (Value.int .u8)).drop (i * 1)).take 1 = [Value.int .u8 l[i]] := by
      rw [Nat.mul_one, ← List.map_drop, List.drop_eq_getElem_cons hi']
      rfl
    rw [this]
    simp [hx, List.getD, hi']
end Go.Proofs.YtdgoeibfggjbmaaGreatDoor
namespace Go.Proofs.YtdgoeibfggjbmaaGreatDoor
open Go.RowKit
set_option maxRecDepth 100000

section
variable {w w' : World} {b o B : Nat} {cs : List Value}
theorem range_new (w : World) (t : TypeId) (cs : List Value) : (w.alloc (.cells cs.toArray t)).rangeAt w.heap.size 0 cs := by
  intro j v hv
  rw [World.cell?_alloc_new]
  simpa using hv
theorem range_lt (h : w.rangeAt b o cs) (hn : 0 < cs.length) : b < w.heap.size := by
  have h0 := h 0 cs[0] (by simp)
  exact World.block_lt_of_cell? w _ h0
theorem range_keep (h : w.rangeAt b o cs) (hk : ∀ p : Addr, p.block = b → w'.cell? p = w.cell? p) : w'.rangeAt b o cs := fun j v hv => by
  rw [hk _ rfl]
  exact h j v hv
theorem range_below (h : w.rangeAt b o cs) (hB : Below B w w') (hb : b < B) : w'.rangeAt b o cs := range_keep h fun p hp => hB.cell (by rw [hp]; exact hb)
theorem range_alloc (h : w.rangeAt b o cs) (ob : Obj) (hb : b < w.heap.size) : (w.alloc ob).rangeAt b o cs := range_keep h fun p hp => World.cell?_of_block (Below.heap_alloc w ob p.block (by omega))
theorem range_drewN (h : w.rangeAt b o cs) (n : Nat) : (w.drewN n).rangeAt b o cs := h
/-- The first ones of them. -/
theorem range_pre {ds : List Value} (h : w.rangeAt b o (cs ++ ds)) : w.rangeAt b o cs := fun j v hv => h j v (by rw [List.getElem?_append_left (List.getElem?_eq_some_iff.1 hv).1]; exact hv)
theorem range_post {ds : List Value} (h : w.rangeAt b o (cs ++ ds)) : w.rangeAt b (o + cs.length) ds := fun j v hv => by
  have := h (cs.length + j) v (by rw [List.getElem?_append_right (by omega), Nat.add_sub_cancel_left]; exact hv)
  rwa [← Nat.add_assoc] at this
end

theorem below_setRow (w : World) (g : Nat) (cs : Array Value) {B : Nat} (hg : B ≤ g) : Below B w (w.setRow g cs) :=
  ⟨rfl, rfl, rfl, by simp [World.setRow], fun i hi => by simp [World.setRow, Array.getElem?_modify, show g ≠ i by omega]⟩
theorem Blk.setRow {w : World} {g : Nat} {t : TypeId} {old : Array Value} (h : Blk w g t old) (cs : Array Value) : Blk (w.setRow g cs) g t cs := setRow_heap w g old cs t (0, 0) h
theorem Blk.range {w : World} {g : Nat} {t : TypeId} {cs : List Value} (h : Blk w g t cs.toArray) : w.rangeAt g 0 cs := fun j u hu => by rw [Nat.zero_add, h.cell]; simpa using hu

/-- Two results: a variable of several cells, and a slot. -/
theorem results_cell_slot {P : Program} {fn : Func} {p q : Tmp} {ty : TypeId} (h : fn.results = #[.cell p ty, .tmp q]) (tmps : Array Value) (w : World) (g : Nat) (t : TypeId) (cs : Array Value) (d : TypeDesc) (u : Value)
    (hp : tmps.getD p undef = .pointer (some ⟨g, 0, none⟩)) (hq : tmps.getD q undef = u) (hg : Blk w g t cs) (hu : P.underlying ty = some d) (hd : (match d with | .struct _ | .array _ _ => true | _ => false) = true) (hi : (P.info? ty).map (·.size) = some cs.size) :
    (results fn tmps).run P w = .ok (.tuple #[.agg cs, u]) w := by
  have hp' : tmps[p]?.getD undef = .pointer (some ⟨g, 0, none⟩) := by simpa using hp
  have hq' : tmps[q]?.getD undef = u := by simpa using hq
  simp [results, h, hp', hq', asAddr, run_loadVar_row w g t ty cs (0, 0) d hg hu hd hi]

theorem slice_arr_h {P : Program} {t e : TypeId} {n : Nat} (hu : P.underlying t = some (.array n e)) (hi0 : (P.info? e).map (·.size) = some 1) (g o h : Nat) (h2 : h ≤ n) (h3 : 0 < n) (b : Int) (hb : b = h) (W : World) :
    (Instr.sliceAt t (.pointer (some ⟨g, o, none⟩)) none (some (.int .i64 b)) none).run P W = .ok (.slice (some ⟨g, o, none⟩) h n) W := by
  subst hb
  have hal : P.arrayLen t = n := by simp [Program.arrayLen, hu]
  have hel : P.elem t = e := by simp [Program.elem, hu]
  rw [run_sliceAt_array_h W t ⟨g, o, none⟩ (by rw [hu, hal, hel]) .i64 (h : Int) (by omega) (by rw [hal]; omega), hal, hel]
  obtain ⟨i, hi, hs⟩ := Option.map_eq_some_iff.1 hi0
  simp only [sizeOf, typeInfo, Sem.run_bind]
  simp [Result.andThen, slicedAt, hi, hs, show n ≠ 0 by omega, Addr.add]

/-- Bytes among the cells of a range. -/
theorem rd_range {w : World} {b B : Nat} {pre post : List Value} {l : List Int} (h : w.rangeAt b 0 (pre ++ (u8s l ++ post))) (ho : Oct l) (k m : Nat) (hm : k + m ≤ l.length) (hB : b < B) :
    Rd w B (some ⟨b, pre.length + k, none⟩) m ((l.drop k).take m) := by
  refine ⟨by simp; omega, fun x hx => ho x (List.mem_of_mem_drop (List.mem_of_mem_take hx)), fun _ => ⟨_, _, rfl, hB, fun i hi => ?_⟩⟩
  have h2 : k + i < l.length := by omega
  have hv : (pre ++ (u8s l ++ post))[pre.length + (k + i)]? = some (.int .u8 (l.getD (k + i) 0)) := by
    rw [List.getElem?_append_right (by omega), Nat.add_sub_cancel_left, List.getElem?_append_left (by simp; omega)]
    simp [List.getD, h2]
  have := h _ _ hv
  rw [Nat.zero_add, ← Nat.add_assoc] at this
  rw [this]
  simp [List.getD, hi]
end Go.Proofs.YtdgoeibfggjbmaaGreatDoor
namespace Go.Proofs.YtdgoeibfggjbmaaGreatDoor
open Go.RowKit
set_option maxRecDepth 100000

abbrev numOk (k : Int) : Prop := 1 ≤ k ∧ k ≤ 8
def numErr (l : List Int) (at_ : Nat) (err k : Int) : Int := if numOk k then stepErr l at_ err k else if err = 0 then 2 else err
def numAt (l : List Int) (at_ : Nat) (err k : Int) : Nat := if numOk k then stepAt l at_ err k else at_
def numVal (l : List Int) (at_ : Nat) (err k : Int) : Int := if numOk k then numOf (stepTook l at_ err k) else 0

def Numd (w : World) (g : Nat) (l : List Int) (at_ : Nat) (err k : Int) (e : Ending) (w' : World) : Prop :=
  e = .returned (.int .u64 (numVal l at_ err k)) ∧ IsCur w' g l (numAt l at_ err k) (numErr l at_ err k) ∧ w.grownBy w' (some g)

set_option maxHeartbeats 400000 in
theorem num_bad (w : World) (g : Nat) (l : List Int) (at_ : Nat) (err k : Int) (h : IsCur w g l at_ err) (hk : ¬ numOk k) :
    Calls Tryz.prog 113 #[.pointer (some ⟨g, 0, none⟩), .int .i64 k] w (Numd w g l at_ err k) := by
  unfold Numd numVal numAt numErr
  simp only [if_neg hk]
  have hk' : k < 1 ∨ 8 < k := by unfold numOk at hk; omega
  have H := Lib.hid h
  obtain ⟨A, c, h0, _, _⟩ := h.ex
  have H0 := Lib.hid h0
  clear h h0 hk
  have H1 := Lib.hid hk'
  clear hk'
  by_cases he : err = 0
  · subst he
    go_enter Tryz.func113, Tryz.ntmps113
    go_wp2_with fail
    refine (isSize_no k w H1.out).mono ?_
    rintro e w' ⟨rfl, rfl⟩
    go_wp2_with fail
    refine (fail_first w g A _ c at_ 2 H0.out).mono ?_
    rintro e w' ⟨rfl, rfl⟩
    go_wp2
    go_ret
    exact ⟨rfl, H.out.set2, only_setCell (only_refl w _) (.inl rfl) _⟩
  · have he' : (err == 0) = false := by simpa using he
    simp only [if_neg he]
    go_enter Tryz.func113, Tryz.ntmps113
    go_wp2_with fail
    refine (isSize_no k w H1.out).mono ?_
    rintro e w' ⟨rfl, rfl⟩
    go_wp2_with fail
    refine (fail_later w g A _ c at_ err 2 H0.out he').mono ?_
    rintro e w' ⟨rfl, rfl⟩
    go_wp2
    go_ret
    exact ⟨rfl, H.out, only_refl w _⟩

set_option maxHeartbeats 1000000 in
theorem num_ok (w : World) (g : Nat) (l : List Int) (at_ : Nat) (err k : Int) (h : IsCur w g l at_ err) (hk : numOk k) :
    Calls Tryz.prog 113 #[.pointer (some ⟨g, 0, none⟩), .int .i64 k] w (Numd w g l at_ err k) := by
  unfold Numd numVal numAt numErr
  simp only [if_pos hk]
  have hlen : (stepTook l at_ err k).length ≤ 8 := by
    unfold numOk at hk
    unfold stepTook
    split
    · simp; omega
    · simp
  have H0 := Lib.hid (pass_is w g l at_ err k h)
  unfold Passed at H0
  generalize stepTook l at_ err k = xs at *
  generalize stepAt l at_ err k = at1 at *
  generalize stepErr l at_ err k = err1 at *
  obtain ⟨hk1, hk8⟩ := hk
  clear h
  go_enter Tryz.func113, Tryz.ntmps113
  go_wp2_with fail
  refine (isSize_yes k w hk1 hk8).mono ?_
  rintro e w' ⟨rfl, rfl⟩
  go_wp2_with fail
  refine H0.out.mono ?_
  rintro e w1 ⟨A, c, rfl, hr, hc, ho⟩
  have hoct := hr.oct
  have H1 := Lib.hid hr
  have H2 := Lib.hid hc
  have H3 := Lib.hid ho
  have HO := Lib.hid hoct
  clear hr hc ho hoct
  go_wp2
  go_loop [5, 7, 23] (fun s _ i => ∃ m : Nat, m ≤ xs.length ∧ i = .int .i64 m ∧ s = .int .u64 (numOf (xs.take m))) (fun _ _ i => xs.length - (intOf i).toNat)
  case atStart => exact ⟨0, Nat.zero_le _, rfl, rfl⟩
  case round =>
    obtain ⟨m, hm, rfl, rfl⟩ := hrel
    by_cases hlt : m < xs.length
    · obtain ⟨b, off, rfl, hb, hcell⟩ := H1.out.at_ (by omega)
      have hcm := hcell m hlt
      have HS := Lib.hid (numOf_step xs m hlt hlen HO.out)
      clear hcell
      go_wp2
      refine ⟨⟨m + 1, by omega, by go_num, by rw [HS.out]⟩, by simp [intOf]; omega⟩
    · obtain rfl : m = xs.length := by omega
      rw [List.take_length]
      go_wp2
      go_ret
      exact ⟨rfl, H2.out, H3.out⟩

theorem num_is (w : World) (g : Nat) (l : List Int) (at_ : Nat) (err k : Int) (h : IsCur w g l at_ err) :
    Calls Tryz.prog 113 #[.pointer (some ⟨g, 0, none⟩), .int .i64 k] w (Numd w g l at_ err k) := by
  by_cases hk : numOk k
  · exact num_ok w g l at_ err k h hk
  · exact num_bad w g l at_ err k h hk

theorem late_err (l : List Int) (at_ : Nat) (err k : Int) (h : err ≠ 0) : stepErr l at_ err k = err := by unfold stepErr; rw [if_neg h]
theorem late_numErr (l : List Int) (at_ : Nat) (err k : Int) (h : err ≠ 0) : numErr l at_ err k = err := by
  unfold numErr
  rw [late_err l at_ err k h, if_neg h]
  split <;> rfl
end Go.Proofs.YtdgoeibfggjbmaaGreatDoor
namespace Go.Proofs.YtdgoeibfggjbmaaGreatDoor
open Go.RowKit
set_option maxRecDepth 100000

/-- The lowest k bytes of n, the highest of them first. -/
def be : Nat → Int → List Int
  | 0, _ => []
  | k + 1, n => (n / 256 ^ k % 256) :: be k n
theorem be_len : ∀ k n, (be k n).length = k
  | 0, _ => rfl
  | k + 1, n => by simp [be, be_len k n]
theorem be_oct : ∀ k n, Oct (be k n)
  | 0, _ => by intro x h; cases h
  | k + 1, n => by
    intro x h
    rcases List.mem_cons.1 h with rfl | h
    · omega
    · exact be_oct k n x h

theorem set_mid (l r : List Int) (j : Nat) (x : Int) : (l ++ (List.replicate (j + 1) 0 ++ r)).set (l.length + j) x = l ++ (List.replicate j 0 ++ x :: r) := by
  rw [List.set_append_right _ _ (by omega), Nat.add_sub_cancel_left, List.replicate_succ', List.append_assoc, List.set_append_right _ _ (by simp)]
  simp

theorem wrap_u8_mod (n : Int) : IntKind.u8.wrap n = n % 256 := by simp [IntKind.wrap, IntKind.bits, IntKind.signed]

def PutNo (w : World) (e : Ending) (w' : World) : Prop := e = .returned (.tuple #[.slice none 0 0, .int .i64 2]) ∧ w = w'

set_option maxHeartbeats 400000 in
theorem put_no (w : World) (A : Option Addr) (m c : Nat) (n size : Int) (hn : 0 ≤ n) (hm : n < 18446744073709551616) (h : ¬ (1 ≤ size ∧ size ≤ 8 ∧ n < 256 ^ size.toNat)) :
    Calls Tryz.prog 100 #[.slice A m c, .int .u64 n, .int .i64 size] w (PutNo w) := by
  by_cases hs : 1 ≤ size ∧ size ≤ 8
  · obtain ⟨h1, h8⟩ := hs
    have hf : decide (n < 256 ^ size.toNat) = false := by simp; omega
    have H := Lib.hid hf
    clear hf h
    go_enter Tryz.func100, Tryz.ntmps100
    go_wp2_with fail
    refine (isSize_yes size w h1 h8).mono ?_
    rintro e w' ⟨rfl, rfl⟩
    go_wp2_with fail
    refine (fits_is n size w h1 h8 hn hm false H.out).mono ?_
    rintro e w' ⟨rfl, rfl⟩
    go_wp2
    go_ret2
    exact ⟨rfl, rfl⟩
  · have hs' : size < 1 ∨ 8 < size := by omega
    have H := Lib.hid hs'
    clear hs hs' h
    go_enter Tryz.func100, Tryz.ntmps100
    go_wp2_with fail
    refine (isSize_no size w H.out).mono ?_
    rintro e w' ⟨rfl, rfl⟩
    go_wp2
    go_ret2
    exact ⟨rfl, rfl⟩

def PutYes (w : World) (l : List Int) (n : Int) (s : Nat) (e : Ending) (w' : World) : Prop :=
  e = .returned (.tuple #[.slice (some ⟨w.heap.size, 0, none⟩) (l.length + s) (l.length + s), .int .i64 0]) ∧ Byt w' w.heap.size 5 (l ++ be s n) ∧ Below w.heap.size w w'

set_option maxHeartbeats 1000000 in
theorem put_yes (w : World) (A : Option Addr) (c : Nat) (l : List Int) (n : Int) (s : Nat) (hr : Rd w w.heap.size A l.length l) (hm : l.length ≤ 140737488355328) (hn : 0 ≤ n) (hn2 : n < 18446744073709551616)
    (h1 : 1 ≤ s) (h8 : s ≤ 8) (hf : n < 256 ^ s) :
    Calls Tryz.prog 100 #[.slice A l.length c, .int .u64 n, .int .i64 s] w (PutYes w l n s) := by
  have hf' : decide (n < 256 ^ (s : Int).toNat) = true := by simpa using hf
  have H := Lib.hid hf'
  have hmk := run_make_row' (P := Tryz.prog) 38 5 (.int .u8 0) 1 Tryz.underlying38 info_byte rfl .i64 .i64 (l.length + s) (by omega) (by omega) w
  rw [show ((l.length + s : Nat) : Int) = (l.length : Int) + (s : Int) from by omega] at hmk
  obtain ⟨w', hcp, hby, hbl, hsz⟩ := copy_into w l.length (l.length + s) A c l hr (by omega) 3
  rw [Nat.add_sub_cancel_left] at hby
  have H1 := Lib.hid hby
  have H2 := Lib.hid hbl
  have H3 := Lib.hid hsz
  clear hr hby hbl hsz hf hf'
  go_enter Tryz.func100, Tryz.ntmps100
  go_wp2_with fail
  refine (isSize_yes s w (by omega) (by omega)).mono ?_
  rintro e w2 ⟨rfl, rfl⟩
  go_wp2_with fail
  refine (fits_is n s w (by omega) (by omega) hn hn2 true H.out).mono ?_
  rintro e w2 ⟨rfl, rfl⟩
  go_wp2
  go_loopw [1, 9] (fun n' i wr => ∃ j : Nat, j ≤ s ∧ n' = .int .u64 (n / 256 ^ (s - j)) ∧ i = .int .i64 ((l.length : Int) + j - 1) ∧ Byt wr w.heap.size 5 (l ++ (List.replicate j 0 ++ be (s - j) n)) ∧ Below w.heap.size w wr)
    (fun _ i _ => (intOf i + 1).toNat)
  case atStart => exact ⟨s, Nat.le_refl _, by simp, by go_num, by simpa [be] using H1.out, H2.out⟩
  case round =>
    obtain ⟨j, hj, rfl, rfl, hb, hB⟩ := hrel
    by_cases h0 : j = 0
    · subst h0
      have HB := Lib.hid hb
      have HB2 := Lib.hid hB
      clear hb hB
      go_wp2
      go_ret2
      exact ⟨rfl, by simpa using HB.out, HB2.out⟩
    · obtain ⟨j, rfl⟩ : ∃ i, j = i + 1 := ⟨j - 1, by omega⟩
      have hcell := hb.cell (i := l.length + j) (by simp [be_len]; omega)
      have hfz := hb.frozen (l.length + j)
      have hset := hb.set_ (l.length + j) (n / 256 ^ (s - (j + 1)) % 256)
      have HB := Lib.hid hset
      have HB2 := Lib.hid hB
      clear hb hB hset
      have ei : (l.length : Int) + ((j + 1 : Nat) : Int) - 1 = ((l.length + j : Nat) : Int) := by omega
      rw [ei]
      go_wp2
      have es : s - j = s - (j + 1) + 1 := by omega
      refine ⟨⟨j, by omega, ?_, rfl, ?_, HB2.out.setCell (Nat.le_refl _) _⟩, by simp [intOf]; omega⟩
      · rw [es, Int.pow_succ, Int.ediv_ediv_of_nonneg (Int.le_of_lt (Int.pow_pos (by decide)))]
      · have hb := HB.out
        rw [set_mid] at hb
        rw [es]
        exact hb

/-- Put, at whatever fits. -/
theorem put_fits (w : World) (A : Option Addr) (m c : Nat) (l : List Int) (n size : Int) (hr : Rd w w.heap.size A m l) (hm : m ≤ 140737488355328) (hn : 0 ≤ n) (hn2 : n < 18446744073709551616)
    (h1 : 1 ≤ size) (h8 : size ≤ 8) (hf : n < 256 ^ size.toNat) :
    Calls Tryz.prog 100 #[.slice A m c, .int .u64 n, .int .i64 size] w (PutYes w l n size.toNat) := by
  obtain ⟨s, rfl⟩ := Int.eq_ofNat_of_zero_le (show 0 ≤ size by omega)
  obtain rfl := hr.len
  exact put_yes w A c l n s hr hm hn hn2 (by omega) (by omega) hf
end Go.Proofs.YtdgoeibfggjbmaaGreatDoor
namespace Go.Proofs.YtdgoeibfggjbmaaGreatDoor
open Go.RowKit
set_option maxRecDepth 100000

theorem same_is (w : World) (B : Nat) (A A2 : Option Addr) (n n2 c c2 : Nat) (l l2 : List Int) (h : Rd w B A n l) (h2 : Rd w B A2 n2 l2) (r : Bool) (hr : decide (l = l2) = r) :
    Calls Tryz.prog 21 #[.slice A n c, .slice A2 n2 c2] w fun e w' => e = .returned (.bool r) ∧ w = w' := by
  have k1 := run_conv_rd (P := Tryz.prog) w 38 9 5 Tryz.underlying38 Tryz.underlying5 Tryz.underlying9 c h
  have k2 := run_conv_rd (P := Tryz.prog) w 38 9 5 Tryz.underlying38 Tryz.underlying5 Tryz.underlying9 c2 h2
  have H := Lib.hid (beq_str l l2 h.oct h2.oct r hr)
  clear h h2 hr
  go_enter Tryz.func21, Tryz.ntmps21
  go_wp2
  go_ret
  rw [H.out]
  exact ⟨rfl, rfl⟩

/-- A row of bytes, whatever they are. -/
def Row (w : World) (g : Nat) (m : Nat) : Prop := ∃ l, Byt w g 5 l ∧ Oct l ∧ l.length = m

theorem Row.set_ {w : World} {g m : Nat} (h : Row w g m) (i : Nat) {x : Int} (h0 : 0 ≤ x) (h1 : x < 256) : Row (w.setCell ⟨g, i, none⟩ (.int .u8 x)) g m := by
  obtain ⟨l, hb, ho, hl⟩ := h
  refine ⟨l.set i x, hb.set_ i x, fun y hy => ?_, by simpa using hl⟩
  rcases List.mem_or_eq_of_mem_set hy with hy | rfl
  · exact ho y hy
  · exact ⟨h0, h1⟩

def Lent (w : World) (n : Nat) (l : List Int) (e : Ending) (w' : World) : Prop :=
  e = .returned (.slice (some ⟨w.heap.size, 0, none⟩) n (n + 2)) ∧ Byt w' w.heap.size 5 (l ++ [165, 90]) ∧ Below w.heap.size w w'

end Go.Proofs.YtdgoeibfggjbmaaGreatDoor
namespace Go.Proofs.YtdgoeibfggjbmaaGreatDoor
open Go.RowKit
set_option maxRecDepth 100000

/-- Put, in one word. -/
def Put (w : World) (l : List Int) (n size : Int) (e : Ending) (w' : World) : Prop :=
  Below w.heap.size w w' ∧ if 1 ≤ size ∧ size ≤ 8 ∧ n < 256 ^ size.toNat then
    e = .returned (.tuple #[.slice (some ⟨w.heap.size, 0, none⟩) (l.length + size.toNat) (l.length + size.toNat), .int .i64 0]) ∧ Byt w' w.heap.size 5 (l ++ be size.toNat n)
  else e = .returned (.tuple #[.slice none 0 0, .int .i64 2])

theorem put_is (w : World) (A : Option Addr) (m c : Nat) (l : List Int) (n size : Int) (hr : Rd w w.heap.size A m l) (hm : m ≤ 140737488355328) (hn : 0 ≤ n) (hn2 : n < 18446744073709551616) :
    Calls Tryz.prog 100 #[.slice A m c, .int .u64 n, .int .i64 size] w (Put w l n size) := by
  by_cases h : 1 ≤ size ∧ size ≤ 8 ∧ n < 256 ^ size.toNat
  · refine (put_fits w A m c l n size hr hm hn hn2 h.1 h.2.1 h.2.2).mono ?_
    rintro e w' ⟨he, hb, hB⟩
    exact ⟨hB, by rw [if_pos h]; exact ⟨he, hb⟩⟩
  · refine (put_no w A m c n size hn hn2 h).mono ?_
    rintro e w' ⟨he, rfl⟩
    exact ⟨Below.refl _ _, by rw [if_neg h]; exact he⟩
end Go.Proofs.YtdgoeibfggjbmaaGreatDoor
namespace Go.Proofs.YtdgoeibfggjbmaaGreatDoor
open Go.RowKit
set_option maxRecDepth 100000
set_option linter.unusedSimpArgs false
set_option linter.unusedVariables false

/-- The table's rows: kind, flags, class. -/
def kAt : Nat → Int × Int × Int
  | 0 => (1, 64, 2) | 1 => (2, 64, 2) | 2 => (3, 64, 2) | 3 => (4, 128, 2) | 4 => (5, 64, 2) | 5 => (6, 64, 1) | 6 => (7, 192, 1) | 7 => (9, 128, 2) | 8 => (10, 128, 2) | 9 => (14, 128, 3) | 10 => (15, 128, 3) | 11 => (16, 192, 2) | 12 => (22, 192, 2) | _ => (0, 0, 0)
def knownC : List Value := (List.range 13).flatMap fun i => [.int .i64 (kAt i).1, .int .i64 (kAt i).2.1, .int .i64 (kAt i).2.2]
/-- A known kind's flags and class. -/
def bnd (k : Int) : Option (Int × Int) :=
  if k = 1 ∨ k = 2 ∨ k = 3 ∨ k = 5 then some (64, 2) else if k = 6 then some (64, 1) else if k = 4 ∨ k = 9 ∨ k = 10 then some (128, 2)
  else if k = 14 ∨ k = 15 then some (128, 3) else if k = 7 then some (192, 1) else if k = 16 ∨ k = 22 then some (192, 2) else none
theorem bnd_at : ∀ m, m < 13 → bnd (kAt m).1 = some ((kAt m).2.1, (kAt m).2.2) := by decide
theorem bnd_no {k : Int} (h : ∀ j, j < 13 → (kAt j).1 ≠ k) : bnd k = none := by
  have h0 := h 0 (by omega); have h1 := h 1 (by omega); have h2 := h 2 (by omega); have h3 := h 3 (by omega); have h4 := h 4 (by omega); have h5 := h 5 (by omega); have h6 := h 6 (by omega)
  have h7 := h 7 (by omega); have h8 := h 8 (by omega); have h9 := h 9 (by omega); have h10 := h 10 (by omega); have h11 := h 11 (by omega); have h12 := h 12 (by omega)
  simp only [kAt] at *
  unfold bnd
  rw [if_neg (by omega), if_neg (by omega), if_neg (by omega), if_neg (by omega), if_neg (by omega), if_neg (by omega)]
/-- The table of the program lies where the program's text lays it. -/
structure EnvK (w : World) : Prop where
  at_ : w.rangeAt 0 0 knownC
  lt : 0 < w.heap.size
theorem EnvK.below {w w' : World} (h : EnvK w) (hb : Below w.heap.size w w') : EnvK w' := ⟨fun j v hv => (hb.cell (p := ⟨0, 0 + j, none⟩) h.lt).trans (h.at_ j v hv), Nat.lt_of_lt_of_le h.lt hb.size⟩
theorem EnvK.low {w w' : World} {B : Nat} (h : EnvK w) (hb : Below B w w') (hB : 0 < B) : EnvK w' := ⟨fun j v hv => (hb.cell (p := ⟨0, 0 + j, none⟩) hB).trans (h.at_ j v hv), Nat.lt_of_lt_of_le h.lt hb.size⟩
theorem EnvK.grown {w w' : World} {g : Nat} (h : EnvK w) (hb : w.grownBy w' (some g)) (hg : 0 < g) : EnvK w' :=
  ⟨fun j v hv => (World.cell?_of_block (a := ⟨0, 0 + j, none⟩) (hb.block 0 h.lt (fun e => by injection e; omega))).trans (h.at_ j v hv), Nat.lt_of_lt_of_le h.lt hb.size⟩

theorem known_fetch {ops : Array Oper} {rest : List Oper} {op : Oper} {a : Act} {w : World} {Q : Exit → Act → World → Prop} (hw : Region.wanted op (yielded ops a.tmps) = true) (x : Operand) (ho : op.op = .load 247 x)
    (hx : a.eval x = .pointer (some ⟨0, 0, none⟩)) (hc : w.rangeAt 0 0 knownC) (h : wpList Tryz.prog ops Q rest (a.put op.dst (.agg knownC.toArray)) w) : wpList Tryz.prog ops Q (op :: rest) a w :=
  BigFrame.wpList_want hw fun _ hK => wp_load_mid 247 x ho 0 0 hx knownC _ hc Tryz.underlying247 rfl (by kernel_rfl) (hK _ _ h)
theorem known_index : ∀ (k : Nat) (_ : k < 13) (W : World), (Instr.index 247 (.agg knownC.toArray) (.int .i64 (k : Int))).run Tryz.prog W = .ok (.agg #[.int .i64 (kAt k).1, .int .i64 (kAt k).2.1, .int .i64 (kAt k).2.2]) W
  | 0, _, W => by kernel_rfl
  | 1, _, W => by kernel_rfl
  | 2, _, W => by kernel_rfl
  | 3, _, W => by kernel_rfl
  | 4, _, W => by kernel_rfl
  | 5, _, W => by kernel_rfl
  | 6, _, W => by kernel_rfl
  | 7, _, W => by kernel_rfl
  | 8, _, W => by kernel_rfl
  | 9, _, W => by kernel_rfl
  | 10, _, W => by kernel_rfl
  | 11, _, W => by kernel_rfl
  | 12, _, W => by kernel_rfl
  | k + 13, h, W => absurd h (by omega)

theorem bsz : (Tryz.prog.info? 217).map (·.size) = some 3 := by kernel_rfl
theorem b_store {ops : Array Oper} {rest : List Oper} {o : Oper} {a : Act} {w : World} {Q : Exit → Act → World → Prop} (hgd : o.guard = none) (x y : Operand) (ho : o.op = .store 217 x y) (g : Nat) (r1 r2 r3 : Int)
    (hx : a.eval x = .pointer (some ⟨g, 0, none⟩)) (hy : a.eval y = .agg #[.int .i64 r1, .int .i64 r2, .int .i64 r3]) (t : TypeId) (old : Array Value) (hg : Blk w g t old) (hold : old.size = 3)
    (h : wpList Tryz.prog ops Q rest (a.put o.dst undef) (w.setRow g #[.int .i64 r1, .int .i64 r2, .int .i64 r3])) : wpList Tryz.prog ops Q (o :: rest) a w :=
  wpList_store_row hgd 217 x y ho g _ hx hy t old hg bsz (by rw [hold]; rfl) (by kernel_rfl) h

def bndV (k : Int) : Value := match bnd k with
  | some (f, c) => .tuple #[.agg #[.int .i64 k, .int .i64 f, .int .i64 c], .bool true]
  | none => .tuple #[.agg #[.int .i64 0, .int .i64 0, .int .i64 0], .bool false]

set_option maxHeartbeats 1000000 in
set_option maxRecDepth 100000 in
theorem boundsOf_is (w : World) (E : EnvK w) (k : Int) :
    Calls Tryz.prog 168 #[.int .i64 k] w fun e w' => e = .returned (bndV k) ∧ Below w.heap.size w w' := by
  have hr0 : (w.alloc (.cells #[.int .i64 0, .int .i64 0, .int .i64 0] 217)).rangeAt 0 0 knownC := (E.below ((Below.refl _ _).alloc (Nat.le_refl _) _)).at_
  have HR := Lib.hid hr0
  have HN : Hid (Blk (w.alloc (.cells #[.int .i64 0, .int .i64 0, .int .i64 0] 217)) w.heap.size 217 #[.int .i64 0, .int .i64 0, .int .i64 0]) := Lib.hid (Blk.new w 217 _)
  have HB : Hid (Below w.heap.size w (w.alloc (.cells #[.int .i64 0, .int .i64 0, .int .i64 0] 217))) := Lib.hid ((Below.refl _ _).alloc (Nat.le_refl _) _)
  clear hr0 E
  go_enter Tryz.func168, Tryz.ntmps168
  go_wp2_with (refine known_fetch rfl _ rfl rfl HR.out ?_)
  go_loopw [5, 7] (fun _ i wr => ∃ m : Nat, m ≤ 13 ∧ i = .int .i64 m ∧ Blk wr w.heap.size 217 #[.int .i64 0, .int .i64 0, .int .i64 0] ∧ Below w.heap.size w wr ∧ ∀ j, j < m → (kAt j).1 ≠ k) (fun _ i _ => 13 - (intOf i).toNat)
  case atStart => exact ⟨0, Nat.zero_le _, rfl, HN.out, HB.out, fun j hj => by omega⟩
  case round =>
    obtain ⟨m, hm, rfl, hb, hw, hno⟩ := hrel
    have HNo := Lib.hid hno
    have HW := Lib.hid hw
    have hsz := hw.size
    have hlt := hb.lt
    by_cases hlt13 : m < 13
    · have hix := known_index m hlt13
      have HBA := Lib.hid (bnd_at m hlt13)
      generalize hr : kAt m = r at *
      obtain ⟨r1, r2, r3⟩ := r
      have HK := Lib.hid hr
      simp only at hix HBA
      have hA := Blk.new wr 217 #[.int .i64 r1, .int .i64 r2, .int .i64 r3]
      have hsB : Below wr.heap.size wr (wr.alloc (.cells #[.int .i64 r1, .int .i64 r2, .int .i64 r3] 217)) := (Below.refl _ _).alloc (Nat.le_refl _) _
      have HA := Lib.hid hA
      have HB1 := Lib.hid (hb.below hsB hlt)
      have HS := Lib.hid (hw.trans (hsB.mono hsz))
      clear hno hw hb HR HN HB hr hA hsB
      by_cases he : r1 = k
      · subst he
        have e1 : (r1 == r1) = true := by simp
        go_wp2_with (first
          | (refine BigFrame.wpList_want rfl fun _ hK => wp_load_mid 217 _ rfl wr.heap.size 0 rfl [.int .i64 r1, .int .i64 r2, .int .i64 r3] _ HA.out.range Tryz.underlying217 rfl bsz (hK _ _ ?_))
          | (refine b_store rfl _ _ rfl w.heap.size r1 r2 r3 rfl rfl 217 _ HB1.out rfl ?_))
        try simp only [Exit.inBlock, Exit.then]
        refine bodyPost_ret (v := .tuple #[.agg #[.int .i64 r1, .int .i64 r2, .int .i64 r3], .bool true]) ?_ rfl ⟨by unfold bndV; rw [HBA.out], HS.out.trans (below_setRow _ _ _ (Nat.le_refl _))⟩
        exact results_cell_slot rfl _ _ w.heap.size 217 _ _ _ rfl rfl (Blk.setRow HB1.out _) Tryz.underlying217 rfl bsz
      · have e1 : (r1 == k) = false := by simpa using he
        go_wp2
        refine ⟨⟨m + 1, by omega, by go_num, HB1.out, HS.out, ?_⟩, by simp [intOf]; omega⟩
        intro j hj
        by_cases hjm : j = m
        · subst hjm; rw [HK.out]; exact he
        · exact HNo.out j (by omega)
    · obtain rfl : m = 13 := by omega
      have HBN := Lib.hid (bnd_no hno)
      have HB1 := Lib.hid hb
      clear hno hw hb HR HN HB HNo
      go_wp2_with (refine b_store rfl _ _ rfl w.heap.size 0 0 0 rfl rfl 217 _ HB1.out rfl ?_)
      try simp only [Exit.inBlock, Exit.then]
      refine bodyPost_ret (v := .tuple #[.agg #[.int .i64 0, .int .i64 0, .int .i64 0], .bool false]) ?_ rfl ⟨by unfold bndV; rw [HBN.out], HW.out.trans (below_setRow _ _ _ (Nat.le_refl _))⟩
      exact results_cell_slot rfl _ _ w.heap.size 217 _ _ _ rfl rfl (Blk.setRow HB1.out _) Tryz.underlying217 rfl bsz

theorem isByte_is (w : World) (n : Int) : Calls Tryz.prog 155 #[.int .i64 n] w fun e w' => e = .returned (.bool (decide (0 ≤ n ∧ n ≤ 255))) ∧ w = w' := by
  by_cases h0 : 0 ≤ n
  · by_cases h1 : n ≤ 255
    · go_enter Tryz.func155, Tryz.ntmps155
      go_wp2
      go_ret
      exact ⟨by simp [h0, h1], rfl⟩
    · go_enter Tryz.func155, Tryz.ntmps155
      go_wp2
      go_ret
      exact ⟨by simp [h1], rfl⟩
  · go_enter Tryz.func155, Tryz.ntmps155
    go_wp2
    go_ret
    exact ⟨by simp [show ¬ 0 ≤ n by omega], rfl⟩
theorem isOrigin_is (w : World) (n : Int) : Calls Tryz.prog 194 #[.int .i64 n] w fun e w' => e = .returned (.bool (decide (0 ≤ n ∧ n ≤ 2))) ∧ w = w' := by
  by_cases h0 : 0 ≤ n
  · by_cases h1 : n ≤ 2
    · go_enter Tryz.func194, Tryz.ntmps194
      go_wp2
      go_ret
      exact ⟨by simp [h0, h1], rfl⟩
    · go_enter Tryz.func194, Tryz.ntmps194
      go_wp2
      go_ret
      exact ⟨by simp [h1], rfl⟩
  · go_enter Tryz.func194, Tryz.ntmps194
    go_wp2
    go_ret
    exact ⟨by simp [show ¬ 0 ≤ n by omega], rfl⟩
/-- The length stands in two bytes. -/
def lng (f : Int) : Bool := bits .and .i64 f 16 != 0
def lsz (f : Int) : Nat := if lng f then 2 else 1
theorem lsz_12 (f : Int) : lsz f = 1 ∨ lsz f = 2 := by unfold lsz; split <;> simp
theorem lengthSize_is (w : World) (f : Int) : Calls Tryz.prog 156 #[.int .i64 f] w fun e w' => e = .returned (.int .i64 (lsz f : Nat)) ∧ w = w' := by
  cases h : bits .and .i64 f 16 != 0
  · have H := Lib.hid h
    go_enter Tryz.func156, Tryz.ntmps156
    go_wp2
    go_ret
    exact ⟨by unfold lsz lng; rw [H.out]; rfl, rfl⟩
  · have H := Lib.hid h
    go_enter Tryz.func156, Tryz.ntmps156
    go_wp2
    go_ret
    exact ⟨by unfold lsz lng; rw [H.out]; rfl, rfl⟩
/-- Of a kind that is not known. -/
def unk (f : Int) : Int := if bits .and .i64 f 128 == 0 then 3 else 0
theorem judgeUnknown_is (w : World) (f : Int) : Calls Tryz.prog 209 #[.int .i64 f] w fun e w' => e = .returned (.int .i64 (unk f)) ∧ w = w' := by
  cases h : bits .and .i64 f 128 == 0
  · have H := Lib.hid h
    go_enter Tryz.func209, Tryz.ntmps209
    go_wp2
    go_ret
    exact ⟨by unfold unk; rw [H.out]; rfl, rfl⟩
  · have H := Lib.hid h
    go_enter Tryz.func209, Tryz.ntmps209
    go_wp2
    go_ret
    exact ⟨by unfold unk; rw [H.out]; rfl, rfl⟩
end Go.Proofs.YtdgoeibfggjbmaaGreatDoor
namespace Go.Proofs.YtdgoeibfggjbmaaGreatDoor
open Go.RowKit
set_option maxRecDepth 100000
set_option linter.unusedSimpArgs false
set_option linter.unusedVariables false

/-- An attribute: flags, kind, value. -/
abbrev Raw := Int × Int × List Int
/-- The attribute that bytes begin with, and how many bytes it takes. -/
def one (r : List Int) : Option (Raw × Nat) :=
  if 2 + lsz (r.getD 0 0) ≤ r.length then
    if 2 + lsz (r.getD 0 0) + (numOf ((r.drop 2).take (lsz (r.getD 0 0)))).toNat ≤ r.length then
      some ((r.getD 0 0, r.getD 1 0, (r.drop (2 + lsz (r.getD 0 0))).take (numOf ((r.drop 2).take (lsz (r.getD 0 0)))).toNat), 2 + lsz (r.getD 0 0) + (numOf ((r.drop 2).take (lsz (r.getD 0 0)))).toNat)
    else none
  else none
def spl : Nat → List Int → Option (List Raw)
  | 0, _ => some []
  | m + 1, r => if r = [] then some [] else match one r with
    | none => none
    | some (x, k) => (spl m (r.drop k)).map (x :: ·)
/-- The attributes that stand in bytes. -/
def split (l : List Int) : Option (List Raw) := spl l.length l

theorem one_pos {r : List Int} {x : Raw} {k : Nat} (h : one r = some (x, k)) : 3 ≤ k ∧ k ≤ r.length := by
  unfold one at h
  split at h
  · split at h
    · injection h with h
      injection h with _ h
      rcases lsz_12 (r.getD 0 0) with e | e <;> omega
    · cases h
  · cases h
theorem spl_nil (m : Nat) : spl m [] = some [] := by cases m <;> rfl
theorem spl_none {m : Nat} {r : List Int} (h0 : r ≠ []) (h : one r = none) : spl (m + 1) r = none := by simp [spl, h0, h]
theorem spl_some {m : Nat} {r : List Int} {x : Raw} {k : Nat} (h0 : r ≠ []) (h : one r = some (x, k)) : spl (m + 1) r = (spl m (r.drop k)).map (x :: ·) := by simp [spl, h0, h]

theorem num_ok' (l : List Int) (at_ k : Nat) (hk : 1 ≤ k) (h8 : k ≤ 8) (h : at_ + k ≤ l.length) : numVal l at_ 0 k = numOf ((l.drop at_).take k) ∧ numAt l at_ 0 k = at_ + k ∧ numErr l at_ 0 k = 0 := by
  have hok : numOk (k : Int) := ⟨by omega, by omega⟩
  refine ⟨?_, ?_, ?_⟩
  · unfold numVal stepTook; rw [if_pos hok, if_pos (by omega)]; rfl
  · unfold numAt stepAt; rw [if_pos hok, if_pos (by omega)]; rfl
  · unfold numErr stepErr; rw [if_pos hok, if_pos rfl, if_neg (by omega), if_neg (by omega)]
theorem num_no' (l : List Int) (at_ k : Nat) (hk : 1 ≤ k) (h8 : k ≤ 8) (h : ¬ at_ + k ≤ l.length) : numVal l at_ 0 k = 0 ∧ numAt l at_ 0 k = at_ ∧ numErr l at_ 0 k = 3 := by
  have hok : numOk (k : Int) := ⟨by omega, by omega⟩
  refine ⟨?_, ?_, ?_⟩
  · unfold numVal stepTook; rw [if_pos hok, if_neg (by omega)]; rfl
  · unfold numAt stepAt; rw [if_pos hok, if_neg (by omega)]
  · unfold numErr stepErr; rw [if_pos hok, if_pos rfl, if_neg (by omega), if_pos (by omega)]

/-- What a cursor reads of one attribute: flags, kind, length, and where it then is. -/
structure Nx where
  f : Int
  k : Int
  n : Int
  a : Nat
  e : Int
def nx (l : List Int) (at_ : Nat) : Nx :=
  let f := numVal l at_ 0 1
  let a1 := numAt l at_ 0 1
  let e1 := numErr l at_ 0 1
  let k := numVal l a1 e1 1
  let a2 := numAt l a1 e1 1
  let e2 := numErr l a1 e1 1
  ⟨f, k, numVal l a2 e2 (lsz f : Nat), numAt l a2 e2 (lsz f : Nat), numErr l a2 e2 (lsz f : Nat)⟩
theorem numOf_one (l : List Int) (at_ : Nat) (h : at_ < l.length) : numOf ((l.drop at_).take 1) = l.getD at_ 0 := by
  rw [List.drop_eq_getElem_cons h, List.take_succ_cons, List.take_zero]
  simp [numOf, List.getD, h]
theorem drop_getD (l : List Int) (a i : Nat) : (l.drop a).getD i 0 = l.getD (a + i) 0 := by simp [List.getD]
theorem nx_ok (l : List Int) (at_ : Nat) (x : Raw) (m : Nat) (ho : Oct l) (hle : at_ ≤ l.length) (h : one (l.drop at_) = some (x, m)) :
    (nx l at_).f = x.1 ∧ (nx l at_).k = x.2.1 ∧ stepTook l (nx l at_).a (nx l at_).e (nx l at_).n = x.2.2 ∧ stepAt l (nx l at_).a (nx l at_).e (nx l at_).n = at_ + m ∧ stepErr l (nx l at_).a (nx l at_).e (nx l at_).n = 0 := by
  unfold one at h
  rw [drop_getD, drop_getD, Nat.add_zero, List.length_drop, List.drop_drop, List.drop_drop] at h
  have hls := lsz_12 (l.getD at_ 0)
  split at h
  · rename_i h1
    split at h
    · rename_i h2
      injection h with h
      injection h with hx hm
      have a1 := num_ok' l at_ 1 (by omega) (by omega) (by omega)
      have a2 := num_ok' l (at_ + 1) 1 (by omega) (by omega) (by omega)
      have a3 := num_ok' l (at_ + 2) (lsz (l.getD at_ 0)) (by omega) (by omega) (by omega)
      rw [numOf_one l at_ (by omega)] at a1
      rw [numOf_one l (at_ + 1) (by omega)] at a2
      have hf : (nx l at_).f = l.getD at_ 0 := a1.1
      have hk : (nx l at_).k = l.getD (at_ + 1) 0 := by
        show numVal l (numAt l at_ 0 (1 : Nat)) (numErr l at_ 0 (1 : Nat)) (1 : Nat) = _
        rw [a1.2.1, a1.2.2]; exact a2.1
      have hr : (nx l at_).n = numOf ((l.drop (at_ + 2)).take (lsz (l.getD at_ 0))) ∧ (nx l at_).a = at_ + 2 + lsz (l.getD at_ 0) ∧ (nx l at_).e = 0 := by
        show numVal l (numAt l (numAt l at_ 0 (1 : Nat)) (numErr l at_ 0 (1 : Nat)) (1 : Nat)) (numErr l (numAt l at_ 0 (1 : Nat)) (numErr l at_ 0 (1 : Nat)) (1 : Nat)) (lsz (numVal l at_ 0 (1 : Nat)) : Nat) = _ ∧ numAt l (numAt l (numAt l at_ 0 (1 : Nat)) (numErr l at_ 0 (1 : Nat)) (1 : Nat)) (numErr l (numAt l at_ 0 (1 : Nat)) (numErr l at_ 0 (1 : Nat)) (1 : Nat)) (lsz (numVal l at_ 0 (1 : Nat)) : Nat) = _ ∧ numErr l (numAt l (numAt l at_ 0 (1 : Nat)) (numErr l at_ 0 (1 : Nat)) (1 : Nat)) (numErr l (numAt l at_ 0 (1 : Nat)) (numErr l at_ 0 (1 : Nat)) (1 : Nat)) (lsz (numVal l at_ 0 (1 : Nat)) : Nat) = _
        rw [a1.1, a1.2.1, a1.2.2, a2.2.1, a2.2.2]
        exact a3
      have hn0 := (numOf_bd ((l.drop (at_ + 2)).take (lsz (l.getD at_ 0))) (fun y hy => ho y (List.mem_of_mem_drop (List.mem_of_mem_take hy)))).1
      rw [hr.1, hr.2.1, hr.2.2, hf, hk, ← hx, ← hm]
      generalize hN : numOf ((l.drop (at_ + 2)).take (lsz (l.getD at_ 0))) = N at *
      refine ⟨rfl, rfl, ?_, ?_, ?_⟩
      · unfold stepTook; rw [if_pos (by omega)]; congr 2; omega
      · unfold stepAt; rw [if_pos (by omega)]; omega
      · unfold stepErr; rw [if_pos rfl, if_neg (by omega), if_neg (by omega)]
    · cases h
  · cases h
theorem nx_no (l : List Int) (at_ : Nat) (ho : Oct l) (hle : at_ ≤ l.length) (h : one (l.drop at_) = none) : stepErr l (nx l at_).a (nx l at_).e (nx l at_).n = 3 := by
  have late3 : ∀ a n, stepErr l a 3 n = 3 := fun a n => late_err l a 3 n (by decide)
  have lateN : ∀ a n, numErr l a 3 n = 3 := fun a n => late_numErr l a 3 n (by decide)
  by_cases h1 : at_ + 1 ≤ l.length
  · have a1 := num_ok' l at_ 1 (by omega) (by omega) (by omega)
    rw [numOf_one l at_ (by omega)] at a1
    by_cases h2 : at_ + 2 ≤ l.length
    · have a2 := num_ok' l (at_ + 1) 1 (by omega) (by omega) (by omega)
      have hls := lsz_12 (l.getD at_ 0)
      by_cases h3 : at_ + 2 + lsz (l.getD at_ 0) ≤ l.length
      · have a3 := num_ok' l (at_ + 2) (lsz (l.getD at_ 0)) (by omega) (by omega) (by omega)
        have hr : (nx l at_).n = numOf ((l.drop (at_ + 2)).take (lsz (l.getD at_ 0))) ∧ (nx l at_).a = at_ + 2 + lsz (l.getD at_ 0) ∧ (nx l at_).e = 0 := by
          show numVal l (numAt l (numAt l at_ 0 (1 : Nat)) (numErr l at_ 0 (1 : Nat)) (1 : Nat)) (numErr l (numAt l at_ 0 (1 : Nat)) (numErr l at_ 0 (1 : Nat)) (1 : Nat)) (lsz (numVal l at_ 0 (1 : Nat)) : Nat) = _ ∧ numAt l (numAt l (numAt l at_ 0 (1 : Nat)) (numErr l at_ 0 (1 : Nat)) (1 : Nat)) (numErr l (numAt l at_ 0 (1 : Nat)) (numErr l at_ 0 (1 : Nat)) (1 : Nat)) (lsz (numVal l at_ 0 (1 : Nat)) : Nat) = _ ∧ numErr l (numAt l (numAt l at_ 0 (1 : Nat)) (numErr l at_ 0 (1 : Nat)) (1 : Nat)) (numErr l (numAt l at_ 0 (1 : Nat)) (numErr l at_ 0 (1 : Nat)) (1 : Nat)) (lsz (numVal l at_ 0 (1 : Nat)) : Nat) = _
          rw [a1.1, a1.2.1, a1.2.2, a2.2.1, a2.2.2]
          exact a3
        have hn0 := (numOf_bd ((l.drop (at_ + 2)).take (lsz (l.getD at_ 0))) (fun y hy => ho y (List.mem_of_mem_drop (List.mem_of_mem_take hy)))).1
        unfold one at h
        rw [drop_getD, drop_getD, Nat.add_zero, List.length_drop, List.drop_drop, List.drop_drop, if_pos (by omega)] at h
        split at h
        · cases h
        · rename_i h4
          rw [hr.1, hr.2.1, hr.2.2]
          generalize hN : numOf ((l.drop (at_ + 2)).take (lsz (l.getD at_ 0))) = N at *
          unfold stepErr
          rw [if_pos rfl, if_neg (by omega), if_pos (by omega)]
      · have a3 := num_no' l (at_ + 2) (lsz (l.getD at_ 0)) (by omega) (by omega) (by omega)
        have he : (nx l at_).e = 3 := by
          show numErr l (numAt l (numAt l at_ 0 (1 : Nat)) (numErr l at_ 0 (1 : Nat)) (1 : Nat)) (numErr l (numAt l at_ 0 (1 : Nat)) (numErr l at_ 0 (1 : Nat)) (1 : Nat)) (lsz (numVal l at_ 0 (1 : Nat)) : Nat) = _
          rw [a1.1, a1.2.1, a1.2.2, a2.2.1, a2.2.2]
          exact a3.2.2
        rw [he]; exact late3 _ _
    · have a2 := num_no' l (at_ + 1) 1 (by omega) (by omega) (by omega)
      have he : (nx l at_).e = 3 := by
        show numErr l (numAt l (numAt l at_ 0 (1 : Nat)) (numErr l at_ 0 (1 : Nat)) (1 : Nat)) (numErr l (numAt l at_ 0 (1 : Nat)) (numErr l at_ 0 (1 : Nat)) (1 : Nat)) (lsz (numVal l at_ 0 (1 : Nat)) : Nat) = _
        rw [a1.1, a1.2.1, a1.2.2, a2.2.1, a2.2.2]
        exact lateN _ _
      rw [he]; exact late3 _ _
  · have a1 := num_no' l at_ 1 (by omega) (by omega) (by omega)
    have he : (nx l at_).e = 3 := by
      show numErr l (numAt l (numAt l at_ 0 (1 : Nat)) (numErr l at_ 0 (1 : Nat)) (1 : Nat)) (numErr l (numAt l at_ 0 (1 : Nat)) (numErr l at_ 0 (1 : Nat)) (1 : Nat)) (lsz (numVal l at_ 0 (1 : Nat)) : Nat) = _
      rw [a1.1, a1.2.1, a1.2.2, lateN]
      exact lateN _ _
    rw [he]; exact late3 _ _
theorem numVal_bd (l : List Int) (at_ : Nat) (err k : Int) (ho : Oct l) (hk : k ≤ 2) : 0 ≤ numVal l at_ err k ∧ numVal l at_ err k ≤ 65535 := by
  unfold numVal
  split
  · unfold stepTook
    split
    · have hb := numOf_bd ((l.drop at_).take k.toNat) (fun y hy => ho y (List.mem_of_mem_drop (List.mem_of_mem_take hy)))
      have hl : ((l.drop at_).take k.toNat).length ≤ 2 := by simp; omega
      generalize ((l.drop at_).take k.toNat) = q at *
      have : (256 : Int) ^ q.length ≤ 65536 := by
        match h : q.length, hl with
        | 0, _ => decide
        | 1, _ => decide
        | 2, _ => decide
      omega
    · simp [numOf]
  · simp
end Go.Proofs.YtdgoeibfggjbmaaGreatDoor
namespace Go.Proofs.YtdgoeibfggjbmaaGreatDoor
open Go.RowKit
set_option maxRecDepth 100000
set_option linter.unusedSimpArgs false
set_option linter.unusedVariables false

theorem info_raw : (Tryz.prog.info? 67).map (fun i => (i.zero, i.size, i.bytes)) = some (some (.agg #[.int .i64 0, .int .i64 0, .slice none 0 0]), 3, 40) := by kernel_rfl
theorem row_ne {w : World} {i j : Nat} {t u : TypeId} {a b : Array Value} (h : w.heap[i]? = some (.cells a t (0, 0))) (k : w.heap[j]? = some (.cells b u (0, 0))) (hne : t ≠ u) : i ≠ j := by
  rintro rfl
  rw [h] at k
  injection k with k
  injection k with _ k
  exact hne k
theorem own_keep {w w' : World} {base : Nat} {e : TypeId} {size n : Nat} {v : Value} {xs : List Value} (h : w.ownsRow base e size v n xs) (hk : ∀ i c, w.heap[i]? = some (.cells c e (0, 0)) → base ≤ i → v.ownBlock = some i → w'.heap[i]? = w.heap[i]?) : w'.ownsRow base e size v n xs := by
  refine ⟨h.1, h.2.imp id ?_⟩
  rintro ⟨i, cap, cur, rfl, hb, hi, rest⟩
  exact ⟨i, cap, cur, rfl, hb, (hk i cur hi hb rfl).trans hi, rest⟩
theorem own_heap {w : World} {base : Nat} {e : TypeId} {size n : Nat} {v : Value} {xs : List Value} (h : w.ownsRow base e size v n xs) {j : Nat} (hj : v.ownBlock = some j) : ∃ c, w.heap[j]? = some (.cells c e (0, 0)) := by
  rcases h.2 with ⟨rfl, _⟩ | ⟨i, cap, cur, rfl, _, hh, _⟩
  · cases hj
  · injection hj with hj
    subst hj
    exact ⟨cur, hh⟩
theorem own_low {w : World} {base base' : Nat} {e : TypeId} {size n : Nat} {v : Value} {xs : List Value} (h : w.ownsRow base e size v n xs) (hb : base' ≤ base) : w.ownsRow base' e size v n xs := by
  refine ⟨h.1, h.2.imp id ?_⟩
  rintro ⟨i, cap, cur, rfl, hb', rest⟩
  exact ⟨i, cap, cur, rfl, by omega, rest⟩

theorem rsz : (Tryz.prog.info? 67).map (·.size) = some 3 := by kernel_rfl
theorem raw_store {ops : Array Oper} {rest : List Oper} {o : Oper} {a : Act} {w : World} {Q : Exit → Act → World → Prop} (hgd : o.guard = none) (x y : Operand) (ho : o.op = .store 67 x y) (g : Nat) (f k : Int) (A : Option Addr) (n c : Nat)
    (hx : a.eval x = .pointer (some ⟨g, 0, none⟩)) (hy : a.eval y = .agg #[.int .i64 f, .int .i64 k, .slice A n c]) (t : TypeId) (old : Array Value) (hg : Blk w g t old) (hold : old.size = 3)
    (h : wpList Tryz.prog ops Q rest (a.put o.dst undef) (w.setRow g #[.int .i64 f, .int .i64 k, .slice A n c])) : wpList Tryz.prog ops Q (o :: rest) a w :=
  wpList_store_row hgd 67 x y ho g _ hx hy t old hg rsz (by rw [hold]; rfl) (by kernel_rfl) h
theorem raw_fetch {ops : Array Oper} {rest : List Oper} {op : Oper} {a : Act} {w : World} {Q : Exit → Act → World → Prop} (hw : Region.wanted op (yielded ops a.tmps) = true) (x : Operand) (ho : op.op = .load 67 x) (b o : Nat) (f k : Int) (A : Option Addr) (n c : Nat)
    (hx : a.eval x = .pointer (some ⟨b, o, none⟩)) (h0 : w.cell? ⟨b, o, none⟩ = some (.int .i64 f)) (h1 : w.cell? ⟨b, o + 1, none⟩ = some (.int .i64 k)) (h2 : w.cell? ⟨b, o + 2, none⟩ = some (.slice A n c))
    (h : wpList Tryz.prog ops Q rest (a.put op.dst (.agg #[.int .i64 f, .int .i64 k, .slice A n c])) w) : wpList Tryz.prog ops Q (op :: rest) a w :=
  BigFrame.wpList_want hw fun _ hK => wp_load_mid 67 x ho b o hx [.int .i64 f, .int .i64 k, .slice A n c] _ (fun j v hv => by
    match j, hv with
    | 0, hv => injection hv with hv; subst hv; exact h0
    | 1, hv => injection hv with hv; subst hv; exact h1
    | 2, hv => injection hv with hv; subst hv; exact h2
    | j + 3, hv => simp at hv) Tryz.underlying67 rfl rsz (hK _ _ h)

/-- The cells of attributes; Bd says how a value lies. -/
structure Rs (Bd : Option Addr → Nat → List Int → Prop) (cs : List Value) (rs : List Raw) : Prop where
  len : cs.length = rs.length * 3
  at_ : ∀ i (h : i < rs.length), cs[i * 3]? = some (.int .i64 rs[i].1) ∧ cs[i * 3 + 1]? = some (.int .i64 rs[i].2.1) ∧ ∃ A n c, cs[i * 3 + 2]? = some (.slice A n c) ∧ Bd A n rs[i].2.2
section
variable {Bd Bd' : Option Addr → Nat → List Int → Prop} {cs cs' : List Value} {rs rs' : List Raw}
theorem Rs.nil_ : Rs Bd [] [] := ⟨rfl, fun i h => absurd h (by simp)⟩
theorem Rs.imp (h : Rs Bd cs rs) (k : ∀ A n l, Bd A n l → Bd' A n l) : Rs Bd' cs rs :=
  ⟨h.len, fun i hi => by
    obtain ⟨h0, h1, A, n, c, h2, h3⟩ := h.at_ i hi
    exact ⟨h0, h1, A, n, c, h2, k _ _ _ h3⟩⟩
theorem Rs.app (h : Rs Bd cs rs) (h' : Rs Bd cs' rs') : Rs Bd (cs ++ cs') (rs ++ rs') := by
  refine ⟨by rw [List.length_append, List.length_append, h.len, h'.len, Nat.add_mul], fun i hi => ?_⟩
  have hl := h.len
  rcases Nat.lt_or_ge i rs.length with hlt | hge
  · obtain ⟨h0, h1, A, n, c, h2, h3⟩ := h.at_ i hlt
    refine ⟨by rw [List.getElem?_append_left (by omega), List.getElem_append_left hlt]; exact h0, by rw [List.getElem?_append_left (by omega), List.getElem_append_left hlt]; exact h1, A, n, c, by rw [List.getElem?_append_left (by omega)]; exact h2, by rw [List.getElem_append_left hlt]; exact h3⟩
  · have hi' : i - rs.length < rs'.length := by rw [List.length_append] at hi; omega
    obtain ⟨h0, h1, A, n, c, h2, h3⟩ := h'.at_ (i - rs.length) hi'
    refine ⟨by rw [List.getElem?_append_right (by omega), List.getElem_append_right hge, ← h0]; congr 1; omega, by rw [List.getElem?_append_right (by omega), List.getElem_append_right hge, ← h1]; congr 1; omega, A, n, c, by rw [List.getElem?_append_right (by omega), ← h2]; congr 1; omega, by rw [List.getElem_append_right hge]; exact h3⟩
theorem Rs.one {f k : Int} {A : Option Addr} {n c : Nat} {b : List Int} (h : Bd A n b) : Rs Bd [.int .i64 f, .int .i64 k, .slice A n c] [(f, k, b)] :=
  ⟨rfl, fun i hi => by
    obtain rfl : i = 0 := by simp at hi; omega
    exact ⟨rfl, rfl, A, n, c, rfl, h⟩⟩
end

/-- A value in new memory (more may stand behind it in its block). -/
def BodyN (lo : Nat) (w : World) (A : Option Addr) (n : Nat) (l : List Int) : Prop :=
  Oct l ∧ l.length = n ∧ (n = 0 ∨ ∃ i e, A = some ⟨i, 0, none⟩ ∧ lo ≤ i ∧ Byt w i 5 (l ++ e) ∧ Oct e)
theorem BodyN.keep {lo : Nat} {w w' : World} {A : Option Addr} {n : Nat} {l : List Int} (h : BodyN lo w A n l) (hk : ∀ i c, w.heap[i]? = some (.cells c 5 (0, 0)) → lo ≤ i → w'.heap[i]? = w.heap[i]?) : BodyN lo w' A n l :=
  ⟨h.1, h.2.1, h.2.2.imp id fun ⟨i, e, a, b, d, f⟩ => ⟨i, e, a, b, (hk i _ d b).trans d, f⟩⟩
theorem BodyN.rd {lo : Nat} {w : World} {A : Option Addr} {n : Nat} {l : List Int} (h : BodyN lo w A n l) : Rd w w.heap.size A n l := by
  obtain ⟨ho, hl, rfl | ⟨g, e, rfl, _, hb, he⟩⟩ := h
  · obtain rfl : l = [] := List.eq_nil_of_length_eq_zero hl
    exact Rd.nil_ A
  · have := hb.rd (fun x hx => (List.mem_append.1 hx).elim (ho x) (he x)) (k := n) (by simp; omega) hb.lt
    rwa [List.take_append_of_le_length (by omega), List.take_of_length_le (by omega)] at this
theorem New.body {lo : Nat} {w w' : World} {A : Option Addr} {n : Nat} {l : List Int} (h : New 5 w w' A n l) (hl : lo ≤ w.heap.size) : BodyN lo w' A n l :=
  ⟨h.1, h.2.1, h.2.2.imp id fun ⟨g, a, b, c⟩ => ⟨g, [], a, by omega, by rw [List.append_nil]; exact c, fun x h => by cases h⟩⟩

/-- Attributes in new memory. -/
def OwnR (lo : Nat) (w : World) (v : Value) (rs : List Raw) : Prop := ∃ cs, w.ownsRow lo 67 3 v rs.length cs ∧ Rs (BodyN lo w) cs rs
theorem OwnR.nil_ (lo : Nat) (w : World) : OwnR lo w (.slice none 0 0) [] := ⟨[], World.ownsRow_nil _ _ _ _, Rs.nil_⟩
theorem OwnR.keep {lo : Nat} {w w' : World} {v : Value} {rs : List Raw} (h : OwnR lo w v rs) (hk : ∀ i c t, w.heap[i]? = some (.cells c t (0, 0)) → lo ≤ i → (t = 67 ∨ t = 5) → w'.heap[i]? = w.heap[i]?) : OwnR lo w' v rs := by
  obtain ⟨cs, h1, h2⟩ := h
  exact ⟨cs, own_keep h1 fun i c hi hb _ => hk i c _ hi hb (.inl rfl), h2.imp fun A n l hb => hb.keep fun i c hi hlo => hk i c _ hi hlo (.inr rfl)⟩
theorem OwnR.below {lo : Nat} {w w' : World} {v : Value} {rs : List Raw} (h : OwnR lo w v rs) (hb : Below w.heap.size w w') : OwnR lo w' v rs :=
  h.keep fun i c t hi _ _ => hb.block i (Array.getElem?_eq_some_iff.1 hi).1
theorem OwnR.low {lo lo' : Nat} {w : World} {v : Value} {rs : List Raw} (h : OwnR lo w v rs) (hl : lo' ≤ lo) : OwnR lo' w v rs := by
  obtain ⟨cs, h1, h2⟩ := h
  exact ⟨cs, own_low h1 hl, h2.imp fun A n l hb => ⟨hb.1, hb.2.1, hb.2.2.imp id fun ⟨i, e, a, b, d⟩ => ⟨i, e, a, by omega, d⟩⟩⟩

/-- A slice of attributes that reads as rs. -/
structure RdR (w : World) (B : Nat) (A : Option Addr) (n : Nat) (rs : List Raw) : Prop where
  len : rs.length = n
  at_ : 0 < n → ∃ b off, A = some ⟨b, off, none⟩ ∧ b < B ∧ ∀ i (h : i < rs.length), ∃ A1 n1 c1, w.cell? ⟨b, off + i * 3, none⟩ = some (.int .i64 rs[i].1) ∧ w.cell? ⟨b, off + i * 3 + 1, none⟩ = some (.int .i64 rs[i].2.1) ∧ w.cell? ⟨b, off + i * 3 + 2, none⟩ = some (.slice A1 n1 c1) ∧ Rd w B A1 n1 rs[i].2.2
theorem RdR.nil_ {w : World} {B : Nat} (A : Option Addr) : RdR w B A 0 [] := ⟨rfl, fun h => absurd h (by omega)⟩
theorem RdR.below {w w' : World} {B n : Nat} {A : Option Addr} {rs : List Raw} (h : RdR w B A n rs) (hb : Below B w w') : RdR w' B A n rs :=
  ⟨h.len, fun hn => by
    obtain ⟨b, off, e, hlt, hc⟩ := h.at_ hn
    refine ⟨b, off, e, hlt, fun i hi => ?_⟩
    obtain ⟨A1, n1, c1, h0, h1, h2, h3⟩ := hc i hi
    exact ⟨A1, n1, c1, (hb.cell (p := ⟨b, off + i * 3, none⟩) hlt).trans h0, (hb.cell (p := ⟨b, off + i * 3 + 1, none⟩) hlt).trans h1, (hb.cell (p := ⟨b, off + i * 3 + 2, none⟩) hlt).trans h2, h3.below hb⟩⟩
theorem RdR.more {w : World} {B B' n : Nat} {A : Option Addr} {rs : List Raw} (h : RdR w B A n rs) (hb : B ≤ B') : RdR w B' A n rs :=
  ⟨h.len, fun hn => by
    obtain ⟨b, off, e, hlt, hc⟩ := h.at_ hn
    refine ⟨b, off, e, by omega, fun i hi => ?_⟩
    obtain ⟨A1, n1, c1, h0, h1, h2, h3⟩ := hc i hi
    exact ⟨A1, n1, c1, h0, h1, h2, h3.more hb⟩⟩
theorem OwnR.rd {lo : Nat} {w : World} {v : Value} {rs : List Raw} (h : OwnR lo w v rs) : ∃ A c, v = .slice A rs.length c ∧ RdR w w.heap.size A rs.length rs := by
  obtain ⟨cs, h1, h2⟩ := h
  rcases h1.2 with ⟨rfl, hn⟩ | ⟨g, cap, cur, rfl, hb, hg, hnc, hcm, hcs, hx⟩
  · exact ⟨none, 0, by rw [hn], ⟨rfl, fun hp => by omega⟩⟩
  · refine ⟨_, cap, rfl, ⟨rfl, fun _ => ⟨g, 0, rfl, (Array.getElem?_eq_some_iff.1 hg).1, fun i hi => ?_⟩⟩⟩
    have hcell : ∀ j u, cs[j]? = some u → w.cell? ⟨g, j, none⟩ = some u := by
      intro j u hu
      rw [← hx, List.getElem?_take] at hu
      split at hu
      · simp only [World.cell?, hg]
        rw [← Array.getElem?_toList]
        exact hu
      · cases hu
    obtain ⟨k0, k1, A1, n1, c1, k2, k3⟩ := h2.at_ i hi
    refine ⟨A1, n1, c1, ?_, ?_, ?_, k3.rd⟩
    · rw [Nat.zero_add]; exact hcell _ _ k0
    · rw [Nat.zero_add]; exact hcell _ _ k1
    · rw [Nat.zero_add]; exact hcell _ _ k2

/-- append of one attribute (its value in new memory). -/
theorem app_raw_wp {o : Oper} {a : Act} {K : Act → World → Prop} {Q : Exit → Act → World → Prop} (s x : Operand)
    (ho : o.op = .call { callee := .builtin .append, args := #[s, x], argTypes := #[64, 64] }) {lo : Nat} {w : World} {v : Value} {T : List Raw} (h : OwnR lo w v T) (hlo : lo ≤ w.heap.size) (hlen : T.length ≤ 3000000000000)
    {f k : Int} {A : Option Addr} {n c : Nat} {body : List Int} (hb : BodyN lo w A n body) (hs : a.eval s = v) (hx : a.eval x = .slice (some ⟨w.heap.size, 0, none⟩) 1 1)
    (hk : ∀ v' w', OwnR lo w' v' (T ++ [(f, k, body)]) → w.grownBy w' v.ownBlock → (∀ i, v.ownBlock = some i → lo ≤ i ∧ ∃ c, w.heap[i]? = some (.cells c 67 (0, 0))) → K (a.put o.dst v') w') :
    o.wp Tryz.prog a (w.alloc (.cells #[.int .i64 f, .int .i64 k, .slice A n c] 67)) K Q := by
  obtain ⟨i, hi, hz0, hz1, hz2⟩ := info_parts info_raw
  obtain ⟨cs, h1, h2⟩ := h
  have hB := Blk.new w 67 #[.int .i64 f, .int .i64 k, .slice A n c]
  obtain ⟨v', w', hrun, hown, hgr, _, _⟩ := run_append_own_at (P := Tryz.prog) (w.alloc (.cells #[.int .i64 f, .int .i64 k, .slice A n c] 67)) lo 64 o.type 67 i _ 3 40 Tryz.underlying64 hi hz0 hz1 hz2 rfl (by decide) v T.length cs (h1.alloc _) ⟨w.heap.size, 0, none⟩ 1 1 [.int .i64 f, .int .i64 k, .slice A n c] rfl (by
      intro j u hu
      rw [show ((⟨w.heap.size, 0, none⟩ : Addr).add j) = ⟨w.heap.size, j, none⟩ from by unfold Addr.add; split <;> simp_all, hB.cell]
      simpa using hu) (by
      intro u hu
      simp only [List.mem_cons, List.mem_nil_iff, or_false] at hu
      rcases hu with rfl | rfl | rfl <;> rfl) (by unfold maxLen; omega) (by omega) (by simp; omega)
  have hold : ∀ i, v.ownBlock = some i → lo ≤ i ∧ ∃ c, w.heap[i]? = some (.cells c 67 (0, 0)) := fun i hi => ⟨(h1.lt i hi).1, own_heap h1 hi⟩
  have hg2 : w.grownBy w' v.ownBlock := ⟨hgr.os, hgr.tape, hgr.output, Nat.le_trans (by simp) hgr.size, fun j hj hne => (hgr.block j (by simp; omega) hne).trans (Below.heap_alloc _ _ _ hj)⟩
  have hkeep : ∀ A n l, BodyN lo w A n l → BodyN lo w' A n l := fun A n l hb => hb.keep fun j c hj _ => hg2.block j (Array.getElem?_eq_some_iff.1 hj).1 (fun e => by
    obtain ⟨_, c', hc'⟩ := hold j e.symm
    exact row_ne hj hc' (by decide) rfl)
  unfold Oper.wp execOp
  simp only [ho, resolve, invoke, builtin, Sem.run_bind, Sem.run_pure, Result.andThen_ok, List.map_toArray, List.map_cons, List.map_nil, hs, hx, hrun]
  exact hk v' w' ⟨_, by simpa using hown, (h2.imp hkeep).app (Rs.one (hkeep _ _ _ hb))⟩ hg2 hold
theorem app_raw {ops : Array Oper} {rest : List Oper} {o : Oper} {a : Act} {Q : Exit → Act → World → Prop} (hgd : o.guard = none) (s x : Operand)
    (ho : o.op = .call { callee := .builtin .append, args := #[s, x], argTypes := #[64, 64] }) {lo : Nat} {w : World} {v : Value} {T : List Raw} (h : OwnR lo w v T) (hlo : lo ≤ w.heap.size) (hlen : T.length ≤ 3000000000000)
    {f k : Int} {A : Option Addr} {n c : Nat} {body : List Int} (hb : BodyN lo w A n body) (hs : a.eval s = v) (hx : a.eval x = .slice (some ⟨w.heap.size, 0, none⟩) 1 1)
    (hk : ∀ v' w', OwnR lo w' v' (T ++ [(f, k, body)]) → w.grownBy w' v.ownBlock → (∀ i, v.ownBlock = some i → lo ≤ i ∧ ∃ c, w.heap[i]? = some (.cells c 67 (0, 0))) → wpList Tryz.prog ops Q rest (a.put o.dst v') w') :
    wpList Tryz.prog ops Q (o :: rest) a (w.alloc (.cells #[.int .i64 f, .int .i64 k, .slice A n c] 67)) :=
  wpList_plain hgd fun _ hK => app_raw_wp s x ho h hlo hlen hb hs hx fun v' w' h1 h2 h3 => hK _ _ (hk v' w' h1 h2 h3)
end Go.Proofs.YtdgoeibfggjbmaaGreatDoor
namespace Go.Proofs.YtdgoeibfggjbmaaGreatDoor
open Go.RowKit Go.ChangeShapes Go.WideShapes Go.ChangeAt
set_option maxRecDepth 100000
set_option linter.unusedVariables false

/-- A row that lists variables, its world's shape kept. -/
theorem wrap_rows {H : Type} {enc : TypeId × Value → H} {a : Assume} {C : Checked} {os : Os} {f : FuncId} {fn : Func} {s : ChangeSpec} {conds : List PathCond} {apart fresh handsOn again : Bool} {X : World → Array Value → Prop}
    (hX : ∀ (w w' : World) (args : Array Value), w.heap = w'.heap → X w args → X w' args)
    (own : ownKnob C.prog.godebug = none) (started : os.Started) (noInit : C.prog.inits.idxOf? f = none) (hfn : C.prog.funcs[f]? = some fn)
    (witness : ∃ (w : World) (tape : Tape) (i : Input), w.os = os ∧ (w.forCall tape i).Shaped C.prog ∧ i.vars = [] ∧ Input.okWide C.prog (w.forCall tape i) .any w.heap.size f i ∧
      ((s.pre enc C.prog fn conds apart (w.forCall tape i).memory i.args ∧ X (w.forCall tape i).memory i.args) ∧ sizedMet enc C.prog fn (OpenSpec.ofChange s) apart (w.forCall tape i).memory i.args) ∧ a.holds C.prog (lone (Frame.enter C.prog f i.args .normal) [] (w.forCall tape i)))
    (walk : ∀ (W : World) (base : Nat) (args : Array Value) (ds gs : List (DataW H)) (before : List MemPlace),
      (∀ (j : Nat) t v, fn.params[j]? = some t → args[j]? = some v → Value.okWide C.prog W .any base t v) →
      DataW.Whole enc C.prog fn.params.toList s.vars apart W args.toList ds gs before →
      (DataW.weightsEach C.prog (fn.params.toList ++ s.plain.varTypes C.prog) (ds ++ gs)).all (· ≤ reachBytes) = true → X W args → W.ShapedOpen C.prog →
      Calls C.prog f args W fun e W' => ∃ v, e = .returned v ∧ s.post enc C.prog fn apart fresh handsOn again W args v W') :
    ReturnsInHanded a C os f .any (fun w args => (s.pre enc C.prog fn conds apart w args ∧ X w args) ∧ sizedMet enc C.prog fn (OpenSpec.ofChange s) apart w args) (s.post enc C.prog fn apart fresh handsOn again) := by
  refine returnsInHanded_of_calls own started noInit witness ?_
  rintro w tape i _ shape _ ⟨_, _, _, g, hg, _, _, _, _, vals⟩ ⟨⟨⟨ds, gs, before, hw, hc⟩, hx⟩, hz⟩ _
  obtain rfl : g = fn := Option.some.inj (hg.symm.trans hfn)
  refine (walk (w.forCall tape i) w.heap.size i.args ds gs before vals (DataW.Whole.of_heap (w' := w.forCall tape i) (by rfl) hw) (hz.weights hw) (hX _ _ _ (by rfl) hx) shape).mono ?_
  rintro e W' ⟨v, rfl, hp⟩
  exact ChangeSpec.post_blind hp

end Go.Proofs.YtdgoeibfggjbmaaGreatDoor
namespace Go.Proofs.YtdgoeibfggjbmaaGreatDoor
open Go.RowKit Go.ChangeShapes Go.WideShapes Go.Deep
set_option maxRecDepth 100000

section
variable {H : Type} {enc : TypeId × Value → H} {P : Program} {W : World}

theorem lt_of_cell {w : World} {a : Addr} {v : Value} (h : w.cell? a = some v) : a.block < w.heap.size := by
  rcases Nat.lt_or_ge a.block w.heap.size with h1 | h1
  · exact h1
  · simp [World.cell?, Array.getElem?_eq_none h1] at h

theorem addr_add (b off i : Nat) : (⟨b, off, none⟩ : Addr).add i = ⟨b, off + i, none⟩ := by unfold Addr.add; split <;> simp_all

end
end Go.Proofs.YtdgoeibfggjbmaaGreatDoor
namespace Go.Proofs.YtdgoeibfggjbmaaGreatDoor
open Go.RowKit
set_option maxRecDepth 100000

/-- A slice of ints that reads as xs. -/
structure RdI (w : World) (B : Nat) (A : Option Addr) (n : Nat) (xs : List Int) : Prop where
  len : xs.length = n
  at_ : 0 < n → ∃ b off, A = some ⟨b, off, none⟩ ∧ b < B ∧ ∀ i, i < n → w.cell? ⟨b, off + i, none⟩ = some (.int .i64 (xs.getD i 0))
theorem RdI.below {w w' : World} {B n : Nat} {A : Option Addr} {xs : List Int} (h : RdI w B A n xs) (hb : Below B w w') : RdI w' B A n xs :=
  ⟨h.len, fun hn => by
    obtain ⟨b, off, e, hlt, hc⟩ := h.at_ hn
    exact ⟨b, off, e, hlt, fun i hi => (hb.cell (p := ⟨b, off + i, none⟩) hlt).trans (hc i hi)⟩⟩


/-- A slice of slices of bytes that reads as ls, each with its capacity. -/
structure RdB (w : World) (B : Nat) (A : Option Addr) (n : Nat) (ls : List (List Int)) : Prop where
  len : ls.length = n
  at_ : 0 < n → ∃ b off, A = some ⟨b, off, none⟩ ∧ b < B ∧ ∀ i (h : i < ls.length), ∃ A1 n1 c1, w.cell? ⟨b, off + i, none⟩ = some (.slice A1 n1 c1) ∧ Rd w B A1 n1 ls[i] ∧ n1 ≤ c1
theorem RdB.below {w w' : World} {B n : Nat} {A : Option Addr} {ls : List (List Int)} (h : RdB w B A n ls) (hb : Below B w w') : RdB w' B A n ls :=
  ⟨h.len, fun hn => by
    obtain ⟨b, off, e, hlt, hc⟩ := h.at_ hn
    refine ⟨b, off, e, hlt, fun i hi => ?_⟩
    obtain ⟨A1, n1, c1, h1, h2, h3⟩ := hc i hi
    exact ⟨A1, n1, c1, (hb.cell (p := ⟨b, off + i, none⟩) hlt).trans h1, h2.below hb, h3⟩⟩
end Go.Proofs.YtdgoeibfggjbmaaGreatDoor
namespace Go.Proofs.YtdgoeibfggjbmaaGreatDoor
open Go.RowKit Go.ChangeShapes Go.WideShapes Go.Deep Go.Joins
set_option maxRecDepth 100000

section
variable {H : Type} {enc : TypeId × Value → H} {P : Program} {W : World}

end
end Go.Proofs.YtdgoeibfggjbmaaGreatDoor
namespace Go.Proofs.YtdgoeibfggjbmaaGreatDoor
open Go.RowKit Go.ChangeShapes Go.WideShapes Go.ChangeAt Go.Deep Go.Joins
set_option maxRecDepth 100000
set_option linter.unusedVariables false

def laidK : List (String × DataW Unit) := [("weft/attr.known", Rows.laid_weft_attr_known)]
theorem get_drop {cs : List Value} {a k r : Nat} {v : Value} (hr : r < k) (h : ((cs.drop a).take k)[r]? = some v) : cs[a + r]? = some v := by
  rw [List.getElem?_take, if_pos hr, List.getElem?_drop] at h
  exact h
theorem known_row {W : World} {fuel : Nat} {cs : List Value} {d : DataW Unit} {p : List MemPlace} {a b c : Int} {f0 f1 f2 : Field} (he : Tryz.prog.underlying 217 = some (.struct #[f0, f1, f2])) (o : (f0.offset, f1.offset, f2.offset, Tryz.prog.cellsOf f0.type, Tryz.prog.cellsOf f1.type, Tryz.prog.cellsOf f2.type) = (0, 1, 2, 1, 1, 1))
    (k0 : Tryz.prog.underlying f0.type = some (.int .i64)) (k1 : Tryz.prog.underlying f1.type = some (.int .i64)) (k2 : Tryz.prog.underlying f2.type = some (.int .i64))
    (h : DataW.trod (fun _ => ()) Tryz.prog W 0 (fun _ => true) false fuel 217 cs = some (d, p)) (hd : d = .agg [.lit (.int .i64 a), .lit (.int .i64 b), .lit (.int .i64 c)]) : cs[0]? = some (.int .i64 a) ∧ cs[1]? = some (.int .i64 b) ∧ cs[2]? = some (.int .i64 c) := by
  simp only [Prod.mk.injEq] at o
  obtain ⟨o0, o1, o2, o3, o4, o5⟩ := o
  obtain ⟨y0, y1, y2, n, hx, hl, h0, h1, h2⟩ := trod_struct3 he h
  rw [o0, o3] at h0
  rw [o1, o4] at h1
  rw [o2, o5] at h2
  obtain ⟨z0, e0, e0', _⟩ := DataW.trod_int k0 h0
  obtain ⟨z1, e1, e1', _⟩ := DataW.trod_int k1 h1
  obtain ⟨z2, e2, e2', _⟩ := DataW.trod_int k2 h2
  simp only [Prod.mk.injEq] at hx
  rw [hx.1, e0', e1', e2'] at hd
  simp only [DataW.agg.injEq, List.cons.injEq, DataW.lit.injEq, Lit.int.injEq, true_and, and_true] at hd
  obtain ⟨rfl, rfl, rfl⟩ := hd
  refine ⟨?_, ?_, ?_⟩
  · have := get_drop (cs := cs) (a := 0) (k := 1) (r := 0) (v := .int .i64 z0) (by omega) (by rw [e0]; rfl); simpa using this
  · have := get_drop (cs := cs) (a := 1) (k := 1) (r := 0) (v := .int .i64 z1) (by omega) (by rw [e1]; rfl); simpa using this
  · have := get_drop (cs := cs) (a := 2) (k := 1) (r := 0) (v := .int .i64 z2) (by omega) (by rw [e2]; rfl); simpa using this
theorem tri_range {w : World} {b : Nat} {f : Nat → Value × Value × Value} : ∀ n, (∀ i, i < n → w.cell? ⟨b, i * 3, none⟩ = some (f i).1 ∧ w.cell? ⟨b, i * 3 + 1, none⟩ = some (f i).2.1 ∧ w.cell? ⟨b, i * 3 + 2, none⟩ = some (f i).2.2) → ((List.range n).flatMap fun i => [(f i).1, (f i).2.1, (f i).2.2]).length = n * 3 ∧ w.rangeAt b 0 ((List.range n).flatMap fun i => [(f i).1, (f i).2.1, (f i).2.2])
  | 0, _ => ⟨rfl, fun j v hv => by simp at hv⟩
  | n + 1, h => by
    obtain ⟨hl, ih⟩ := tri_range n (fun i hi => h i (by omega))
    obtain ⟨h0, h1, h2⟩ := h n (by omega)
    rw [List.range_succ, List.flatMap_append]
    refine ⟨by rw [List.length_append, hl]; simp; omega, fun j v hv => ?_⟩
    rcases Nat.lt_or_ge j (n * 3) with hj | hj
    · rw [List.getElem?_append_left (by omega)] at hv
      exact ih j v hv
    · rw [List.getElem?_append_right (by omega), hl] at hv
      simp only [List.flatMap_cons, List.flatMap_nil, List.append_nil] at hv
      obtain ⟨r, rfl⟩ : ∃ r, j = n * 3 + r := ⟨j - n * 3, by omega⟩
      rw [Nat.add_sub_cancel_left] at hv
      match r, hv with
      | 0, hv => injection hv with hv; subst hv; simpa using h0
      | 1, hv => injection hv with hv; subst hv; simpa using h1
      | 2, hv => injection hv with hv; subst hv; simpa using h2
      | r + 3, hv => simp at hv
theorem laid_at : ∀ i, i < 13 → ∃ d, (match (Rows.laid_weft_attr_known : DataW Unit) with | .agg l => l[i]? | _ => none) = some d ∧ d = .agg [.lit (.int .i64 (kAt i).1), .lit (.int .i64 (kAt i).2.1), .lit (.int .i64 (kAt i).2.2)]
  | 0, _ => ⟨_, rfl, rfl⟩ | 1, _ => ⟨_, rfl, rfl⟩ | 2, _ => ⟨_, rfl, rfl⟩ | 3, _ => ⟨_, rfl, rfl⟩ | 4, _ => ⟨_, rfl, rfl⟩ | 5, _ => ⟨_, rfl, rfl⟩ | 6, _ => ⟨_, rfl, rfl⟩ | 7, _ => ⟨_, rfl, rfl⟩ | 8, _ => ⟨_, rfl, rfl⟩ | 9, _ => ⟨_, rfl, rfl⟩
  | 10, _ => ⟨_, rfl, rfl⟩ | 11, _ => ⟨_, rfl, rfl⟩ | 12, _ => ⟨_, rfl, rfl⟩ | i + 13, h => absurd h (by omega)
theorem envK_of {W : World} (hL : laidMet Tryz.prog laidK W) : EnvK W := by
  obtain ⟨ps, ⟨g', t', cs, fuel, p, q, hg', ht', hvar, hd, _, _⟩, _⟩ := hL
  obtain rfl : g' = 0 := (Option.some.inj ((show Tryz.prog.globalNamed "weft/attr.known" = some 0 by kernel_rfl).symm.trans hg')).symm
  obtain rfl : t' = 247 := (Option.some.inj ((show (Tryz.prog.globals[0]?).map (·.type) = some 247 by kernel_rfl).symm.trans ht')).symm
  have hcell := fun i => World.var?_cell hg' hvar i
  obtain ⟨xs, m, hf, hx, hl, hxl, hat⟩ := DataW.trod_array Tryz.underlying247 hd
  simp only [Prod.mk.injEq] at hx
  have hce : Tryz.prog.cellsOf 217 = 3 := by kernel_rfl
  have each : ∀ i, i < 13 → W.cell? ⟨0, i * 3, none⟩ = some (.int .i64 (kAt i).1) ∧ W.cell? ⟨0, i * 3 + 1, none⟩ = some (.int .i64 (kAt i).2.1) ∧ W.cell? ⟨0, i * 3 + 2, none⟩ = some (.int .i64 (kAt i).2.2) := by
    intro i hi
    have h1 := hat i hi
    rw [List.getElem?_eq_getElem (by omega), hce] at h1
    obtain ⟨d, hd1, hd2⟩ := laid_at i hi
    have hxi : (xs[i]'(by omega)).1 = d := by
      rw [hx.1] at hd1
      simp only [List.getElem?_map, List.getElem?_eq_getElem (show i < xs.length by omega), Option.map_some, Option.some.injEq] at hd1
      exact hd1
    obtain ⟨c0, c1, c2⟩ := known_row Tryz.underlying217 (by kernel_rfl) Tryz.underlying3 Tryz.underlying3 Tryz.underlying3 (d := (xs[i]'(by omega)).1) (p := (xs[i]'(by omega)).2) h1 (hxi.trans hd2)
    have g0 := get_drop (r := 0) (by omega) c0
    have g1 := get_drop (r := 1) (by omega) c1
    have g2 := get_drop (r := 2) (by omega) c2
    refine ⟨?_, ?_, ?_⟩
    · rw [hcell, ← Array.getElem?_toList]; exact g0
    · rw [hcell, ← Array.getElem?_toList]; exact g1
    · rw [hcell, ← Array.getElem?_toList]; exact g2
  have hr := (tri_range (w := W) (b := 0) (f := fun i => (.int .i64 (kAt i).1, .int .i64 (kAt i).2.1, .int .i64 (kAt i).2.2)) 13 each).2
  exact ⟨hr, World.block_lt_of_cell? W _ (each 0 (by omega)).1⟩

section
variable {H : Type} {enc : TypeId × Value → H} {P : Program} {W : World}
end
end Go.Proofs.YtdgoeibfggjbmaaGreatDoor
namespace Go.Proofs.YtdgoeibfggjbmaaGreatDoor
open Go.RowKit Go.ChangeShapes Go.WideShapes Go.Deep Go.Joins
set_option maxRecDepth 100000

section
variable {H : Type} {enc : TypeId × Value → H} {P : Program} {W : World}
end
end Go.Proofs.YtdgoeibfggjbmaaGreatDoor
namespace Go.Proofs.YtdgoeibfggjbmaaGreatDoor
open Go.RowKit Go.ChangeShapes Go.WideShapes Go.ChangeAt Go.Deep Go.Joins
set_option maxRecDepth 100000
set_option linter.unusedVariables false

section
variable {H : Type} {enc : TypeId × Value → H} {P : Program} {W : World}
end
end Go.Proofs.YtdgoeibfggjbmaaGreatDoor
namespace Go.Proofs.YtdgoeibfggjbmaaGreatDoor
open Go.RowKit
set_option maxRecDepth 100000
set_option linter.unusedSimpArgs false
set_option linter.unusedVariables false

abbrev u32c (l : List Int) : List Value := l.map (Value.int .u32)
theorem one_u32 (l : List Int) : ∀ v ∈ u32c l, v.oneCell' = true := by
  intro v hv
  obtain ⟨x, _, rfl⟩ := List.mem_map.1 hv
  rfl
/-- A slice of numbers that reads as l. -/
structure RdN (w : World) (B : Nat) (A : Option Addr) (n : Nat) (l : List Int) : Prop where
  len : l.length = n
  at_ : 0 < n → ∃ b off, A = some ⟨b, off, none⟩ ∧ b < B ∧ ∀ i, i < n → w.cell? ⟨b, off + i, none⟩ = some (.int .u32 (l.getD i 0))
theorem RdN.nil_ {w : World} {B : Nat} (A : Option Addr) : RdN w B A 0 [] := ⟨rfl, fun h => absurd h (by omega)⟩
theorem RdN.below {w w' : World} {B n : Nat} {A : Option Addr} {l : List Int} (h : RdN w B A n l) (hb : Below B w w') : RdN w' B A n l :=
  ⟨h.len, fun hn => by
    obtain ⟨b, off, e, hlt, hc⟩ := h.at_ hn
    exact ⟨b, off, e, hlt, fun i hi => (hb.cell (p := ⟨b, off + i, none⟩) hlt).trans (hc i hi)⟩⟩
theorem RdN.more {w : World} {B B' n : Nat} {A : Option Addr} {l : List Int} (h : RdN w B A n l) (hb : B ≤ B') : RdN w B' A n l :=
  ⟨h.len, fun hn => by
    obtain ⟨b, off, e, hlt, hc⟩ := h.at_ hn
    exact ⟨b, off, e, by omega, hc⟩⟩
/-- Numbers of the call's own. -/
def OwnN (lo : Nat) (w : World) (v : Value) (l : List Int) : Prop := w.ownsRow lo 23 1 v l.length (u32c l)
theorem OwnN.nil_ (lo : Nat) (w : World) : OwnN lo w (.slice none 0 0) [] := World.ownsRow_nil _ _ _ _
theorem OwnN.keep {lo : Nat} {w w' : World} {v : Value} {l : List Int} (h : OwnN lo w v l) (hk : ∀ i c, w.heap[i]? = some (.cells c 23 (0, 0)) → lo ≤ i → w'.heap[i]? = w.heap[i]?) : OwnN lo w' v l := own_keep h fun i c hi hl _ => hk i c hi hl
theorem OwnN.below {lo : Nat} {w w' : World} {v : Value} {l : List Int} (h : OwnN lo w v l) (hb : Below w.heap.size w w') : OwnN lo w' v l := h.keep fun i c hi _ => hb.block i (Array.getElem?_eq_some_iff.1 hi).1
theorem OwnN.low {lo lo' : Nat} {w : World} {v : Value} {l : List Int} (h : OwnN lo w v l) (hl : lo' ≤ lo) : OwnN lo' w v l := own_low h hl
theorem OwnN.grown {lo : Nat} {w w' : World} {v : Value} {l : List Int} {g : Nat} (h : OwnN lo w v l) (hg : w.grownBy w' (some g)) (hne : g < lo) : OwnN lo w' v l :=
  h.keep fun i c hi hl => hg.block i (Array.getElem?_eq_some_iff.1 hi).1 (fun e => by injection e with e; omega)
theorem OwnN.rd {lo : Nat} {w : World} {v : Value} {l : List Int} (h : OwnN lo w v l) : ∃ A c, v = .slice A l.length c ∧ l.length ≤ c ∧ RdN w w.heap.size A l.length l := by
  rcases h.2 with ⟨rfl, hn⟩ | ⟨g, cap, cur, rfl, hb, hg, hnc, hcm, hcs, hx⟩
  · exact ⟨none, 0, by rw [hn], by omega, ⟨rfl, fun hp => by omega⟩⟩
  · refine ⟨_, cap, rfl, hnc, ⟨rfl, fun _ => ⟨g, 0, rfl, (Array.getElem?_eq_some_iff.1 hg).1, fun i hi => ?_⟩⟩⟩
    rw [Nat.zero_add]
    have h1 : (u32c l)[i]? = some (.int .u32 (l.getD i 0)) := by simp [List.getD, hi]
    rw [← hx, List.getElem?_take, if_pos (by omega)] at h1
    simp only [World.cell?, hg]
    rw [← Array.getElem?_toList]
    exact h1
theorem info_u32 : (Tryz.prog.info? 23).map (fun i => (i.zero, i.size, i.bytes)) = some (some (.int .u32 0), 1, 4) := by kernel_rfl
theorem app_n {ops : Array Oper} {rest : List Oper} {o : Oper} {a : Act} {Q : Exit → Act → World → Prop} (hgd : o.guard = none) (s x : Operand)
    (ho : o.op = .call { callee := .builtin .append, args := #[s, x], argTypes := #[22, 22] }) {lo : Nat} {w : World} {v : Value} {l : List Int} (h : OwnN lo w v l) (hlo : lo ≤ w.heap.size) (hlen : l.length ≤ 35184372088000)
    (y : Int) (hs : a.eval s = v) (hx : a.eval x = .slice (some ⟨w.heap.size, 0, none⟩) 1 1)
    (hk : ∀ v' w', OwnN lo w' v' (l ++ [y]) → Below lo w w' → wpList Tryz.prog ops Q rest (a.put o.dst v') w') :
    wpList Tryz.prog ops Q (o :: rest) a (w.alloc (.cells #[.int .u32 y] 23)) := by
  obtain ⟨i, hi, hz0, hz1, hz2⟩ := info_parts info_u32
  have hB := Blk.new w 23 #[.int .u32 y]
  refine wpList_append_own_at _ hgd s x 22 ho lo 23 i _ 1 4 Tryz.underlying22 hi hz0 hz1 hz2 rfl (by decide) v l.length (u32c l) hs (h.alloc _) ⟨w.heap.size, 0, none⟩ 1 1 [.int .u32 y] hx rfl ?_ ?_ (by unfold maxLen; omega) (by omega) (by simp; omega) ?_
  · intro j u hu
    rw [show ((⟨w.heap.size, 0, none⟩ : Addr).add j) = ⟨w.heap.size, j, none⟩ from by unfold Addr.add; split <;> simp_all, hB.cell]
    simpa using hu
  · exact one_u32 [y]
  · intro v' w' hown hgr _ _
    have hg2 : w.grownBy w' v.ownBlock := ⟨hgr.os, hgr.tape, hgr.output, Nat.le_trans (by simp) hgr.size, fun j hj hne => (hgr.block j (by simp; omega) hne).trans (Below.heap_alloc _ _ _ hj)⟩
    refine hk v' w' ?_ ((Below.refl lo w).grown hg2 hlo (fun i e => (h.lt i e).1))
    unfold OwnN
    rw [List.length_append, show u32c (l ++ [y]) = u32c l ++ u32c [y] from List.map_append]
    exact hown

/-- The cells of a list of communities. -/
def u8ss (ls : List (List Int)) : List Value := ls.flatMap u8s
def All8 (ls : List (List Int)) : Prop := ∀ l ∈ ls, l.length = 8 ∧ Oct l
theorem All8.nil_ : All8 [] := fun l h => by cases h
theorem All8.app {a b : List (List Int)} (ha : All8 a) (hb : All8 b) : All8 (a ++ b) := fun l h => (List.mem_append.1 h).elim (ha l) (hb l)
theorem All8.at_ {ls : List (List Int)} (h : All8 ls) (i : Nat) (hi : i < ls.length) : ls[i].length = 8 ∧ Oct ls[i] := h _ (List.getElem_mem hi)
theorem u8ss_get : ∀ (ls : List (List Int)), All8 ls → ∀ (i j : Nat) (hi : i < ls.length), j < 8 → (u8ss ls)[i * 8 + j]? = (u8s ls[i])[j]?
  | l :: ls, h, 0, j, hi, hj => by
    have h1 := (h l List.mem_cons_self).1
    unfold u8ss
    rw [List.flatMap_cons, List.getElem?_append_left (by simp [h1]; omega)]
    simp
  | l :: ls, h, i + 1, j, hi, hj => by
    have h1 := (h l List.mem_cons_self).1
    have h2 := u8ss_get ls (fun x hx => h x (List.mem_cons_of_mem _ hx)) i j (by simpa using hi) hj
    unfold u8ss at *
    have hl : (u8s l).length = 8 := by simp [h1]
    rw [List.flatMap_cons, List.getElem?_append_right (by rw [hl]; omega), hl, show (i + 1) * 8 + j - 8 = i * 8 + j by omega, h2]
    simp
theorem u8ss_app (a b : List (List Int)) : u8ss (a ++ b) = u8ss a ++ u8ss b := by simp [u8ss]
/-- A slice of communities that reads as ls. -/
structure RdC (w : World) (B : Nat) (A : Option Addr) (n : Nat) (ls : List (List Int)) : Prop where
  len : ls.length = n
  ok : All8 ls
  at_ : 0 < n → ∃ b off, A = some ⟨b, off, none⟩ ∧ b < B ∧ ∀ i (h : i < ls.length), w.rangeAt b (off + i * 8) (u8s ls[i])
theorem RdC.below {w w' : World} {B n : Nat} {A : Option Addr} {ls : List (List Int)} (h : RdC w B A n ls) (hb : Below B w w') : RdC w' B A n ls :=
  ⟨h.len, h.ok, fun hn => by
    obtain ⟨b, off, e, hlt, hc⟩ := h.at_ hn
    exact ⟨b, off, e, hlt, fun i hi => range_below (hc i hi) hb hlt⟩⟩
theorem RdC.more {w : World} {B B' n : Nat} {A : Option Addr} {ls : List (List Int)} (h : RdC w B A n ls) (hb : B ≤ B') : RdC w B' A n ls :=
  ⟨h.len, h.ok, fun hn => by
    obtain ⟨b, off, e, hlt, hc⟩ := h.at_ hn
    exact ⟨b, off, e, Nat.lt_of_lt_of_le hlt hb, hc⟩⟩
/-- Communities of the call's own. -/
structure OwnC (lo : Nat) (w : World) (v : Value) (ls : List (List Int)) : Prop where
  own : w.ownsRow lo 138 8 v ls.length (u8ss ls)
  ok : All8 ls
theorem OwnC.nil_ (lo : Nat) (w : World) : OwnC lo w (.slice none 0 0) [] := ⟨World.ownsRow_nil _ _ _ _, All8.nil_⟩
theorem OwnC.rd {lo : Nat} {w : World} {v : Value} {ls : List (List Int)} (h : OwnC lo w v ls) : ∃ A c, v = .slice A ls.length c ∧ ls.length ≤ c ∧ RdC w w.heap.size A ls.length ls := by
  rcases h.own.2 with ⟨rfl, hn⟩ | ⟨g, cap, cur, rfl, hb, hg, hnc, hcm, hcs, hx⟩
  · exact ⟨none, 0, by rw [hn], by omega, ⟨rfl, h.ok, fun hp => by omega⟩⟩
  · refine ⟨_, cap, rfl, hnc, ⟨rfl, h.ok, fun _ => ⟨g, 0, rfl, (Array.getElem?_eq_some_iff.1 hg).1, fun i hi j u hu => ?_⟩⟩⟩
    have hj : j < 8 := by
      have h1 := (List.getElem?_eq_some_iff.1 hu).1
      rw [u8s, List.length_map, (h.ok.at_ i hi).1] at h1
      exact h1
    have h1 := u8ss_get ls h.ok i j hi hj
    rw [hu, ← hx, List.getElem?_take, if_pos (by omega)] at h1
    rw [Nat.zero_add]
    simp only [World.cell?, hg]
    rw [← Array.getElem?_toList]
    exact h1
theorem OwnC.keep {lo : Nat} {w w' : World} {v : Value} {l : List (List Int)} (h : OwnC lo w v l) (hk : ∀ i c, w.heap[i]? = some (.cells c 138 (0, 0)) → lo ≤ i → w'.heap[i]? = w.heap[i]?) : OwnC lo w' v l := ⟨own_keep h.own fun i c hi hl _ => hk i c hi hl, h.ok⟩
theorem OwnC.below {lo : Nat} {w w' : World} {v : Value} {ls : List (List Int)} (h : OwnC lo w v ls) (hb : Below w.heap.size w w') : OwnC lo w' v ls := h.keep fun i c hi _ => hb.block i (Array.getElem?_eq_some_iff.1 hi).1
theorem OwnC.low {lo lo' : Nat} {w : World} {v : Value} {ls : List (List Int)} (h : OwnC lo w v ls) (hl : lo' ≤ lo) : OwnC lo' w v ls := ⟨own_low h.own hl, h.ok⟩
theorem OwnC.grown {lo : Nat} {w w' : World} {v : Value} {l : List (List Int)} {g : Nat} (h : OwnC lo w v l) (hg : w.grownBy w' (some g)) (hne : g < lo) : OwnC lo w' v l :=
  h.keep fun i c hi hl => hg.block i (Array.getElem?_eq_some_iff.1 hi).1 (fun e => by injection e with e; omega)
theorem fold8 (y : List Int) (hy : y.length = 8) : List.foldl (fun (cs : Array Value) (x : Value × Nat) => cs.setIfInBounds x.snd x.fst) #[Value.int .u8 0, Value.int .u8 0, Value.int .u8 0, Value.int .u8 0, Value.int .u8 0, Value.int .u8 0, Value.int .u8 0, Value.int .u8 0] (u8s y).zipIdx = (u8s y).toArray := by
  obtain ⟨a, b, c, d, e, f, g, h, rfl⟩ : ∃ a b c d e f g h, y = [a, b, c, d, e, f, g, h] := by
    match y, hy with
    | [a, b, c, d, e, f, g, h], _ => exact ⟨a, b, c, d, e, f, g, h, rfl⟩
  clear hy
  kernel_rfl
theorem info_comm : (Tryz.prog.info? 138).map (fun i => (i.zero, i.size, i.bytes)) = some (some (.agg #[.int .u8 0, .int .u8 0, .int .u8 0, .int .u8 0, .int .u8 0, .int .u8 0, .int .u8 0, .int .u8 0]), 8, 8) := by kernel_rfl
theorem comm_size : (Tryz.prog.info? 138).map (·.size) = some 8 := by kernel_rfl
theorem comm_fetch {ops : Array Oper} {rest : List Oper} {op : Oper} {a : Act} {w : World} {Q : Exit → Act → World → Prop} (hw : Region.wanted op (yielded ops a.tmps) = true) (x : Operand) (ho : op.op = .load 138 x)
    (g o : Nat) (l : List Int) (hl : l.length = 8) (hx : a.eval x = .pointer (some ⟨g, o, none⟩)) (hc : w.rangeAt g o (u8s l)) (h : wpList Tryz.prog ops Q rest (a.put op.dst (.agg (u8s l).toArray)) w) : wpList Tryz.prog ops Q (op :: rest) a w :=
  BigFrame.wpList_want hw fun _ hK => wp_load_mid 138 x ho g o hx (u8s l) _ hc Tryz.underlying138 rfl (by rw [comm_size]; simp [hl]) (hK _ _ h)
theorem app_comm {ops : Array Oper} {rest : List Oper} {o : Oper} {a : Act} {Q : Exit → Act → World → Prop} (hgd : o.guard = none) (s x : Operand)
    (ho : o.op = .call { callee := .builtin .append, args := #[s, x], argTypes := #[24, 24] }) {lo : Nat} {w : World} {v : Value} {ls : List (List Int)} (h : OwnC lo w v ls) (hlo : lo ≤ w.heap.size) (hlen : ls.length ≤ 17592186044000)
    (l : List Int) (hl : l.length = 8) (ol : Oct l) (hs : a.eval s = v) (hx : a.eval x = .slice (some ⟨w.heap.size, 0, none⟩) 1 1)
    (hk : ∀ v' w', OwnC lo w' v' (ls ++ [l]) → Below lo w w' → wpList Tryz.prog ops Q rest (a.put o.dst v') w') :
    wpList Tryz.prog ops Q (o :: rest) a (w.alloc (.cells (u8s l).toArray 138)) := by
  obtain ⟨i, hi, hz0, hz1, hz2⟩ := info_parts info_comm
  have hB := Blk.new w 138 (u8s l).toArray
  refine wpList_append_own_at _ hgd s x 24 ho lo 138 i _ 8 8 Tryz.underlying24 hi hz0 hz1 hz2 rfl (by decide) v ls.length (u8ss ls) hs (h.own.alloc _) ⟨w.heap.size, 0, none⟩ 1 1 (u8s l) hx (by simp [hl]) ?_ ?_ (by unfold maxLen; omega) (by omega) (by simp; omega) ?_
  · intro j u hu
    rw [show ((⟨w.heap.size, 0, none⟩ : Addr).add j) = ⟨w.heap.size, j, none⟩ from by unfold Addr.add; split <;> simp_all, hB.cell]
    simpa using hu
  · exact one_u8 l
  · intro v' w' hown hgr _ _
    have hg2 : w.grownBy w' v.ownBlock := ⟨hgr.os, hgr.tape, hgr.output, Nat.le_trans (by simp) hgr.size, fun j hj hne => (hgr.block j (by simp; omega) hne).trans (Below.heap_alloc _ _ _ hj)⟩
    have hbel : Below lo w w' := (Below.refl lo w).grown hg2 hlo (fun i e => (h.own.lt i e).1)
    refine hk v' w' ⟨?_, h.ok.app (fun y hy => by cases List.mem_singleton.1 hy; exact ⟨hl, ol⟩)⟩ hbel
    rw [u8ss_app, show u8ss [l] = u8s l by simp [u8ss]]
    simpa using hown

/-- All numbers of four bytes; all communities. -/
def nums (l : List Int) : List Int := (List.range (l.length / 4)).map fun i => numOf ((l.drop (4 * i)).take 4)
def cmms (l : List Int) : List (List Int) := (List.range (l.length / 8)).map fun i => (l.drop (8 * i)).take 8
theorem nums_at (l : List Int) (a m : Nat) (hm : m = (l.length - a) / 4) : (List.range m).map (fun i => numOf ((l.drop (a + 4 * i)).take 4)) = nums (l.drop a) := by
  subst hm
  unfold nums
  rw [List.length_drop]
  congr 1
  funext i
  rw [List.drop_drop]
theorem cmms_at (l : List Int) (a m : Nat) (hm : m = (l.length - a) / 8) : (List.range m).map (fun i => (l.drop (a + 8 * i)).take 8) = cmms (l.drop a) := by
  subst hm
  unfold cmms
  rw [List.length_drop]
  congr 1
  funext i
  rw [List.drop_drop]
theorem range_map_succ {α : Type} (f : Nat → α) (m : Nat) : (List.range (m + 1)).map f = (List.range m).map f ++ [f m] := by rw [List.range_succ, List.map_append]; rfl
end Go.Proofs.YtdgoeibfggjbmaaGreatDoor
namespace Go.Proofs.YtdgoeibfggjbmaaGreatDoor
open Go.RowKit
set_option maxRecDepth 100000
set_option linter.unusedSimpArgs false
set_option linter.unusedVariables false

def ReadN (w : World) (g : Nat) (l : List Int) (at_ : Nat) (e : Ending) (w' : World) : Prop := ∃ v, e = .returned v ∧ OwnN w.heap.size w' v (nums (l.drop at_)) ∧ w.grownBy w' (some g)
structure NumRel (w : World) (g : Nat) (l : List Int) (at_ : Nat) (v : Value) (wr : World) (m : Nat) : Prop where
  cur : ∃ er, IsCur wr g l (at_ + 4 * m) er ∧ (er = 0 ∨ l.length < at_ + 4 * m + 4)
  own : OwnN w.heap.size wr v ((List.range m).map fun i => numOf ((l.drop (at_ + 4 * i)).take 4))
  gr : w.grownBy wr (some g)
  sz : w.heap.size ≤ wr.heap.size

set_option maxHeartbeats 1000000 in
theorem readNumbers_is (w : World) (g : Nat) (l : List Int) (at_ : Nat) (err : Int) (h : IsCur w g l at_ err) (hE : err = 0 ∨ l.length < at_ + 4) (ho : Oct l) (hm : l.length ≤ 140737488351232) :
    Calls Tryz.prog 211 #[.pointer (some ⟨g, 0, none⟩)] w (ReadN w g l at_) := by
  have hglt := h.lt
  have HRel0 : Hid (NumRel w g l at_ (.slice none 0 0) w 0) := Lib.hid ⟨⟨err, h, hE⟩, OwnN.nil_ _ _, only_refl w _, Nat.le_refl _⟩
  have HO := Lib.hid ho
  clear h hE ho
  go_enter Tryz.func211, Tryz.ntmps211
  go_wp2
  go_loopw [3] (fun v wr => ∃ m, NumRel w g l at_ v wr m) (fun _ wr => l.length - (intOf ((wr.cell? ⟨g, 1, none⟩).getD (.int .i64 0))).toNat)
  case atStart => exact ⟨0, HRel0.out⟩
  case round =>
    obtain ⟨m, hrel⟩ := hrel
    obtain ⟨⟨er, hc, her⟩, hown, hgr, hsz⟩ := hrel
    have hle := hc.le
    have HC := Lib.hid hc
    have HOw := Lib.hid hown
    have HGr := Lib.hid hgr
    have HM0 : Hid ((wr.cell? ⟨g, 1, none⟩) = some (.int .i64 ((at_ + 4 * m : Nat) : Int))) := Lib.hid (by obtain ⟨_, _, q, _, _⟩ := hc.ex; exact Blk.cell q 1)
    clear hc hown hgr HRel0
    go_wp2_with fail
    refine (leftC_is _ g l _ er HC.out).mono ?_
    rintro e w2 ⟨rfl, k1, rfl⟩
    by_cases hlt : at_ + 4 * m + 4 ≤ l.length
    · have hp : (4 : Int) ≤ (l.length : Int) - ((at_ + 4 * m : Nat) : Int) := by omega
      obtain rfl : er = 0 := her.resolve_right (by omega)
      obtain ⟨n1, n2, n3⟩ := num_ok' l (at_ + 4 * m) 4 (by omega) (by omega) hlt
      have HK := Lib.hid (num_is _ g l (at_ + 4 * m) 0 ((4 : Nat) : Int) (HC.out.drewN k1))
      unfold Numd at HK
      rw [n1, n2, n3] at HK
      have hbd := numOf_bd ((l.drop (at_ + 4 * m)).take 4) (fun x hx => HO.out x (List.mem_of_mem_drop (List.mem_of_mem_take hx)))
      have hln : ((l.drop (at_ + 4 * m)).take 4).length = 4 := by simp; omega
      rw [hln] at hbd
      have HX : Hid ((List.range (m + 1)).map (fun i => numOf ((l.drop (at_ + 4 * i)).take 4)) = (List.range m).map (fun i => numOf ((l.drop (at_ + 4 * i)).take 4)) ++ [numOf ((l.drop (at_ + 4 * m)).take 4)]) := Lib.hid (range_map_succ _ m)
      have hmle : m ≤ 35184372088000 := by omega
      have HLn : Hid (((List.range m).map fun i => numOf ((l.drop (at_ + 4 * i)).take 4)).length ≤ 35184372088000) := Lib.hid (by simpa using hmle)
      generalize numOf ((l.drop (at_ + 4 * m)).take 4) = x at *
      generalize (List.range m).map (fun i => numOf ((l.drop (at_ + 4 * i)).take 4)) = xs at *
      have hx1 : x < 4294967296 := by omega
      have hw1 : IntKind.u32.wrap x = x := by rw [IntKind.wrap_u32]; omega
      have hw2 : x % 4294967296 = x := by omega
      clear n1 n2 n3 hln hbd
      go_wp2_with fail
      refine HK.out.mono ?_
      rintro e w3 ⟨rfl, hc3, hg3⟩
      have hO3 : OwnN w.heap.size w3 u3 xs := (HOw.out.below (below_drewN (Below.refl _ _) k1)).grown hg3 hglt
      have hG3 : w.grownBy w3 (some g) := only_trans (only_drewN HGr.out k1) hg3
      have hs3 : wr.heap.size ≤ w3.heap.size := hg3.size
      have HO3 := Lib.hid hO3
      have HG3 := Lib.hid hG3
      have HC3 := Lib.hid hc3
      have hz3 : w.heap.size ≤ w3.heap.size := by omega
      clear hc3 hg3 hO3 hG3 HK HOw HGr HC
      go_wp2_with (at_builtin; refine app_n rfl _ _ rfl HO3.out hz3 HLn.out x rfl rfl ?_)
      intro v' w4 ho4 hb4
      have HR4 : Hid (NumRel w g l at_ v' w4 (m + 1)) := Lib.hid ⟨⟨0, by rw [show at_ + 4 * (m + 1) = at_ + 4 * m + 4 by omega]; exact HC3.out.keep (hb4.mono hglt), .inl rfl⟩, by rw [HX.out]; exact ho4, ⟨hb4.os.trans HG3.out.os, hb4.tape.trans HG3.out.tape, hb4.output.trans HG3.out.output, Nat.le_trans HG3.out.size hb4.size, fun i hi hne => (hb4.block i hi).trans (HG3.out.block i hi hne)⟩, Nat.le_trans hz3 hb4.size⟩
      clear ho4 hb4
      go_wp2
      refine ⟨⟨m + 1, HR4.out⟩, ?_⟩
      have hM6 : w4.cell? ⟨g, 1, none⟩ = some (.int .i64 ((at_ + 4 * (m + 1) : Nat) : Int)) := by obtain ⟨_, h, _⟩ := HR4.out.cur; obtain ⟨_, _, q, _, _⟩ := h.ex; exact Blk.cell q 1
      rw [HM0.out, hM6]
      simp [intOf]
      omega
    · have hp : ¬ (4 : Int) ≤ (l.length : Int) - ((at_ + 4 * m : Nat) : Int) := by omega
      have HN := Lib.hid (nums_at l at_ m (by omega))
      go_wp2
      go_ret
      exact ⟨_, rfl, by rw [← HN.out]; exact HOw.out.below (below_drewN (Below.refl _ _) k1), only_drewN HGr.out k1⟩

def ReadC (w : World) (g : Nat) (l : List Int) (at_ : Nat) (e : Ending) (w' : World) : Prop := ∃ v, e = .returned v ∧ OwnC w.heap.size w' v (cmms (l.drop at_)) ∧ w.grownBy w' (some g)
structure ComRel (w : World) (g : Nat) (l : List Int) (at_ : Nat) (v : Value) (wr : World) (m : Nat) : Prop where
  cur : IsCur wr g l (at_ + 8 * m) 0
  own : OwnC w.heap.size wr v ((List.range m).map fun i => (l.drop (at_ + 8 * i)).take 8)
  gr : w.grownBy wr (some g)
  sz : w.heap.size ≤ wr.heap.size
theorem took_ok (l : List Int) (a k : Nat) (h : a + k ≤ l.length) : stepTook l a 0 k = (l.drop a).take k ∧ stepAt l a 0 k = a + k ∧ stepErr l a 0 k = 0 := by
  refine ⟨?_, ?_, ?_⟩
  · unfold stepTook; rw [if_pos (by omega)]; rfl
  · unfold stepAt; rw [if_pos (by omega)]; rfl
  · unfold stepErr; rw [if_pos rfl, if_neg (by omega), if_neg (by omega)]

set_option maxHeartbeats 1000000 in
theorem readComms_is (w : World) (g : Nat) (l : List Int) (at_ : Nat) (h : IsCur w g l at_ 0) (ho : Oct l) (hm : l.length ≤ 140737488351232) :
    Calls Tryz.prog 212 #[.pointer (some ⟨g, 0, none⟩)] w (ReadC w g l at_) := by
  have hglt := h.lt
  have HRel0 : Hid (ComRel w g l at_ (.slice none 0 0) w 0) := Lib.hid ⟨h, OwnC.nil_ _ _, only_refl w _, Nat.le_refl _⟩
  have HO := Lib.hid ho
  clear h ho
  go_enter Tryz.func212, Tryz.ntmps212
  go_wp2
  go_loopw [3] (fun v wr => ∃ m, ComRel w g l at_ v wr m) (fun _ wr => l.length - (intOf ((wr.cell? ⟨g, 1, none⟩).getD (.int .i64 0))).toNat)
  case atStart => exact ⟨0, HRel0.out⟩
  case round =>
    obtain ⟨m, hrel⟩ := hrel
    obtain ⟨hc, hown, hgr, hsz⟩ := hrel
    have hle := hc.le
    have HC := Lib.hid hc
    have HOw := Lib.hid hown
    have HGr := Lib.hid hgr
    have HM0 : Hid ((wr.cell? ⟨g, 1, none⟩) = some (.int .i64 ((at_ + 8 * m : Nat) : Int))) := Lib.hid (by obtain ⟨_, _, q, _, _⟩ := hc.ex; exact Blk.cell q 1)
    clear hc hown hgr HRel0
    go_wp2_with fail
    refine (leftC_is _ g l _ 0 HC.out).mono ?_
    rintro e w2 ⟨rfl, k1, rfl⟩
    by_cases hlt : at_ + 8 * m + 8 ≤ l.length
    · have hp : (8 : Int) ≤ (l.length : Int) - ((at_ + 8 * m : Nat) : Int) := by omega
      obtain ⟨n1, n2, n3⟩ := took_ok l (at_ + 8 * m) 8 hlt
      have HK := Lib.hid (take_is _ g l (at_ + 8 * m) 0 ((8 : Nat) : Int) (HC.out.drewN k1))
      unfold Took at HK
      rw [n1, n2, n3] at HK
      have hln : ((l.drop (at_ + 8 * m)).take 8).length = 8 := by simp; omega
      rw [hln] at HK
      have hox : Oct ((l.drop (at_ + 8 * m)).take 8) := fun x hx => HO.out x (List.mem_of_mem_drop (List.mem_of_mem_take hx))
      have HX : Hid ((List.range (m + 1)).map (fun i => (l.drop (at_ + 8 * i)).take 8) = (List.range m).map (fun i => (l.drop (at_ + 8 * i)).take 8) ++ [(l.drop (at_ + 8 * m)).take 8]) := Lib.hid (range_map_succ _ m)
      have hmle : m ≤ 17592186044000 := by omega
      have HLn : Hid (((List.range m).map fun i => (l.drop (at_ + 8 * i)).take 8).length ≤ 17592186044000) := Lib.hid (by simpa using hmle)
      generalize (l.drop (at_ + 8 * m)).take 8 = x at *
      generalize (List.range m).map (fun i => (l.drop (at_ + 8 * i)).take 8) = xs at *
      have hf8 := fold8 x hln
      have HL8 := Lib.hid hln
      have HOx := Lib.hid hox
      clear n1 n2 n3 hln hox
      go_wp2_with fail
      refine HK.out.mono ?_
      rintro e w3 ⟨A3, rfl, hn3, hc3, hg3⟩
      have hO3 : OwnC w.heap.size w3 u3 xs := (HOw.out.below (below_drewN (Below.refl _ _) k1)).grown hg3 hglt
      have hG3 : w.grownBy w3 (some g) := only_trans (only_drewN HGr.out k1) hg3
      have hs3 : wr.heap.size ≤ w3.heap.size := hg3.size
      have HO3 := Lib.hid hO3
      have HG3 := Lib.hid hG3
      have HC3 := Lib.hid hc3
      have hz3 : w.heap.size ≤ w3.heap.size := by omega
      obtain ⟨_, _, hbad | ⟨j, rfl, hj, hby⟩⟩ := hn3
      · omega
      have HRg : Hid (w3.rangeAt j 0 (u8s x)) := Lib.hid (Blk.range hby)
      have hAt := run_arrayAt (P := Tryz.prog) (w := w3) 138 5 8 (some ⟨j, 0, none⟩) 8 8 Tryz.underlying138 (Nat.le_refl _)
      clear hc3 hg3 hO3 hG3 HK HOw HGr HC hby
      go_wp2_with (first
        | (refine comm_fetch rfl _ rfl j 0 x HL8.out rfl HRg.out ?_)
        | (at_builtin; refine app_comm rfl _ _ rfl HO3.out hz3 HLn.out x HL8.out HOx.out rfl rfl ?_))
      intro v' w4 ho4 hb4
      have HR4 : Hid (ComRel w g l at_ v' w4 (m + 1)) := Lib.hid ⟨by rw [show at_ + 8 * (m + 1) = at_ + 8 * m + 8 by omega]; exact HC3.out.keep (hb4.mono hglt), by rw [HX.out]; exact ho4, ⟨hb4.os.trans HG3.out.os, hb4.tape.trans HG3.out.tape, hb4.output.trans HG3.out.output, Nat.le_trans HG3.out.size hb4.size, fun i hi hne => (hb4.block i hi).trans (HG3.out.block i hi hne)⟩, Nat.le_trans hz3 hb4.size⟩
      clear ho4 hb4
      go_wp2
      refine ⟨⟨m + 1, HR4.out⟩, ?_⟩
      have hM6 : w4.cell? ⟨g, 1, none⟩ = some (.int .i64 ((at_ + 8 * (m + 1) : Nat) : Int)) := by obtain ⟨_, _, q, _, _⟩ := HR4.out.cur.ex; exact Blk.cell q 1
      rw [HM0.out, hM6]
      simp [intOf]
      omega
    · have hp : ¬ (8 : Int) ≤ (l.length : Int) - ((at_ + 8 * m : Nat) : Int) := by omega
      have HN := Lib.hid (cmms_at l at_ m (by omega))
      go_wp2
      go_ret
      exact ⟨_, rfl, by rw [← HN.out]; exact HOw.out.below (below_drewN (Below.refl _ _) k1), only_drewN HGr.out k1⟩
end Go.Proofs.YtdgoeibfggjbmaaGreatDoor
namespace Go.Proofs.YtdgoeibfggjbmaaGreatDoor
open Go.RowKit
set_option maxRecDepth 100000
set_option linter.unusedSimpArgs false
set_option linter.unusedVariables false

set_option maxHeartbeats 400000 in
theorem number_is (w : World) (B : Nat) (A : Option Addr) (n c : Nat) (l : List Int) (hr : Rd w B A n l) (h8 : n ≤ 8) :
    Calls Tryz.prog 193 #[.slice A n c] w fun e w' => e = .returned (.int .u64 (numOf l)) ∧ w = w' := by
  have H := Lib.hid hr
  obtain rfl := hr.len
  have HO := Lib.hid hr.oct
  clear hr
  go_enter Tryz.func193, Tryz.ntmps193
  go_wp2
  go_loop [3, 5, 8] (fun s _ i => ∃ m : Nat, m ≤ l.length ∧ i = .int .i64 m ∧ s = .int .u64 (numOf (l.take m))) (fun _ _ i => l.length - (intOf i).toNat)
  case atStart => exact ⟨0, Nat.zero_le _, rfl, rfl⟩
  case round =>
    obtain ⟨m, hm, rfl, rfl⟩ := hrel
    by_cases hlt : m < l.length
    · obtain ⟨b, off, rfl, hb, hcell⟩ := H.out.at_ (by omega)
      have hcm := hcell m hlt
      have HS := Lib.hid (numOf_step l m hlt h8 HO.out)
      clear hcell
      go_wp2
      refine ⟨⟨m + 1, by omega, by go_num, by rw [HS.out]⟩, by simp [intOf]; omega⟩
    · obtain rfl : m = l.length := by omega
      rw [List.take_length]
      go_wp2
      go_ret
      exact ⟨rfl, rfl⟩

/-- An address's cells. -/
abbrev ipc (v : Bool) (l : List Int) : List Value := Value.bool v :: u8s l
set_option maxHeartbeats 400000 in
theorem first4_is (w : World) (v : Bool) (l : List Int) (hl : l.length = 16) (ho : Oct l) :
    Calls Tryz.prog 141 #[.agg (ipc v l).toArray] w fun e w' => e = .returned (.int .u32 (numOf (l.take 4))) ∧ Below w.heap.size w w' := by
  have hr0 := rd_range (pre := [.bool v]) (post := []) (l := l) (B := w.heap.size + 1) (by simpa using range_new w 27 (ipc v l)) ho 0 4 (by omega) (by omega)
  have H := Lib.hid hr0
  clear hr0
  have hb := numOf_bd (l.take 4) (fun x hx => ho x (List.mem_of_mem_take hx))
  rw [show (l.take 4).length = 4 by simp; omega] at hb
  have HW := Lib.hid (show numOf (l.take 4) % 4294967296 = numOf (l.take 4) from Int.emod_eq_of_lt hb.1 (by omega))
  clear hb
  go_enter Tryz.func141, Tryz.ntmps141
  go_wp2_with fail
  refine (number_is _ (w.heap.size + 1) _ 4 16 (l.take 4) (by simpa using H.out) (by omega)).mono ?_
  rintro e w' ⟨rfl, rfl⟩
  go_wp2
  go_ret
  rw [HW.out]
  exact ⟨rfl, (Below.refl _ _).alloc (Nat.le_refl _) _⟩

/-- The four bytes of n. -/
def four (n : Int) : List Int := [n / 16777216, n / 65536 % 256, n / 256 % 256, n % 256] ++ List.replicate 12 0

set_option maxHeartbeats 400000 in
theorem four_is (w : World) (n : Int) (h0 : 0 ≤ n) (h1 : n < 4294967296) :
    Calls Tryz.prog 140 #[.int .u32 n] w fun e w' => e = .returned (.agg (ipc false (four n)).toArray) ∧ Below w.heap.size w w' := by
  go_enter Tryz.func140, Tryz.ntmps140
  go_wp2
  refine bodyPost_ret (v := .agg (ipc false (four n)).toArray) ?_ rfl ⟨rfl, (Below.refl _ _).alloc (Nat.le_refl _) _⟩
  exact results_cell_row rfl _ _ w.heap.size 27 _ (0, 0) _ rfl (Blk.new w 27 _) Tryz.underlying27 rfl (by kernel_rfl)

theorem four_len (n : Int) : (four n).length = 16 := by simp [four]
theorem four_oct (n : Int) (h0 : 0 ≤ n) (h1 : n < 4294967296) : Oct (four n) := by
  intro x hx
  simp [four] at hx
  omega
/-- An address that is right. -/
def rightB (v : Bool) (l : List Int) : Bool := v || decide (l.drop 4 = List.replicate 12 0)
theorem four_num : ∀ (l : List Int), l.length = 16 → Oct l → (l = four (numOf (l.take 4)) ↔ l.drop 4 = List.replicate 12 0) := by
  intro l hl ho
  match l, hl with
  | a :: b :: c :: d :: r, hl =>
    have ha := ho a (by simp)
    have hb := ho b (by simp)
    have hc := ho c (by simp)
    have hd := ho d (by simp)
    have e : numOf [a, b, c, d] = ((a * 256 + b) * 256 + c) * 256 + d := by simp [numOf]
    simp only [List.take_succ_cons, List.take_zero, e, four, List.drop_succ_cons, List.drop_zero, List.cons_append, List.nil_append, List.cons.injEq]
    constructor
    · exact fun h => h.2.2.2.2
    · exact fun h => ⟨by omega, by omega, by omega, by omega, h⟩

end Go.Proofs.YtdgoeibfggjbmaaGreatDoor
namespace Go.Proofs.YtdgoeibfggjbmaaGreatDoor
open Go.RowKit
set_option maxRecDepth 100000
set_option linter.unusedSimpArgs false
set_option linter.unusedVariables false

theorem ipsz : (Tryz.prog.info? 27).map (·.size) = some 17 := by kernel_rfl
theorem arrsz : (Tryz.prog.info? 25).map (·.size) = some 16 := by kernel_rfl
theorem one_ipc (v6 : Bool) (l : List Int) : ∀ v ∈ ipc v6 l, v.oneCell' = true := by
  intro v hv
  rcases List.mem_cons.1 hv with rfl | hv
  · rfl
  · exact one_u8 l v hv
theorem ip_store5 {ops : Array Oper} {rest : List Oper} {o : Oper} {a : Act} {w : World} {Q : Exit → Act → World → Prop} (hgd : o.guard = none) (x y : Operand) (ho : o.op = .store 27 x y) (g : Nat) (v6 : Bool) (l : List Int) (hl : l.length = 16)
    (hx : a.eval x = .pointer (some ⟨g, 0, none⟩)) (hy : a.eval y = .agg (ipc v6 l).toArray) (t : TypeId) (old : Array Value) (hg : Blk w g t old) (hold : old.size = 17)
    (h : wpList Tryz.prog ops Q rest (a.put o.dst undef) (w.setRow g (ipc v6 l).toArray)) : wpList Tryz.prog ops Q (o :: rest) a w :=
  wpList_store_row hgd 27 x y ho g _ hx hy t old hg (by rw [ipsz]; simp [hl]) (by rw [hold]; simp [hl]) (all_oneCell_toArray (one_ipc v6 l)) h
theorem arr_fetch {ops : Array Oper} {rest : List Oper} {op : Oper} {a : Act} {w : World} {Q : Exit → Act → World → Prop} (hw : Region.wanted op (yielded ops a.tmps) = true) (x : Operand) (ho : op.op = .load 25 x)
    (g o : Nat) (l : List Int) (hl : l.length = 16) (hx : a.eval x = .pointer (some ⟨g, o, none⟩)) (hc : w.rangeAt g o (u8s l)) (h : wpList Tryz.prog ops Q rest (a.put op.dst (.agg (u8s l).toArray)) w) : wpList Tryz.prog ops Q (op :: rest) a w :=
  BigFrame.wpList_want hw fun _ hK => wp_load_mid 25 x ho g o hx (u8s l) _ hc Tryz.underlying25 rfl (by rw [arrsz]; simp [hl]) (hK _ _ h)

/-- The address in four or sixteen bytes. -/
def ipOf (v : List Int) : Bool × List Int := if v.length = 4 then (false, v ++ List.replicate 12 0) else (true, v)
theorem four_back (x : List Int) (hx : x.length = 4) (ho : Oct x) : four (numOf x) = x ++ List.replicate 12 0 := by
  match x, hx with
  | [a, b, c, d], _ =>
    have ha := ho a (by simp)
    have hb := ho b (by simp)
    have hc := ho c (by simp)
    have hd := ho d (by simp)
    have e : numOf [a, b, c, d] = ((a * 256 + b) * 256 + c) * 256 + d := by simp [numOf]
    rw [e]
    unfold four
    congr 1
    simp only [List.cons.injEq, and_true]
    omega
theorem built_ip16 (b0 b1 b2 b3 b4 b5 b6 b7 b8 b9 b10 b11 b12 b13 b14 b15 : Int) : Tryz.prog.built 27 [(0, .bool true), (1, .agg (u8s [b0, b1, b2, b3, b4, b5, b6, b7, b8, b9, b10, b11, b12, b13, b14, b15]).toArray)] = some (ipc true [b0, b1, b2, b3, b4, b5, b6, b7, b8, b9, b10, b11, b12, b13, b14, b15]).toArray := by kernel_rfl
theorem built_ip (l : List Int) (hl : l.length = 16) : Tryz.prog.built 27 [(0, .bool true), (1, .agg (u8s l).toArray)] = some (ipc true l).toArray := by
  match l, hl with
  | [b0, b1, b2, b3, b4, b5, b6, b7, b8, b9, b10, b11, b12, b13, b14, b15], _ => exact built_ip16 b0 b1 b2 b3 b4 b5 b6 b7 b8 b9 b10 b11 b12 b13 b14 b15
theorem ip_build {ops : Array Oper} {rest : List Oper} {o : Oper} {a : Act} {w : World} {Q : Exit → Act → World → Prop} (hg : o.guard = none) (x y : Operand) (ho : o.op = .build 27 #[(0, x), (1, y)]) (l : List Int) (hl : l.length = 16)
    (hx : a.eval x = .bool true) (hy : a.eval y = .agg (u8s l).toArray) (h : wpList Tryz.prog ops Q rest (a.put o.dst (.agg (ipc true l).toArray)) w) : wpList Tryz.prog ops Q (o :: rest) a w := by
  have hb := built_ip l hl
  have he : (#[(0, x), (1, y)].map fun (i, x) => (i, a.eval x)).toList = [(0, .bool true), (1, .agg (u8s l).toArray)] := by simp [hx, hy]
  refine wpList_build hg 27 _ ho (by rw [he, hb]; rfl) ?_
  rw [he, hb]
  exact h
def ReadI (w : World) (g : Nat) (l : List Int) (at_ : Nat) (e : Ending) (w' : World) : Prop := e = .returned (.agg (ipc (ipOf (l.drop at_)).1 (ipOf (l.drop at_)).2).toArray) ∧ w.grownBy w' (some g)
set_option maxHeartbeats 1000000 in
theorem readIp_is (w : World) (g : Nat) (l : List Int) (at_ : Nat) (h : IsCur w g l at_ 0) (ho : Oct l) (hl : l.length = at_ + 4 ∨ l.length = at_ + 16) :
    Calls Tryz.prog 230 #[.pointer (some ⟨g, 0, none⟩)] w (ReadI w g l at_) := by
  have hglt := h.lt
  have HB0 : Hid (Below w.heap.size w (w.alloc (.cells #[Value.bool false, .int .u8 0, .int .u8 0, .int .u8 0, .int .u8 0, .int .u8 0, .int .u8 0, .int .u8 0, .int .u8 0, .int .u8 0, .int .u8 0, .int .u8 0, .int .u8 0, .int .u8 0, .int .u8 0, .int .u8 0, .int .u8 0] 27))) := Lib.hid ((Below.refl _ _).alloc (Nat.le_refl _) _)
  have HC := Lib.hid (h.keep (HB0.out.mono hglt))
  have HN := Lib.hid (Blk.new w 27 #[Value.bool false, .int .u8 0, .int .u8 0, .int .u8 0, .int .u8 0, .int .u8 0, .int .u8 0, .int .u8 0, .int .u8 0, .int .u8 0, .int .u8 0, .int .u8 0, .int .u8 0, .int .u8 0, .int .u8 0, .int .u8 0, .int .u8 0])
  clear h
  go_enter Tryz.func230, Tryz.ntmps230
  go_wp2_with fail
  refine (leftC_is _ g l _ 0 HC.out).mono ?_
  generalize (w.alloc (.cells #[Value.bool false, .int .u8 0, .int .u8 0, .int .u8 0, .int .u8 0, .int .u8 0, .int .u8 0, .int .u8 0, .int .u8 0, .int .u8 0, .int .u8 0, .int .u8 0, .int .u8 0, .int .u8 0, .int .u8 0, .int .u8 0, .int .u8 0] 27)) = w0 at *
  rintro e w2 ⟨rfl, k1, rfl⟩
  have HG0 : Hid (w.grownBy (w0.drewN k1) (some g)) := Lib.hid (only_drewN (only_of_below HB0.out _) k1)
  have HN1 : Hid (Blk (w0.drewN k1) w.heap.size 27 #[Value.bool false, .int .u8 0, .int .u8 0, .int .u8 0, .int .u8 0, .int .u8 0, .int .u8 0, .int .u8 0, .int .u8 0, .int .u8 0, .int .u8 0, .int .u8 0, .int .u8 0, .int .u8 0, .int .u8 0, .int .u8 0, .int .u8 0]) := Lib.hid HN.out
  have HC1 := Lib.hid (HC.out.drewN k1)
  generalize w0.drewN k1 = w1 at *
  clear HC HN HB0
  rcases hl with hl | hl
  · have e4 : ((l.length : Int) - (at_ : Int) == 4) = true := by rw [beq_iff_eq]; omega
    have hok : at_ + 4 ≤ l.length := by omega
    have hD : (l.drop at_).take 4 = l.drop at_ := List.take_of_length_le (by rw [List.length_drop]; omega)
    obtain ⟨n1, n2, n3⟩ := num_ok' l at_ 4 (by omega) (by omega) hok
    have HK := Lib.hid (num_is _ g l at_ 0 ((4 : Nat) : Int) HC1.out)
    unfold Numd at HK
    rw [n1, n2, n3, hD] at HK
    have hln : (l.drop at_).length = 4 := by rw [List.length_drop]; omega
    have hox : Oct (l.drop at_) := fun x hx => ho x (List.mem_of_mem_drop hx)
    have hbd := numOf_bd _ hox
    rw [hln] at hbd
    have HF := Lib.hid (four_back _ hln hox)
    have HI : Hid (ipOf (l.drop at_) = (false, l.drop at_ ++ List.replicate 12 0)) := Lib.hid (by unfold ipOf; rw [if_pos hln])
    have H4 := Lib.hid (four_len (numOf (l.drop at_)))
    have HFin : Hid (∀ w', w.grownBy w' (some g) → ReadI w g l at_ (.returned (.agg (ipc false (four (numOf (l.drop at_)))).toArray)) w') := Lib.hid fun w' h => ⟨by rw [HF.out, HI.out], h⟩
    generalize l.drop at_ = xs at *
    generalize numOf xs = x at *
    have hx1 : x < 4294967296 := by omega
    have hw1 : IntKind.u32.wrap x = x := by rw [IntKind.wrap_u32]; omega
    have hw2 : x % 4294967296 = x := by omega
    clear n1 n2 n3 hD hln hox hl hok ho HI
    go_wp2_with fail
    refine HK.out.mono ?_
    rintro e w3 ⟨rfl, hc3, hg3⟩
    have HN3 := Lib.hid (HN1.out.grown hg3 (fun e => by injection e; omega))
    have HG3 := Lib.hid (only_trans HG0.out hg3)
    clear hc3 hg3 HK HN1 HG0 HC1
    go_wp2_with fail
    refine (four_is _ x hbd.1 hx1).mono ?_
    rintro e w4 ⟨rfl, hb4⟩
    have HN4 := Lib.hid (HN3.out.below hb4 HN3.out.lt)
    have HG4 : Hid (w.grownBy w4 (some g)) := Lib.hid (only_trans HG3.out (only_of_below hb4 _))
    clear hb4 HN3 HG3
    go_wp2_with (refine ip_store5 rfl _ _ rfl w.heap.size false (four x) H4.out rfl rfl 27 _ HN4.out rfl ?_)
    try simp only [Exit.inBlock, Exit.then]
    refine bodyPost_ret (results_cell_row rfl _ _ w.heap.size 27 _ (0, 0) _ rfl (Blk.setRow HN4.out _) Tryz.underlying27 rfl (by rw [ipsz]; simp [H4.out])) rfl ?_
    exact HFin.out _ ⟨HG4.out.os, HG4.out.tape, HG4.out.output, by rw [size_setRow]; exact HG4.out.size, fun i hi hne => (setRow_other w4 w.heap.size i _ (by omega)).trans (HG4.out.block i hi hne)⟩
  · have e4 : ((l.length : Int) - (at_ : Int) == 4) = false := by rw [beq_eq_false_iff_ne]; omega
    have hok : at_ + 16 ≤ l.length := by omega
    have hD : (l.drop at_).take 16 = l.drop at_ := List.take_of_length_le (by rw [List.length_drop]; omega)
    obtain ⟨n1, n2, n3⟩ := took_ok l at_ 16 hok
    have HK := Lib.hid (take_is _ g l at_ 0 ((16 : Nat) : Int) HC1.out)
    unfold Took at HK
    rw [n1, n2, n3, hD] at HK
    have hln : (l.drop at_).length = 16 := by rw [List.length_drop]; omega
    rw [hln] at HK
    have HI : Hid (ipOf (l.drop at_) = (true, l.drop at_)) := Lib.hid (by unfold ipOf; rw [if_neg (by omega)])
    have HFin : Hid (∀ w', w.grownBy w' (some g) → ReadI w g l at_ (.returned (.agg (ipc true (l.drop at_)).toArray)) w') := Lib.hid fun w' h => ⟨by rw [HI.out], h⟩
    generalize l.drop at_ = xs at *
    have H16 := Lib.hid hln
    clear n1 n2 n3 hD hl hok ho HI
    go_wp2_with fail
    refine HK.out.mono ?_
    rintro e w3 ⟨A3, rfl, hn3, hc3, hg3⟩
    have HN3 := Lib.hid (HN1.out.grown hg3 (fun e => by injection e; omega))
    have HG3 := Lib.hid (only_trans HG0.out hg3)
    obtain ⟨_, _, hbad | ⟨j, rfl, hj, hby⟩⟩ := hn3
    · omega
    have HRg : Hid (w3.rangeAt j 0 (u8s xs)) := Lib.hid (Blk.range hby)
    have hAt := run_arrayAt (P := Tryz.prog) (w := w3) 25 5 16 (some ⟨j, 0, none⟩) 16 16 Tryz.underlying25 (Nat.le_refl _)
    clear hc3 hg3 HK HN1 HG0 HC1 hby hln
    go_wp2_with (first
      | (refine arr_fetch rfl _ rfl j 0 xs H16.out rfl HRg.out ?_)
      | (refine ip_build rfl _ _ rfl xs H16.out rfl rfl ?_)
      | (refine ip_store5 rfl _ _ rfl w.heap.size true xs H16.out rfl rfl 27 _ HN3.out rfl ?_))
    try simp only [Exit.inBlock, Exit.then]
    refine bodyPost_ret (results_cell_row rfl _ _ w.heap.size 27 _ (0, 0) _ rfl (Blk.setRow HN3.out _) Tryz.underlying27 rfl (by rw [ipsz]; simp [H16.out])) rfl ?_
    exact HFin.out _ ⟨HG3.out.os, HG3.out.tape, HG3.out.output, by rw [size_setRow]; exact HG3.out.size, fun i hi hne => (setRow_other w3 w.heap.size i _ (by omega)).trans (HG3.out.block i hi hne)⟩
end Go.Proofs.YtdgoeibfggjbmaaGreatDoor
namespace Go.Proofs.YtdgoeibfggjbmaaGreatDoor
open Go.RowKit
set_option maxRecDepth 100000
set_option linter.unusedSimpArgs false
set_option linter.unusedVariables false

def okPath (v : List Int) : Bool := decide (v.length = 0) || (decide (2 ≤ v.length) && (decide (v.getD 0 0 = 2) && (decide (0 < v.getD 1 0) && decide ((v.length : Int) = 2 + 4 * v.getD 1 0))))
def okPmsi (v : List Int) : Bool := decide (5 ≤ v.length) && (decide (v.getD 1 0 ≠ 6) || (decide (v.length = 9) || decide (v.length = 21)))
/-- A known kind's value is right. -/
def okV (k : Int) (v : List Int) : Bool :=
  if k = 1 then decide (v.length = 1) && decide (v.getD 0 0 ≤ 2) else if k = 2 then okPath v else if k = 3 ∨ k = 4 ∨ k = 5 then decide (v.length = 4) else if k = 6 then decide (v.length = 0)
  else if k = 7 then decide (v.length = 8) else if k = 9 then decide (v.length = 4) && decide (numOf v ≠ 0) else if k = 10 then decide (0 < v.length) && decide (v.length % 4 = 0)
  else if k = 16 then decide (0 < v.length) && decide (v.length % 8 = 0) else if k = 22 then okPmsi v else true
/-- How bad an attribute is. -/
def judge (f k : Int) (v : List Int) : Int := match bnd k with
  | none => unk f
  | some (fl, cl) => if bits .and .i64 f 192 == fl && okV k v then 0 else cl

set_option maxHeartbeats 1000000 in
theorem isPath_is (w : World) (B : Nat) (A : Option Addr) (n c : Nat) (v : List Int) (hr : Rd w B A n v) (hm : n ≤ 281474976710656) :
    Calls Tryz.prog 228 #[.slice A n c] w fun e w' => e = .returned (.bool (okPath v)) ∧ w = w' := by
  have hl := hr.len
  have H : Hid (v.length = n) := Lib.hid hl
  rcases Nat.eq_zero_or_pos n with h0 | h0
  · subst h0
    clear hr hl
    go_enter Tryz.func228, Tryz.ntmps228
    go_wp2
    go_ret
    exact ⟨by unfold okPath; rw [H.out]; rfl, rfl⟩
  · have e0 : ((n : Int) == 0) = false := by simp; omega
    by_cases h2 : n < 2
    · have h2' : (n : Int) < 2 := by omega
      clear hr hl
      go_enter Tryz.func228, Tryz.ntmps228
      go_wp2
      go_ret
      refine ⟨?_, rfl⟩
      unfold okPath; rw [H.out]; simp; omega
    · obtain ⟨b, off, rfl, hb, hc⟩ := hr.at_ h0
      have c0 : w.cell? ⟨b, off, none⟩ = some (.int .u8 (v.getD 0 0)) := hc 0 (by omega)
      have c1 := hc 1 (by omega)
      have o0 := hr.oct.getD 0
      have o1 := hr.oct.getD 1
      have HP : Hid (∀ x y, v.getD 0 0 = x → v.getD 1 0 = y → okPath v = (decide (x = 2) && (decide (0 < y) && decide ((n : Int) = 2 + 4 * y)))) := Lib.hid (by
        intro x y hx hy
        unfold okPath
        rw [hx, hy, hl]
        simp [show n ≠ 0 by omega, show 2 ≤ n by omega])
      generalize hx : v.getD 0 0 = x at *
      generalize hy : v.getD 1 0 = y at *
      have HP2 := Lib.hid (HP.out x y rfl rfl)
      clear hc hr hl hx hy HP
      have h2' : ¬ (n : Int) < 2 := by omega
      by_cases hx2 : x = 2
      · subst hx2
        by_cases hy0 : y = 0
        · subst hy0
          go_enter Tryz.func228, Tryz.ntmps228
          go_wp2
          go_ret
          exact ⟨by rw [HP2.out]; rfl, rfl⟩
        · have ey : (y == 0) = false := by simpa using hy0
          have ep : 0 < y := by omega
          have ew : IntKind.i64.wrap (4 * y) = 4 * y := by rw [IntKind.wrap_i64]; omega
          go_enter Tryz.func228, Tryz.ntmps228
          go_wp2
          go_ret
          refine ⟨?_, rfl⟩
          rw [HP2.out]
          simp [ep]
          rfl
      · have ex : (x != 2) = true := by simpa using hx2
        go_enter Tryz.func228, Tryz.ntmps228
        go_wp2
        go_ret
        exact ⟨by rw [HP2.out]; simp [hx2], rfl⟩

set_option maxHeartbeats 1000000 in
theorem isPmsi_is (w : World) (B : Nat) (A : Option Addr) (n c : Nat) (v : List Int) (hr : Rd w B A n v) (hm : n ≤ 281474976710656) :
    Calls Tryz.prog 229 #[.slice A n c] w fun e w' => e = .returned (.bool (okPmsi v)) ∧ w = w' := by
  have hl := hr.len
  have H : Hid (v.length = n) := Lib.hid hl
  by_cases h5 : n < 5
  · have h5' : (n : Int) < 5 := by omega
    clear hr hl
    go_enter Tryz.func229, Tryz.ntmps229
    go_wp2
    go_ret
    refine ⟨?_, rfl⟩
    unfold okPmsi; rw [H.out]; simp [show ¬ 5 ≤ n by omega]
  · obtain ⟨b, off, rfl, hb, hc⟩ := hr.at_ (by omega)
    have c1 := hc 1 (by omega)
    have o1 := hr.oct.getD 1
    have HP : Hid (∀ y, v.getD 1 0 = y → okPmsi v = (decide (y ≠ 6) || (decide (n = 9) || decide (n = 21)))) := Lib.hid (by
      intro y hy
      unfold okPmsi
      rw [hy, hl]
      simp [show 5 ≤ n by omega])
    generalize hy : v.getD 1 0 = y at *
    have HP2 := Lib.hid (HP.out y rfl)
    clear hc hr hl hy HP
    have h5' : ¬ (n : Int) < 5 := by omega
    by_cases hy6 : y = 6
    · subst hy6
      by_cases h9 : n = 9
      · subst h9
        go_enter Tryz.func229, Tryz.ntmps229
        go_wp2
        go_ret
        exact ⟨by rw [HP2.out]; rfl, rfl⟩
      · have e9 : ((n : Int) - 5 == 4) = false := by simp; omega
        cases e21 : ((n : Int) - 5 == 16)
        · have h21 : n ≠ 21 := by rintro rfl; simp at e21
          go_enter Tryz.func229, Tryz.ntmps229
          go_wp2
          go_ret
          exact ⟨by rw [HP2.out]; simp [h9, h21], rfl⟩
        · have h21 : n = 21 := by simp at e21; omega
          go_enter Tryz.func229, Tryz.ntmps229
          go_wp2
          go_ret
          exact ⟨by rw [HP2.out]; simp [h21], rfl⟩
    · have ey : (y != 6) = true := by simpa using hy6
      go_enter Tryz.func229, Tryz.ntmps229
      go_wp2
      go_ret
      exact ⟨by rw [HP2.out]; simp [hy6], rfl⟩

theorem nat_beq (n m : Nat) (b : Bool) (h : decide (n = m) = b) : ((n : Int) == (m : Int)) = b := by
  subst h
  rw [Bool.eq_iff_iff, beq_iff_eq, decide_eq_true_iff]
  omega
def IsV (w : World) (k : Int) (v : List Int) (e : Ending) (w' : World) : Prop := e = .returned (.bool (okV k v)) ∧ Below w.heap.size w w'

section
variable (w : World) (A : Option Addr) (n c : Nat) (v : List Int) (hr : Rd w w.heap.size A n v) (hm : n ≤ 281474976710656)
set_option maxHeartbeats 1000000 in
include hr hm in
theorem isValue_1 : Calls Tryz.prog 210 #[.int .i64 1, .slice A n c] w (IsV w 1 v) := by
  have hl := hr.len
  have HV : Hid (okV 1 v = (decide (n = 1) && decide (v.getD 0 0 ≤ 2))) := Lib.hid (by unfold okV; rw [if_pos rfl, hl])
  by_cases h1 : n = 1
  · subst h1
    obtain ⟨b, off, rfl, hb, hc⟩ := hr.at_ (by omega)
    have c0 : w.cell? ⟨b, off, none⟩ = some (.int .u8 (v.getD 0 0)) := hc 0 (by omega)
    have o0 := hr.oct.getD 0
    generalize v.getD 0 0 = x at *
    have ex : IntKind.i64.wrap x = x := by rw [IntKind.wrap_i64]; omega
    clear hr hl hc
    go_enter Tryz.func210, Tryz.ntmps210
    go_wp2_with fail
    refine (isOrigin_is w x).mono ?_
    rintro e w' ⟨rfl, rfl⟩
    go_wp2
    go_ret
    exact ⟨by rw [HV.out]; simp [o0.1], Below.refl _ _⟩
  · have e1 := nat_beq n 1 false (by simpa using h1)
    clear hr hl
    go_enter Tryz.func210, Tryz.ntmps210
    go_wp2
    go_ret
    exact ⟨by rw [HV.out]; simp [h1], Below.refl _ _⟩
set_option maxHeartbeats 1000000 in
include hr hm in
theorem isValue_2 : Calls Tryz.prog 210 #[.int .i64 2, .slice A n c] w (IsV w 2 v) := by
  have H := Lib.hid (isPath_is w _ A n c v hr hm)
  have HV : Hid (okV 2 v = okPath v) := Lib.hid (by rfl)
  clear hr
  go_enter Tryz.func210, Tryz.ntmps210
  go_wp2_with fail
  refine H.out.mono ?_
  rintro e w' ⟨rfl, rfl⟩
  go_wp2
  go_ret
  exact ⟨by rw [HV.out]; rfl, Below.refl _ _⟩
set_option maxHeartbeats 1000000 in
include hr hm in
theorem isValue_22 : Calls Tryz.prog 210 #[.int .i64 22, .slice A n c] w (IsV w 22 v) := by
  have H := Lib.hid (isPmsi_is w _ A n c v hr hm)
  have HV : Hid (okV 22 v = okPmsi v) := Lib.hid (by rfl)
  clear hr
  go_enter Tryz.func210, Tryz.ntmps210
  go_wp2_with fail
  refine H.out.mono ?_
  rintro e w' ⟨rfl, rfl⟩
  go_wp2
  go_ret
  exact ⟨by rw [HV.out]; rfl, Below.refl _ _⟩
set_option maxHeartbeats 1000000 in
include hr in
theorem isValue_len (k : Int) (m : Nat) (hk : (k = 3 ∨ k = 4 ∨ k = 5) ∧ m = 4 ∨ k = 6 ∧ m = 0 ∨ k = 7 ∧ m = 8) : Calls Tryz.prog 210 #[.int .i64 k, .slice A n c] w (IsV w k v) := by
  have hl := hr.len
  have HV : Hid (okV k v = decide (n = m)) := Lib.hid (by rcases hk with ⟨rfl | rfl | rfl, rfl⟩ | ⟨rfl, rfl⟩ | ⟨rfl, rfl⟩ <;> (rw [← hl]; rfl))
  have HE := Lib.hid (nat_beq n m _ rfl)
  clear hr hl
  rcases hk with ⟨rfl | rfl | rfl, rfl⟩ | ⟨rfl, rfl⟩ | ⟨rfl, rfl⟩ <;>
  · go_enter Tryz.func210, Tryz.ntmps210
    go_wp2
    go_ret
    exact ⟨by rw [HV.out, ← HE.out]; rfl, Below.refl _ _⟩
set_option maxHeartbeats 1000000 in
include hr hm in
theorem isValue_rem (k : Int) (m : Nat) (hk : k = 10 ∧ m = 4 ∨ k = 16 ∧ m = 8) : Calls Tryz.prog 210 #[.int .i64 k, .slice A n c] w (IsV w k v) := by
  have hl := hr.len
  have HV : Hid (okV k v = (decide (0 < n) && decide (n % m = 0))) := Lib.hid (by rcases hk with ⟨rfl, rfl⟩ | ⟨rfl, rfl⟩ <;> (rw [← hl]; rfl))
  clear hr hl
  rcases Nat.eq_zero_or_pos n with h0 | h0
  · subst h0
    rcases hk with ⟨rfl, rfl⟩ | ⟨rfl, rfl⟩ <;>
    · go_enter Tryz.func210, Tryz.ntmps210
      go_wp2
      go_ret
      exact ⟨by rw [HV.out]; rfl, Below.refl _ _⟩
  · have hp : (0 : Int) < n := by omega
    rcases hk with ⟨rfl, rfl⟩ | ⟨rfl, rfl⟩ <;>
    · go_enter Tryz.func210, Tryz.ntmps210
      go_wp2
      go_ret
      refine ⟨?_, Below.refl _ _⟩
      rw [HV.out]
      simp [h0]
      rw [Bool.eq_iff_iff, beq_iff_eq, decide_eq_true_iff]
      omega
set_option maxHeartbeats 1000000 in
include hr hm in
theorem isValue_9 : Calls Tryz.prog 210 #[.int .i64 9, .slice A n c] w (IsV w 9 v) := by
  have hl := hr.len
  have HV : Hid (okV 9 v = (decide (n = 4) && decide (numOf v ≠ 0))) := Lib.hid (by rw [← hl]; rfl)
  by_cases h4 : n = 4
  · subst h4
    have HR := Lib.hid hr
    have HL := Lib.hid hl
    clear hr hl
    go_enter Tryz.func210, Tryz.ntmps210
    go_wp2_with fail
    refine (new_is w A 4 c v HR.out (by omega)).mono ?_
    rintro e w1 ⟨g, rfl, hg, hcur, hB⟩
    have HC := Lib.hid hcur
    have HB := Lib.hid hB
    have HG := Lib.hid hg
    clear hcur hB hg
    go_wp2_with fail
    refine (num_is w1 g v 0 0 4 HC.out).mono ?_
    rintro e w2 ⟨rfl, _, hgr⟩
    have HB2 := Lib.hid (below_only HB.out hgr HB.out.size (fun j e => by injection e with e; rw [← e]; exact HG.out))
    have hnv : numVal v 0 0 4 = numOf v := by
      unfold numVal stepTook
      have := HL.out
      rw [if_pos (by decide), if_pos (by omega)]
      simp
      rw [List.take_of_length_le (by omega)]
    rw [hnv]
    have HN := Lib.hid (rfl : (numOf v != 0) = (numOf v != 0))
    generalize numOf v = q at *
    clear hgr hnv HB HC
    go_wp2
    go_ret
    refine ⟨?_, HB2.out⟩
    rw [HV.out]
    simp
    rfl
  · have e1 := nat_beq n 4 false (by simpa using h4)
    clear hr hl
    go_enter Tryz.func210, Tryz.ntmps210
    go_wp2
    go_ret
    exact ⟨by rw [HV.out]; simp [h4], Below.refl _ _⟩
set_option maxHeartbeats 1000000 in
theorem isValue_any (k : Int) (hk : k ≠ 1 ∧ k ≠ 2 ∧ k ≠ 3 ∧ k ≠ 4 ∧ k ≠ 5 ∧ k ≠ 6 ∧ k ≠ 7 ∧ k ≠ 9 ∧ k ≠ 10 ∧ k ≠ 16 ∧ k ≠ 22) : Calls Tryz.prog 210 #[.int .i64 k, .slice A n c] w (IsV w k v) := by
  obtain ⟨k1, k2, k3, k4, k5, k6, k7, k9, k10, k16, k22⟩ := hk
  have HV : Hid (okV k v = true) := Lib.hid (by unfold okV; rw [if_neg k1, if_neg k2, if_neg (by omega), if_neg k6, if_neg k7, if_neg k9, if_neg k10, if_neg k16, if_neg k22])
  have e1 : (k == 1) = false := by simpa using k1
  have e2 : (k == 2) = false := by simpa using k2
  have e3 : (k == 3) = false := by simpa using k3
  have e4 : (k == 4) = false := by simpa using k4
  have e5 : (k == 5) = false := by simpa using k5
  have e6 : (k == 6) = false := by simpa using k6
  have e7 : (k == 7) = false := by simpa using k7
  have e9 : (k == 9) = false := by simpa using k9
  have e10 : (k == 10) = false := by simpa using k10
  have e16 : (k == 16) = false := by simpa using k16
  have e22 : (k == 22) = false := by simpa using k22
  go_enter Tryz.func210, Tryz.ntmps210
  go_wp2
  go_ret
  exact ⟨by rw [HV.out]; rfl, Below.refl _ _⟩
include hr hm in
theorem isValue_is (k : Int) : Calls Tryz.prog 210 #[.int .i64 k, .slice A n c] w (IsV w k v) := by
  by_cases h1 : k = 1
  · subst h1; exact isValue_1 w A n c v hr hm
  by_cases h2 : k = 2
  · subst h2; exact isValue_2 w A n c v hr hm
  by_cases h3 : k = 3 ∨ k = 4 ∨ k = 5
  · exact isValue_len w A n c v hr k 4 (.inl ⟨h3, rfl⟩)
  by_cases h6 : k = 6
  · exact isValue_len w A n c v hr k 0 (.inr (.inl ⟨h6, rfl⟩))
  by_cases h7 : k = 7
  · exact isValue_len w A n c v hr k 8 (.inr (.inr ⟨h7, rfl⟩))
  by_cases h9 : k = 9
  · subst h9; exact isValue_9 w A n c v hr hm
  by_cases h10 : k = 10
  · exact isValue_rem w A n c v hr hm k 4 (.inl ⟨h10, rfl⟩)
  by_cases h16 : k = 16
  · exact isValue_rem w A n c v hr hm k 8 (.inr ⟨h16, rfl⟩)
  by_cases h22 : k = 22
  · subst h22; exact isValue_22 w A n c v hr hm
  exact isValue_any w A n c v k (by omega)
end

set_option maxHeartbeats 2000000 in
theorem judge_is (w : World) (E : EnvK w) (f k : Int) (A : Option Addr) (n c : Nat) (v : List Int) (hr : Rd w w.heap.size A n v) (hm : n ≤ 281474976710656) :
    Calls Tryz.prog 170 #[.agg #[.int .i64 f, .int .i64 k, .slice A n c]] w fun e w' => e = .returned (.int .i64 (judge f k v)) ∧ Below w.heap.size w w' := by
  have hb0 : Below w.heap.size w (w.alloc (.cells #[.int .i64 f, .int .i64 k, .slice A n c] 67)) := (Below.refl _ _).alloc (Nat.le_refl _) _
  have HE := Lib.hid (E.below hb0)
  have HB := Lib.hid hb0
  have HR := Lib.hid hr
  have HN := Lib.hid (Blk.new w 67 #[.int .i64 f, .int .i64 k, .slice A n c])
  have HS : Hid (w.heap.size < (w.alloc (.cells #[.int .i64 f, .int .i64 k, .slice A n c] 67)).heap.size) := Lib.hid (by simp)
  have HJ : Hid (judge f k v = match bnd k with | none => unk f | some (fl, cl) => if bits .and .i64 f 192 == fl && okV k v then 0 else cl) := Lib.hid rfl
  clear hr hb0 E
  go_enter Tryz.func170, Tryz.ntmps170
  go_wp2_with fail
  refine (boundsOf_is _ HE.out k).mono ?_
  generalize (w.alloc (.cells #[.int .i64 f, .int .i64 k, .slice A n c] 67)) = w0 at *
  rintro e w1 ⟨rfl, hB1⟩
  have hN1 := HN.out.below hB1 HS.out
  have HB1 := Lib.hid (HB.out.trans (hB1.mono (Nat.le_of_lt HS.out)))
  have hR1 := HR.out.below HB1.out
  have c0 : w1.cell? ⟨w.heap.size, 0, none⟩ = some (.int .i64 f) := hN1.cell 0
  have c1 : w1.cell? ⟨w.heap.size, 1, none⟩ = some (.int .i64 k) := hN1.cell 1
  have c2 : w1.cell? ⟨w.heap.size, 2, none⟩ = some (.slice A n c) := hN1.cell 2
  have hs1 : w.heap.size < w1.heap.size := hN1.lt
  have HR1 := Lib.hid hR1
  clear hB1 hN1 HB HR HN HE HS hR1
  unfold bndV
  cases hbk : bnd k with
  | none =>
    rw [hbk] at HJ
    go_wp2_with fail
    refine (judgeUnknown_is _ f).mono ?_
    rintro e w2 ⟨rfl, rfl⟩
    go_wp2
    go_ret
    exact ⟨by rw [HJ.out]; rfl, HB1.out.alloc HB1.out.size _⟩
  | some r =>
    obtain ⟨fl, cl⟩ := r
    rw [hbk] at HJ
    simp only at HJ ⊢
    have hB2 := HB1.out.alloc HB1.out.size (.cells #[.int .i64 k, .int .i64 fl, .int .i64 cl] 217)
    have HR2 := Lib.hid (HR1.out.below ((Below.refl w.heap.size w1).alloc (Nat.le_of_lt hs1) (.cells #[.int .i64 k, .int .i64 fl, .int .i64 cl] 217)))
    have HB2 := Lib.hid hB2
    have HZ := Lib.hid hB2.size
    clear hB2
    cases hq : bits .and .i64 f 192 == fl with
    | false =>
      have hq' : (bits .and .i64 f 192 != fl) = true := by simpa using hq
      rw [hq] at HJ
      clear hq
      go_wp2
      go_ret
      exact ⟨by rw [HJ.out]; rfl, HB2.out⟩
    | true =>
      have hq' : (bits .and .i64 f 192 != fl) = false := by simpa using hq
      rw [hq] at HJ
      clear hq
      go_wp2_with fail
      refine (isValue_is _ A n c v (HR2.out.more HZ.out) hm k).mono ?_
      rintro e w2 ⟨rfl, hB3⟩
      have c3 : w2.cell? ⟨w1.heap.size, 2, none⟩ = some (.int .i64 cl) := ((Blk.new w1 217 #[.int .i64 k, .int .i64 fl, .int .i64 cl]).below hB3 (by simp)).cell 2
      have HB3 := Lib.hid (HB2.out.trans (hB3.mono HZ.out))
      clear hB3 HB2 HR2 HR1 HB1 c0 c1 c2
      generalize okV k v = q at *
      cases q with
      | false =>
        go_wp2
        go_ret
        exact ⟨by rw [HJ.out]; rfl, HB3.out⟩
      | true =>
        go_wp2
        go_ret
        exact ⟨by rw [HJ.out]; rfl, HB3.out⟩
end Go.Proofs.YtdgoeibfggjbmaaGreatDoor
namespace Go.Proofs.YtdgoeibfggjbmaaGreatDoor
open Go.RowKit
set_option maxRecDepth 100000
set_option linter.unusedSimpArgs false
set_option linter.unusedVariables false

theorem only_setCells {a : World} {g g' : Nat} (hp : g' = g ∨ a.heap.size ≤ g') : ∀ (vs : List Value) (o : Nat) (w : World), a.grownBy w (some g) → a.grownBy (w.setCells g' o vs) (some g)
  | [], o, w, h => h
  | v :: r, o, w, h => only_setCells hp r (o + 1) _ (only_setCell h (p := ⟨g', o, none⟩) hp v)
theorem range_app {w : World} {b o : Nat} {xs ys : List Value} (h1 : w.rangeAt b o xs) (h2 : w.rangeAt b (o + xs.length) ys) : w.rangeAt b o (xs ++ ys) := fun j v hv => by
  rcases Nat.lt_or_ge j xs.length with h | h
  · rw [List.getElem?_append_left h] at hv; exact h1 j v hv
  · rw [List.getElem?_append_right h] at hv
    have := h2 _ v hv
    rwa [show o + xs.length + (j - xs.length) = o + j by omega] at this
theorem Blk.there {w : World} {g : Nat} {t : TypeId} {cs : Array Value} (h : Blk w g t cs) (o n : Nat) (hn : o + n ≤ cs.size) : w.there g o n := fun j hj => by
  refine ⟨?_, h.frozen _⟩
  rw [h.cell, Array.getElem?_eq_getElem (by omega)]
  rfl

/-- What is said of floods. -/
structure Pm where
  kind : Int
  label : Int
  v6 : Bool
  ip : List Int
def z16 : List Int := List.replicate 16 0
def Pm.zero : Pm := ⟨0, 0, false, z16⟩
def pmc (p : Pm) : List Value := .int .i64 p.kind :: .int .u32 p.label :: ipc p.v6 p.ip
theorem pmc_len (p : Pm) (h : p.ip.length = 16) : (pmc p).length = 19 := by simp [pmc, h]
theorem one_pmc (p : Pm) : ∀ v ∈ pmc p, v.oneCell' = true := by
  intro v hv
  rcases List.mem_cons.1 hv with rfl | hv
  · rfl
  · rcases List.mem_cons.1 hv with rfl | hv
    · rfl
    · exact one_ipc _ _ v hv
theorem z16_len : z16.length = 16 := by simp [z16]
theorem z16_oct : Oct z16 := by
  intro x hx
  have := List.eq_of_mem_replicate hx
  omega
def pmOf (v : List Int) : Pm :=
  if v.getD 1 0 = 0 then Pm.zero else if v.getD 1 0 = 6 then ⟨6, numOf ((v.drop 2).take 3), (ipOf (v.drop 5)).1, (ipOf (v.drop 5)).2⟩ else ⟨v.getD 1 0, numOf ((v.drop 2).take 3), false, z16⟩
theorem pmsz : (Tryz.prog.info? 29).map (·.size) = some 19 := by kernel_rfl
theorem pm_store {ops : Array Oper} {rest : List Oper} {o : Oper} {a : Act} {w : World} {Q : Exit → Act → World → Prop} (hgd : o.guard = none) (x y : Operand) (ho : o.op = .store 29 x y) (g : Nat) (p : Pm) (hl : p.ip.length = 16)
    (hx : a.eval x = .pointer (some ⟨g, 0, none⟩)) (hy : a.eval y = .agg (pmc p).toArray) (t : TypeId) (old : Array Value) (hg : Blk w g t old) (hold : old.size = 19)
    (h : wpList Tryz.prog ops Q rest (a.put o.dst undef) (w.setRow g (pmc p).toArray)) : wpList Tryz.prog ops Q (o :: rest) a w :=
  wpList_store_row hgd 29 x y ho g _ hx hy t old hg (by rw [pmsz]; simp [pmc_len p hl]) (by rw [hold]; simp [pmc_len p hl]) (all_oneCell_toArray (one_pmc p)) h
theorem pm_fetch {ops : Array Oper} {rest : List Oper} {op : Oper} {a : Act} {w : World} {Q : Exit → Act → World → Prop} (hw : Region.wanted op (yielded ops a.tmps) = true) (x : Operand) (ho : op.op = .load 29 x)
    (g o : Nat) (p : Pm) (hl : p.ip.length = 16) (hx : a.eval x = .pointer (some ⟨g, o, none⟩)) (hc : w.rangeAt g o (pmc p)) (h : wpList Tryz.prog ops Q rest (a.put op.dst (.agg (pmc p).toArray)) w) : wpList Tryz.prog ops Q (op :: rest) a w :=
  BigFrame.wpList_want hw fun _ hK => wp_load_mid 29 x ho g o hx (pmc p) _ hc Tryz.underlying29 rfl (by rw [pmsz, pmc_len p hl]) (hK _ _ h)
theorem built_pm (k l : Int) : Tryz.prog.built 29 [(0, .int .i64 k), (1, .int .u32 l)] = some (pmc ⟨k, l, false, z16⟩).toArray := by kernel_rfl
theorem built_pm0 : Tryz.prog.built 29 [] = some (pmc Pm.zero).toArray := by kernel_rfl
theorem pm_build {ops : Array Oper} {rest : List Oper} {o : Oper} {a : Act} {w : World} {Q : Exit → Act → World → Prop} (hg : o.guard = none) (x y : Operand) (ho : o.op = .build 29 #[(0, x), (1, y)]) (k l : Int)
    (hx : a.eval x = .int .i64 k) (hy : a.eval y = .int .u32 l) (h : wpList Tryz.prog ops Q rest (a.put o.dst (.agg (pmc ⟨k, l, false, z16⟩).toArray)) w) : wpList Tryz.prog ops Q (o :: rest) a w := by
  have hb := built_pm k l
  have he : (#[(0, x), (1, y)].map fun (i, x) => (i, a.eval x)).toList = [(0, .int .i64 k), (1, .int .u32 l)] := by simp [hx, hy]
  refine wpList_build hg 29 _ ho (by rw [he, hb]; rfl) ?_
  rw [he, hb]
  exact h
theorem pm_build0 {ops : Array Oper} {rest : List Oper} {o : Oper} {a : Act} {w : World} {Q : Exit → Act → World → Prop} (hg : o.guard = none) (ho : o.op = .build 29 #[]) 
    (h : wpList Tryz.prog ops Q rest (a.put o.dst (.agg (pmc Pm.zero).toArray)) w) : wpList Tryz.prog ops Q (o :: rest) a w := by
  have hb := built_pm0
  have he : ((#[] : Array (Nat × Operand)).map fun (i, x) => (i, a.eval x)).toList = [] := by simp
  refine wpList_build hg 29 _ ho (by rw [he, hb]; rfl) ?_
  rw [he, hb]
  exact h
theorem ip_mid {ops : Array Oper} {rest : List Oper} {o : Oper} {a : Act} {w : World} {Q : Exit → Act → World → Prop} (hgd : o.guard = none) (x y : Operand) (ho : o.op = .store 27 x y) (g off : Nat) (v6 : Bool) (l : List Int) (hl : l.length = 16)
    (hx : a.eval x = .pointer (some ⟨g, off, none⟩)) (hy : a.eval y = .agg (ipc v6 l).toArray) (ht : w.there g off 17)
    (h : wpList Tryz.prog ops Q rest (a.put o.dst undef) (w.setCells g off (ipc v6 l))) : wpList Tryz.prog ops Q (o :: rest) a w :=
  wpList_store_mid hgd 27 x y ho g off (ipc v6 l).toArray hx hy (by simpa [hl] using ht) (by rw [ipsz]; simp [hl]) (all_oneCell_toArray (one_ipc v6 l)) h
theorem grown_setRow {a w : World} {g g' : Nat} (h : a.grownBy w (some g)) (hp : a.heap.size ≤ g') (cs : Array Value) : a.grownBy (w.setRow g' cs) (some g) :=
  ⟨h.os, h.tape, h.output, by rw [size_setRow]; exact h.size, fun i hi hne => (setRow_other w g' i _ (by omega)).trans (h.block i hi hne)⟩
theorem Blk.row_other {w : World} {g g' : Nat} {t : TypeId} {cs : Array Value} (h : Blk w g t cs) (hne : g ≠ g') (ds : Array Value) : Blk (w.setRow g' ds) g t cs := (setRow_other w g' g _ hne).trans h

def ReadP (w : World) (g : Nat) (l : List Int) (e : Ending) (w' : World) : Prop := e = .returned (.agg (pmc (pmOf l)).toArray) ∧ w.grownBy w' (some g)
theorem ipOf_len {v : List Int} (h : v.length = 4 ∨ v.length = 16) : (ipOf v).2.length = 16 := by
  unfold ipOf
  rcases h with h | h
  · rw [if_pos h]; simp [h]
  · rw [if_neg (by omega)]; exact h
theorem pmOf_len {l : List Int} (h : okPmsi l = true) : (pmOf l).ip.length = 16 := by
  unfold pmOf
  split
  · rfl
  · split
    · rename_i h1 h6
      refine ipOf_len ?_
      unfold okPmsi at h
      rw [h6] at h
      simp at h
      rw [List.length_drop]
      omega
    · rfl

set_option maxHeartbeats 2000000 in
theorem readPmsi_is (w : World) (g : Nat) (l : List Int) (h : IsCur w g l 0 0) (ho : Oct l) (hok : okPmsi l = true) :
    Calls Tryz.prog 213 #[.pointer (some ⟨g, 0, none⟩)] w (ReadP w g l) := by
  have hglt := h.lt
  have h5 : 5 ≤ l.length := by unfold okPmsi at hok; simp at hok; omega
  have h69 : l.getD 1 0 = 6 → l.length = 9 ∨ l.length = 21 := by intro h6; unfold okPmsi at hok; rw [h6] at hok; simp at hok; omega
  have HP : Hid (∀ w' k lab, k = l.getD 1 0 → lab = numOf ((l.drop 2).take 3) → w.grownBy w' (some g) → (k = 0 → ReadP w g l (.returned (.agg (pmc Pm.zero).toArray)) w') ∧ (k = 6 → ReadP w g l (.returned (.agg (pmc ⟨6, lab, (ipOf (l.drop 5)).1, (ipOf (l.drop 5)).2⟩).toArray)) w') ∧ (k ≠ 0 → k ≠ 6 → ReadP w g l (.returned (.agg (pmc ⟨k, lab, false, z16⟩).toArray)) w')) := Lib.hid fun w' k lab hk hlab hg => by
    subst hk hlab
    refine ⟨fun h0 => ⟨by unfold pmOf; rw [if_pos h0], hg⟩, fun h6 => ⟨by unfold pmOf; rw [if_neg (by omega), if_pos h6], hg⟩, fun h0 h6 => ⟨by unfold pmOf; rw [if_neg h0, if_neg h6], hg⟩⟩
  have HB0 : Hid (Below w.heap.size w (w.alloc (.cells #[Value.int .i64 0, .int .u32 0, .bool false, .int .u8 0, .int .u8 0, .int .u8 0, .int .u8 0, .int .u8 0, .int .u8 0, .int .u8 0, .int .u8 0, .int .u8 0, .int .u8 0, .int .u8 0, .int .u8 0, .int .u8 0, .int .u8 0, .int .u8 0, .int .u8 0] 29))) := Lib.hid ((Below.refl _ _).alloc (Nat.le_refl _) _)
  have HC := Lib.hid (h.keep (HB0.out.mono hglt))
  have HN := Lib.hid (Blk.new w 29 #[Value.int .i64 0, .int .u32 0, .bool false, .int .u8 0, .int .u8 0, .int .u8 0, .int .u8 0, .int .u8 0, .int .u8 0, .int .u8 0, .int .u8 0, .int .u8 0, .int .u8 0, .int .u8 0, .int .u8 0, .int .u8 0, .int .u8 0, .int .u8 0, .int .u8 0])
  have HO := Lib.hid ho
  have H69 := Lib.hid h69
  clear h ho hok h69
  go_enter Tryz.func213, Tryz.ntmps213
  go_wp2_with fail
  refine (skip_is _ g l 0 0 1 HC.out).mono ?_
  generalize (w.alloc (.cells #[Value.int .i64 0, .int .u32 0, .bool false, .int .u8 0, .int .u8 0, .int .u8 0, .int .u8 0, .int .u8 0, .int .u8 0, .int .u8 0, .int .u8 0, .int .u8 0, .int .u8 0, .int .u8 0, .int .u8 0, .int .u8 0, .int .u8 0, .int .u8 0, .int .u8 0] 29)) = w0 at *
  rintro e w1 ⟨rfl, hc1, hg1⟩
  have hs1 := took_ok l 0 1 (by omega)
  rw [show ((1 : Nat) : Int) = 1 from rfl] at hs1
  rw [hs1.2.1, hs1.2.2] at hc1
  have HC1 := Lib.hid hc1
  have HG1 := Lib.hid (only_trans (only_of_below HB0.out (some g)) hg1)
  have HN1 := Lib.hid (HN.out.grown hg1 (fun e => by injection e; omega))
  clear hc1 hg1 hs1 HC HN HB0
  obtain ⟨n1, n2, n3⟩ := num_ok' l 1 1 (by omega) (by omega) (by omega)
  have HK := Lib.hid (num_is w1 g l 1 0 ((1 : Nat) : Int) HC1.out)
  unfold Numd at HK
  rw [n1, n2, n3, numOf_one l 1 (by omega)] at HK
  have hk := HO.out.getD 1
  clear n1 n2 n3
  have HKv : Hid (∃ k, k = l.getD 1 0) := Lib.hid ⟨_, rfl⟩
  obtain ⟨k, hkk⟩ := HKv.out
  rw [← hkk] at HK hk
  have HKK := Lib.hid hkk
  clear hkk HKv
  have hwk : IntKind.i64.wrap k = k := by rw [IntKind.wrap_i64]; omega
  go_wp2_with fail
  refine HK.out.mono ?_
  rintro e w2 ⟨rfl, hc2, hg2⟩
  have HC2 := Lib.hid hc2
  have HG2 := Lib.hid (only_trans HG1.out hg2)
  have HN2 := Lib.hid (HN1.out.grown hg2 (fun e => by injection e; omega))
  clear hc2 hg2 HC1 HG1 HN1 HK
  obtain ⟨n1, n2, n3⟩ := num_ok' l 2 3 (by omega) (by omega) (by omega)
  have HK := Lib.hid (num_is w2 g l 2 0 ((3 : Nat) : Int) HC2.out)
  unfold Numd at HK
  rw [n1, n2, n3] at HK
  have hbd := numOf_bd ((l.drop 2).take 3) (fun x hx => HO.out x (List.mem_of_mem_drop (List.mem_of_mem_take hx)))
  rw [show ((l.drop 2).take 3).length = 3 by simp; omega] at hbd
  have HKv : Hid (∃ k, k = numOf ((l.drop 2).take 3)) := Lib.hid ⟨_, rfl⟩
  obtain ⟨lab, hlab⟩ := HKv.out
  rw [← hlab] at HK hbd
  have HLab := Lib.hid hlab
  clear hlab HKv n1 n2 n3
  have hwl : IntKind.u32.wrap lab = lab := by rw [IntKind.wrap_u32]; omega
  have hwl2 : lab % 4294967296 = lab := by omega
  have HFin := Lib.hid (fun w' hg => HP.out w' k lab HKK.out HLab.out hg)
  go_wp2_with fail
  refine HK.out.mono ?_
  rintro e w3 ⟨rfl, hc3, hg3⟩
  have hG3 := only_trans HG2.out hg3
  have hN3 := HN2.out.grown hg3 (fun e => by injection e; omega)
  have hz3 : w.heap.size < w3.heap.size := hN3.lt
  have hal : Below w3.heap.size w3 (w3.alloc (.cells #[Value.int .i64 0, .int .u32 0, .bool false, .int .u8 0, .int .u8 0, .int .u8 0, .int .u8 0, .int .u8 0, .int .u8 0, .int .u8 0, .int .u8 0, .int .u8 0, .int .u8 0, .int .u8 0, .int .u8 0, .int .u8 0, .int .u8 0, .int .u8 0, .int .u8 0] 29)) := (Below.refl _ _).alloc (Nat.le_refl _) _
  have HC4 := Lib.hid (hc3.keep (hal.mono hc3.lt))
  have HP4 := Lib.hid (Blk.new w3 29 #[Value.int .i64 0, .int .u32 0, .bool false, .int .u8 0, .int .u8 0, .int .u8 0, .int .u8 0, .int .u8 0, .int .u8 0, .int .u8 0, .int .u8 0, .int .u8 0, .int .u8 0, .int .u8 0, .int .u8 0, .int .u8 0, .int .u8 0, .int .u8 0, .int .u8 0])
  have HN4 := Lib.hid (hN3.below hal hN3.lt)
  have HG4 : Hid (w.grownBy (w3.alloc (.cells #[Value.int .i64 0, .int .u32 0, .bool false, .int .u8 0, .int .u8 0, .int .u8 0, .int .u8 0, .int .u8 0, .int .u8 0, .int .u8 0, .int .u8 0, .int .u8 0, .int .u8 0, .int .u8 0, .int .u8 0, .int .u8 0, .int .u8 0, .int .u8 0, .int .u8 0] 29)) (some g)) := Lib.hid (only_trans hG3 (only_of_below hal _))
  have HZ3 := Lib.hid hz3
  have HGl : Hid (g < w3.heap.size) := Lib.hid hc3.lt
  have HP5 : Hid (Blk ((w3.alloc (.cells #[Value.int .i64 0, .int .u32 0, .bool false, .int .u8 0, .int .u8 0, .int .u8 0, .int .u8 0, .int .u8 0, .int .u8 0, .int .u8 0, .int .u8 0, .int .u8 0, .int .u8 0, .int .u8 0, .int .u8 0, .int .u8 0, .int .u8 0, .int .u8 0, .int .u8 0] 29)).setRow w3.heap.size (pmc ⟨k, lab, false, z16⟩).toArray) w3.heap.size 29 (pmc ⟨k, lab, false, z16⟩).toArray) := Lib.hid (Blk.setRow HP4.out _)
  have HN5 : Hid (Blk ((w3.alloc (.cells #[Value.int .i64 0, .int .u32 0, .bool false, .int .u8 0, .int .u8 0, .int .u8 0, .int .u8 0, .int .u8 0, .int .u8 0, .int .u8 0, .int .u8 0, .int .u8 0, .int .u8 0, .int .u8 0, .int .u8 0, .int .u8 0, .int .u8 0, .int .u8 0, .int .u8 0] 29)).setRow w3.heap.size (pmc ⟨k, lab, false, z16⟩).toArray) w.heap.size 29 #[Value.int .i64 0, .int .u32 0, .bool false, .int .u8 0, .int .u8 0, .int .u8 0, .int .u8 0, .int .u8 0, .int .u8 0, .int .u8 0, .int .u8 0, .int .u8 0, .int .u8 0, .int .u8 0, .int .u8 0, .int .u8 0, .int .u8 0, .int .u8 0, .int .u8 0]) := Lib.hid (HN4.out.row_other (by omega) _)
  have HG5 : Hid (w.grownBy ((w3.alloc (.cells #[Value.int .i64 0, .int .u32 0, .bool false, .int .u8 0, .int .u8 0, .int .u8 0, .int .u8 0, .int .u8 0, .int .u8 0, .int .u8 0, .int .u8 0, .int .u8 0, .int .u8 0, .int .u8 0, .int .u8 0, .int .u8 0, .int .u8 0, .int .u8 0, .int .u8 0] 29)).setRow w3.heap.size (pmc ⟨k, lab, false, z16⟩).toArray) (some g)) := Lib.hid (grown_setRow HG4.out (by omega) _)
  have HC5 : Hid (IsCur ((w3.alloc (.cells #[Value.int .i64 0, .int .u32 0, .bool false, .int .u8 0, .int .u8 0, .int .u8 0, .int .u8 0, .int .u8 0, .int .u8 0, .int .u8 0, .int .u8 0, .int .u8 0, .int .u8 0, .int .u8 0, .int .u8 0, .int .u8 0, .int .u8 0, .int .u8 0, .int .u8 0] 29)).setRow w3.heap.size (pmc ⟨k, lab, false, z16⟩).toArray) g l 5 0) := Lib.hid (HC4.out.keep (below_setRow _ w3.heap.size _ (B := g + 1) (by have := HGl.out; omega)))
  have c0 : ((w3.alloc (.cells #[Value.int .i64 0, .int .u32 0, .bool false, .int .u8 0, .int .u8 0, .int .u8 0, .int .u8 0, .int .u8 0, .int .u8 0, .int .u8 0, .int .u8 0, .int .u8 0, .int .u8 0, .int .u8 0, .int .u8 0, .int .u8 0, .int .u8 0, .int .u8 0, .int .u8 0] 29)).setRow w3.heap.size (pmc ⟨k, lab, false, z16⟩).toArray).cell? ⟨w3.heap.size, 0, none⟩ = some (.int .i64 k) := HP5.out.cell 0
  clear hc3 hg3 hG3 hN3 hz3 hal HC2 HG2 HN2 HK HC4 HN4 HG4
  by_cases hk0 : k = 0
  · have ek : (k == 0) = true := by simpa using hk0
    have HK0 := Lib.hid hk0
    clear hk0
    go_wp2_with (first
      | (refine pm_build rfl _ _ rfl k lab rfl rfl ?_)
      | (refine pm_build0 rfl rfl ?_)
      | (refine pm_store rfl _ _ rfl w3.heap.size ⟨k, lab, false, z16⟩ z16_len rfl rfl 29 _ HP4.out rfl ?_)
      | (refine pm_store rfl _ _ rfl w.heap.size Pm.zero z16_len rfl rfl 29 _ HN5.out rfl ?_))
    try simp only [Exit.inBlock, Exit.then]
    refine bodyPost_ret (results_cell_row rfl _ _ w.heap.size 29 _ (0, 0) _ rfl (Blk.setRow HN5.out _) Tryz.underlying29 rfl (by rw [pmsz]; rfl)) rfl ?_
    exact (HFin.out _ (grown_setRow HG5.out (Nat.le_refl _) _)).1 HK0.out
  · have ek : (k == 0) = false := by simpa using hk0
    by_cases hk6 : k = 6
    · have ek6 : (k == 6) = true := by simpa using hk6
      have h9 : l.length = 5 + 4 ∨ l.length = 5 + 16 := by have := H69.out (by rw [← HKK.out]; exact hk6); omega
      have HI := Lib.hid (readIp_is _ g l 5 HC5.out HO.out h9)
      have HLi := Lib.hid (ipOf_len (v := l.drop 5) (by rw [List.length_drop]; omega))
      have HK6 := Lib.hid hk6
      unfold ReadI at HI
      obtain ⟨iv, hiv⟩ : ∃ iv, iv = (ipOf (l.drop 5)).1 := ⟨_, rfl⟩
      obtain ⟨il, hil⟩ : ∃ il, il = (ipOf (l.drop 5)).2 := ⟨_, rfl⟩
      rw [← hiv, ← hil] at HI HFin
      rw [← hil] at HLi
      clear hk6 h9 hiv hil
      go_wp2_with (first
        | (refine pm_build rfl _ _ rfl k lab rfl rfl ?_)
        | (refine pm_store rfl _ _ rfl w3.heap.size ⟨k, lab, false, z16⟩ z16_len rfl rfl 29 _ HP4.out rfl ?_)
        | fail)
      refine HI.out.mono ?_
      rintro e w6 ⟨rfl, hg6⟩
      generalize ((w3.alloc (.cells #[Value.int .i64 0, .int .u32 0, .bool false, .int .u8 0, .int .u8 0, .int .u8 0, .int .u8 0, .int .u8 0, .int .u8 0, .int .u8 0, .int .u8 0, .int .u8 0, .int .u8 0, .int .u8 0, .int .u8 0, .int .u8 0, .int .u8 0, .int .u8 0, .int .u8 0] 29)).setRow w3.heap.size (pmc ⟨k, lab, false, z16⟩).toArray) = w5 at *
      have hP6 := HP5.out.grown hg6 (fun e => by injection e with e; have := HGl.out; omega)
      have hN6 := HN5.out.grown hg6 (fun e => by injection e; omega)
      have hG6 := only_trans HG5.out hg6
      have hT := hP6.there 2 17 (by simp [pmc_len ⟨k, lab, false, z16⟩ z16_len])
      have hR7 : (w6.setCells w3.heap.size 2 (ipc iv il)).rangeAt w3.heap.size 0 (pmc ⟨6, lab, iv, il⟩) := by
        have a1 := World.rangeAt_setCells_same w6 w3.heap.size 2 (ipc iv il) (by simpa [HLi.out] using hT)
        have a2 := World.rangeAt_setCells_apart (range_pre (cs := [.int .i64 k, .int .u32 lab]) (ds := ipc false z16) (Blk.range hP6)) w3.heap.size 2 (ipc iv il) (.inr (.inl (by simp)))
        rw [HK6.out] at a2
        exact range_app a2 a1
      have hG7 : w.grownBy (w6.setCells w3.heap.size 2 (ipc iv il)) (some g) := only_setCells (.inr (by have := HZ3.out; omega)) _ _ _ hG6
      have hN7 : Blk (w6.setCells w3.heap.size 2 (ipc iv il)) w.heap.size 29 #[Value.int .i64 0, .int .u32 0, .bool false, .int .u8 0, .int .u8 0, .int .u8 0, .int .u8 0, .int .u8 0, .int .u8 0, .int .u8 0, .int .u8 0, .int .u8 0, .int .u8 0, .int .u8 0, .int .u8 0, .int .u8 0, .int .u8 0, .int .u8 0, .int .u8 0] := hN6.grown (only_setCells (a := w6) (g := w3.heap.size) (.inl rfl) _ _ _ (only_refl _ _)) (fun e => by injection e with e; have := HZ3.out; omega)
      have HT := Lib.hid hT
      have HR7 := Lib.hid hR7
      have HG7 := Lib.hid hG7
      have HN7 := Lib.hid hN7
      clear hg6 hP6 hN6 hG6 hT hR7 hG7 hN7 HP5 HN5 HG5 HC5 c0
      go_wp2_with (first
        | (refine ip_mid rfl _ _ rfl w3.heap.size 2 iv il HLi.out rfl rfl HT.out ?_)
        | (refine pm_fetch rfl _ rfl w3.heap.size 0 ⟨6, lab, iv, il⟩ HLi.out rfl HR7.out ?_)
        | (refine pm_store rfl _ _ rfl w.heap.size ⟨6, lab, iv, il⟩ HLi.out rfl rfl 29 _ HN7.out rfl ?_))
      try simp only [Exit.inBlock, Exit.then]
      refine bodyPost_ret (results_cell_row rfl _ _ w.heap.size 29 _ (0, 0) _ rfl (Blk.setRow HN7.out _) Tryz.underlying29 rfl (by rw [pmsz]; simp [pmc_len ⟨6, lab, iv, il⟩ HLi.out])) rfl ?_
      exact (HFin.out _ (grown_setRow HG7.out (Nat.le_refl _) _)).2.1 HK6.out
    · have ek6 : (k == 6) = false := by simpa using hk6
      have HK0 := Lib.hid hk0
      have HK6 := Lib.hid hk6
      have HR5 := Lib.hid (Blk.range HP5.out)
      clear hk0 hk6
      go_wp2_with (first
        | (refine pm_build rfl _ _ rfl k lab rfl rfl ?_)
        | (refine pm_store rfl _ _ rfl w3.heap.size ⟨k, lab, false, z16⟩ z16_len rfl rfl 29 _ HP4.out rfl ?_)
        | (refine pm_fetch rfl _ rfl w3.heap.size 0 ⟨k, lab, false, z16⟩ z16_len rfl HR5.out ?_)
        | (refine pm_store rfl _ _ rfl w.heap.size ⟨k, lab, false, z16⟩ z16_len rfl rfl 29 _ HN5.out rfl ?_))
      try simp only [Exit.inBlock, Exit.then]
      refine bodyPost_ret (results_cell_row rfl _ _ w.heap.size 29 _ (0, 0) _ rfl (Blk.setRow HN5.out _) Tryz.underlying29 rfl (by rw [pmsz]; rfl)) rfl ?_
      exact (HFin.out _ (grown_setRow HG5.out (Nat.le_refl _) _)).2.2 HK0.out HK6.out
end Go.Proofs.YtdgoeibfggjbmaaGreatDoor
