/-
  Layer 3: both streams side by side: what FrameFeeds carries on.
-/
import Derived.Test.YtoiigalaijnoeaaFrV
import Derived.Test.YtoiigalaijnoeaaFrW
namespace Go.Proofs.Ytoiigalaijnoeaa
open Go.RowKit
set_option linter.unusedSimpArgs false
set_option linter.unusedVariables false

/-- A stream that leads to one block beside its own. -/
def STid (w : World) (g : Nat) (q : Option Nat) (st : St) : Prop := ∃ d, IsS w g q d st ∧ Tidy w q d st
theorem STid.lt {w : World} {g : Nat} {q : Option Nat} {st : St} (h : STid w g q st) : g < w.heap.size ∧ ∀ i, q = some i → i < w.heap.size := by
  obtain ⟨d, h1, h2⟩ := h
  refine ⟨h1.lt, fun i e => ?_⟩
  cases st with
  | wait c =>
    obtain ⟨c', hc'⟩ := h1.qt i e
    exact (Array.getElem?_eq_some_iff.1 hc').1
  | bad f => exact h2.2 i (h2.1.symm.trans e)
theorem STid.kept {w w' : World} {g : Nat} {q : Option Nat} {st : St} (h : STid w g q st) (hs : w.heap.size ≤ w'.heap.size) (hk : ∀ i, i < w.heap.size → (i = g ∨ q = some i) → w'.heap[i]? = w.heap[i]?) : STid w' g q st := by
  obtain ⟨d, h1, h2⟩ := h
  cases st with
  | wait c =>
    obtain rfl : d = none := h2
    exact ⟨none, h1.kept fun i hi h => hk i hi (h.elim .inl fun h => h.elim .inr fun h => by cases h), rfl⟩
  | bad f =>
    obtain ⟨rfl, h3⟩ := h2
    exact ⟨q, h1.kept fun i hi h => hk i hi (h.elim .inl fun h => h.elim .inr .inr), rfl, fun i e => Nat.lt_of_lt_of_le (h3 i e) hs⟩
theorem STid.below {w w' : World} {g : Nat} {q : Option Nat} {st : St} (h : STid w g q st) (hb : Below w.heap.size w w') : STid w' g q st := h.kept hb.size fun i hi _ => hb.block i hi

def FedV (w : World) (g : Nat) (q : Option Nat) (st : St) (b : List Int) (e : Ending) (w' : World) : Prop :=
  ∃ (v : Value) (q' : Option Nat), e = .returned v ∧ Told w.heap.size w' q' v (feed st b).1 ∧ STid w' g q' (feed st b).2 ∧ At w.heap.size q q' ∧ Fr g q w w'
theorem feed_tidy (w : World) (g : Nat) (q : Option Nat) (st : St) (b : List Int) (A : Option Addr) (n c : Nat) (hn : b.length = n) (h : STid w g q st) (hF : Fine st) (hr : Rd w w.heap.size A n b) (hc : n ≤ c) (hA : ∀ i off, A = some ⟨i, off, none⟩ → i ≠ g ∧ some i ≠ q) (hm : n ≤ 4000000000000) :
    Calls Try.prog 20 #[.pointer (some ⟨g, 0, none⟩), .slice A n c] w (FedV w g q st b) := by
  subst hn
  obtain ⟨d, h1, h2⟩ := h
  cases st with
  | wait C =>
    refine (feed_is w g q C b A c h1 hr hc hA hm).mono ?_
    rintro e w' ⟨v, q', d', rfl, k1, k2, k3, k4, k5, k6⟩
    exact ⟨v, q', rfl, k1, ⟨d', k2, k6⟩, k3, k5⟩
  | bad f =>
    refine (feed_broken w g d f A b.length c h1).mono ?_
    rintro e w' ⟨rfl, rfl⟩
    exact ⟨_, q, rfl, ⟨[], World.ownsRow_nil _ _ _ _, Ms.nil_⟩, ⟨d, h1, h2⟩, .inl rfl, Fr.refl _ _ _⟩
theorem fault_tidy (w : World) (g : Nat) (q : Option Nat) (st : St) (h : STid w g q st) (hf : Fine st) : Calls Try.prog 22 #[.pointer (some ⟨g, 0, none⟩)] w (Faulted w st) := by
  obtain ⟨d, h1, _⟩ := h
  exact fault_any w g q d st h1 hf
theorem rfeed_any (w : World) (g : Nat) (q : Option Nat) (st : St) (b : List Int) (A : Option Addr) (n c : Nat) (hn : b.length = n) (h : RIsS w g q st) (hr : Rd w w.heap.size A n b) (hm : n ≤ 4000000000000) :
    Calls Try.prog 21 #[.pointer (some ⟨g, 0, none⟩), .slice A n c] w (RFed w g q st b) := by
  cases st with
  | wait C => exact rfeed_wait w g q C b A n c hn h hr hm
  | bad f =>
    refine (rfeed_bad w g q f A n c h).mono ?_
    rintro e w' ⟨rfl, rfl⟩
    exact ⟨_, q, rfl, ⟨[], World.ownsRow_nil _ _ _ _, Ms.nil_⟩, h, .inl rfl, only_refl w _⟩

theorem parse_small (l : List Int) : ∀ m ∈ (parse l).1, m.2.length ≤ 4096 := by
  refine parse_ind (P := fun l r => ∀ m ∈ r.1, m.2.length ≤ 4096) ?_ ?_ ?_ ?_ l
  · intro l _ m hm; cases hm
  · intro l f _ _ m hm; cases hm
  · intro l _ _ _ m hm; cases hm
  · intro l hf h2 ih m hm
    rcases List.mem_cons.1 hm with rfl | hm
    · have := lenN_none hf
      unfold msgOf
      simp
      omega
    · exact ih m hm
theorem feed_small (st : St) (b : List Int) : ∀ m ∈ (feed st b).1, m.2.length ≤ 4096 := by
  cases st with
  | wait C => exact parse_small _
  | bad f => intro m hm; cases hm
theorem feed_len (st : St) (b : List Int) (hF : Fine st) : (feed st b).1.length ≤ 4096 + b.length := by
  cases st with
  | wait C =>
    have := parse_count (C ++ b)
    have h2 := hF.1.small
    show (parse (C ++ b)).1.length ≤ _
    simp at this
    omega
  | bad f => simp [feed]

/-! Spoiling the bodies that were told. -/
set_option maxHeartbeats 1000000 in
theorem spoil_row_eq (w : World) (g n c m : Nat) (h : Row w g m) (hn : n ≤ m) (hm : m ≤ 281474976710656) :
    Calls Try.prog 15 #[.slice (some ⟨g, 0, none⟩) n c] w fun e w' => e = .returned (.tuple #[]) ∧ Row w' g m ∧ w.grownBy w' (some g) ∧ w'.heap.size = w.heap.size := by
  have H := Lib.hid h
  clear h
  go_enter Try.func15, Try.ntmps15
  go_wp2
  go_loopw [2, 5] (fun _ i wr => ∃ k : Nat, k ≤ n ∧ i = .int .i64 k ∧ Row wr g m ∧ w.grownBy wr (some g) ∧ wr.heap.size = w.heap.size) (fun _ i _ => n - (intOf i).toNat)
  case atStart => exact ⟨0, Nat.zero_le _, rfl, H.out, only_refl w _, rfl⟩
  case round =>
    obtain ⟨k, hk, rfl, hr, hg, hz⟩ := hrel
    by_cases hlt : k < n
    · have H1 := Lib.hid hr
      have H2 := Lib.hid hg
      have H3 := Lib.hid hz
      obtain ⟨l, hb, ho, hl⟩ := hr
      have hc := hb.cell (i := k) (by omega)
      have hf := hb.frozen k
      have hx := ho.getD k
      generalize l.getD k 0 = x at *
      clear hb ho hl hg hz
      go_wp2
      exact ⟨⟨k + 1, by omega, by go_num, H1.out.set_ k (xor_u8_bd _ _).1 (xor_u8_bd _ _).2, only_setCell H2.out (.inl rfl) _, by rw [← H3.out]; simp [World.setCell]⟩, by simp [intOf]; omega⟩
    · have H1 := Lib.hid hr
      have H2 := Lib.hid hg
      have H3 := Lib.hid hz
      clear hr hg hz
      go_wp2
      go_end0
      exact ⟨rfl, H1.out, H2.out, H3.out⟩

theorem Row.unique {w : World} {g m n : Nat} (h : Row w g m) (k : Row w g n) : m = n := by
  obtain ⟨l, h1, _, h3⟩ := h
  obtain ⟨l', k1, _, k3⟩ := k
  unfold Byt at h1 k1
  rw [h1] at k1
  injection k1 with k1
  injection k1 with k1 _
  have := congrArg Array.size k1
  simp at this
  omega
theorem Row.keep {w w' : World} {g m : Nat} (h : Row w g m) (hk : w'.heap[g]? = w.heap[g]?) : Row w' g m := by
  obtain ⟨l, h1, h2, h3⟩ := h
  exact ⟨l, hk.trans h1, h2, h3⟩
theorem Row.lt {w : World} {g m : Nat} (h : Row w g m) : g < w.heap.size := by
  obtain ⟨l, h1, _, _⟩ := h
  exact h1.lt
def RowB (lo hi : Nat) (q : Option Nat) (w : World) (A : Option Addr) (n : Nat) (l : List Int) : Prop :=
  l.length = n ∧ (n = 0 ∨ ∃ i, A = some ⟨i, 0, none⟩ ∧ lo ≤ i ∧ i < hi ∧ some i ≠ q ∧ Row w i n)
/-- Only rows of bytes from lo to hi, and not q, have turned. -/
structure Sp (lo hi : Nat) (q : Option Nat) (w w' : World) : Prop where
  os : w'.os = w.os
  tape : w'.tape = w.tape
  output : w'.output = w.output
  size : w'.heap.size = w.heap.size
  block : ∀ i, (i < lo ∨ hi ≤ i ∨ some i = q ∨ ∀ c, w.heap[i]? ≠ some (.cells c 5 (0, 0))) → w'.heap[i]? = w.heap[i]?
/-- The rows to be spoilt, and how they are reached. -/
def SpX (lo hi : Nat) (q : Option Nat) (A : Option Addr) (ms : List Msg) (w : World) : Prop :=
  ∃ cs, Ms (RowB lo hi q w) cs ms ∧ (0 < ms.length → ∃ b cur, A = some ⟨b, 0, none⟩ ∧ w.heap[b]? = some (.cells cur 24 (0, 0)) ∧ ∀ j u, cs[j]? = some u → w.cell? ⟨b, j, none⟩ = some u)
theorem spx_start {lo : Nat} {X : World} {q : Option Nat} {v : Value} {ms : List Msg} (h : Told lo X q v ms) : ∃ A c, v = .slice A ms.length c ∧ SpX lo X.heap.size q A ms X := by
  obtain ⟨cs, h1, h2⟩ := h
  have h3 := h2.imp (Bd' := RowB lo X.heap.size q X) (fun A n l hb => ⟨hb.2.1, hb.2.2.imp id fun ⟨i, a, b, c, d⟩ => ⟨i, a, b, d.lt, c, ⟨l, d, hb.1, hb.2.1⟩⟩⟩)
  rcases h1.2 with ⟨rfl, hn⟩ | ⟨g, cap, cur, rfl, hb, hg, hnc, hcm, hcs, hx⟩
  · exact ⟨none, 0, by rw [hn], cs, h3, fun hp => by omega⟩
  · refine ⟨_, cap, rfl, cs, h3, fun _ => ⟨g, cur, rfl, hg, fun j u hu => ?_⟩⟩
    rw [← hx, List.getElem?_take] at hu
    split at hu
    · simp only [World.cell?, hg]
      rw [← Array.getElem?_toList]
      exact hu
    · cases hu
theorem SpX.keep {lo hi : Nat} {q : Option Nat} {A : Option Addr} {ms : List Msg} {w w' : World} (h : SpX lo hi q A ms w) (hk : ∀ i c t, w.heap[i]? = some (.cells c t (0, 0)) → (t = 24 ∨ (t = 5 ∧ lo ≤ i ∧ i < hi ∧ some i ≠ q)) → w'.heap[i]? = w.heap[i]?) : SpX lo hi q A ms w' := by
  obtain ⟨cs, h1, h2⟩ := h
  have hkeep : ∀ A n l, RowB lo hi q w A n l → RowB lo hi q w' A n l := by
    rintro A n l ⟨hl, h0 | ⟨i, a, b, c, d, l', e1, e2, e3⟩⟩
    · exact ⟨hl, .inl h0⟩
    · exact ⟨hl, .inr ⟨i, a, b, c, d, l', (hk i _ _ e1 (.inr ⟨rfl, b, c, d⟩)).trans e1, e2, e3⟩⟩
  refine ⟨cs, h1.imp hkeep, fun hp => ?_⟩
  · obtain ⟨b, cur, e, hb, hc⟩ := h2 hp
    have := hk b cur _ hb (.inl rfl)
    exact ⟨b, cur, e, this.trans hb, fun j u hu => (World.cell?_of_block (a := ⟨b, j, none⟩) this).trans (hc j u hu)⟩
theorem SpX.at_ {lo hi : Nat} {q : Option Nat} {A : Option Addr} {ms : List Msg} {w : World} (h : SpX lo hi q A ms w) {k : Nat} (hk : k < ms.length) : ∃ b A1 n1 c1, A = some ⟨b, 0, none⟩ ∧ w.cell? ⟨b, k * 2 + 1, none⟩ = some (.slice A1 n1 c1) ∧ RowB lo hi q w A1 n1 ms[k].2 := by
  obtain ⟨cs, h1, h2⟩ := h
  obtain ⟨b, cur, rfl, _, hc⟩ := h2 (by omega)
  obtain ⟨_, A1, n1, c1, k2, k3⟩ := h1.at_ k hk
  exact ⟨b, A1, n1, c1, rfl, hc _ _ k2, k3⟩
theorem Sp.refl (lo hi : Nat) (q : Option Nat) (w : World) : Sp lo hi q w w := ⟨rfl, rfl, rfl, rfl, fun _ _ => rfl⟩

/-- Spoiling one of them. -/
def Spoilt (lo hi : Nat) (q : Option Nat) (A : Option Addr) (ms : List Msg) (X : World) (e : Ending) (w' : World) : Prop :=
  e = .returned (.tuple #[]) ∧ Sp lo hi q X w' ∧ SpX lo hi q A ms w'
theorem spoil_body {lo hi : Nat} {q : Option Nat} {A : Option Addr} {ms : List Msg} {X w : World} (hs : Sp lo hi q X w) (hx : SpX lo hi q A ms w) (hsz : hi ≤ X.heap.size) {A1 : Option Addr} {n1 c1 : Nat} {l : List Int} (hb : RowB lo hi q w A1 n1 l) (hm : n1 ≤ 281474976710656) :
    Calls Try.prog 15 #[.slice A1 n1 c1] w (Spoilt lo hi q A ms X) := by
  rcases hb.2 with rfl | ⟨i, rfl, hl, hh, hq, hr⟩
  · refine (spoil_none w A1 c1).mono ?_
    rintro e w' ⟨rfl, rfl⟩
    exact ⟨rfl, hs, hx⟩
  · refine (spoil_row_eq w i n1 c1 n1 hr (Nat.le_refl _) hm).mono ?_
    rintro e w' ⟨rfl, hr', hg, hz⟩
    have hby : ∃ c, w.heap[i]? = some (.cells c 5 (0, 0)) := by
      obtain ⟨l', e1, _, _⟩ := hr
      exact ⟨_, e1⟩
    refine ⟨rfl, ⟨hg.os.trans hs.os, hg.tape.trans hs.tape, hg.output.trans hs.output, hz.trans hs.size, fun j hj => ?_⟩, ?_⟩
    · have hne : j ≠ i := by
        rintro rfl
        rcases hj with h | h | h | h
        · omega
        · omega
        · exact hq h
        · obtain ⟨c, hc⟩ := hby
          have := hs.block j (.inr (.inr (.inr h)))
          rw [hc] at this
          exact h c this.symm
      have hsame := hs.block j hj
      rw [← hsame]
      rcases Nat.lt_or_ge j w.heap.size with h | h
      · exact hg.block j h (fun e => hne (by injection e))
      · rw [Array.getElem?_eq_none h, Array.getElem?_eq_none (by omega)]
    · obtain ⟨cs, h1, h2⟩ := hx
      have hkeep : ∀ A n l, RowB lo hi q w A n l → RowB lo hi q w' A n l := by
        rintro A n l ⟨hl, h0 | ⟨j, a, b, c, d, e⟩⟩
        · exact ⟨hl, .inl h0⟩
        · refine ⟨hl, .inr ⟨j, a, b, c, d, ?_⟩⟩
          by_cases hji : j = i
          · subst hji
            obtain rfl := e.unique hr
            exact hr'
          · exact e.keep (hg.block j e.lt (fun h => hji (by injection h)))
      refine ⟨cs, h1.imp hkeep, fun hp => ?_⟩
      · obtain ⟨b, cur, e, hbk, hc⟩ := h2 hp
        have hne : b ≠ i := by
          rintro rfl
          obtain ⟨c, hc'⟩ := hby
          exact row_ne hbk hc' (by decide) rfl
        have := hg.block b (Array.getElem?_eq_some_iff.1 hbk).1 (fun h => hne (by injection h))
        exact ⟨b, cur, e, this.trans hbk, fun j u hu => (World.cell?_of_block (a := ⟨b, j, none⟩) this).trans (hc j u hu)⟩
end Go.Proofs.Ytoiigalaijnoeaa
