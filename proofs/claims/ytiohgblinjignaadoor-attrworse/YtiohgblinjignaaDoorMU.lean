/-
  Put together: AtG AtH AtI AtJ AtK AtL.
-/
import Derived.Test.YtiohgblinjignaaDoorMT
import Derived.Test.YtiohgblinjignaaDoorMO
namespace Go.Proofs.YtiohgblinjignaaDoor
open Go.RowKit
set_option maxRecDepth 100000
set_option linter.unusedSimpArgs false
set_option linter.unusedVariables false

/-- Bytes of the call's own. -/
structure OwnB (lo : Nat) (w : World) (v : Value) (l : List Int) : Prop where
  own : w.ownsRow lo 5 1 v l.length (u8s l)
  oct : Oct l
theorem OwnB.nil_ (lo : Nat) (w : World) : OwnB lo w (.slice none 0 0) [] := ⟨World.ownsRow_nil _ _ _ _, fun x h => by cases h⟩
theorem OwnB.keep {lo : Nat} {w w' : World} {v : Value} {l : List Int} (h : OwnB lo w v l) (hk : ∀ i c, w.heap[i]? = some (.cells c 5 (0, 0)) → lo ≤ i → v.ownBlock = some i → w'.heap[i]? = w.heap[i]?) : OwnB lo w' v l := ⟨own_keep h.own hk, h.oct⟩
theorem OwnB.below {lo : Nat} {w w' : World} {v : Value} {l : List Int} (h : OwnB lo w v l) (hb : Below w.heap.size w w') : OwnB lo w' v l :=
  h.keep fun i c hi _ _ => hb.block i (Array.getElem?_eq_some_iff.1 hi).1
theorem OwnB.low {lo lo' : Nat} {w : World} {v : Value} {l : List Int} (h : OwnB lo w v l) (hl : lo' ≤ lo) : OwnB lo' w v l := ⟨own_low h.own hl, h.oct⟩
theorem OwnB.at_ {lo : Nat} {w : World} {v : Value} {l : List Int} (h : OwnB lo w v l) :
    ∃ A c, v = .slice A l.length c ∧ l.length ≤ c ∧ Rd w w.heap.size A l.length l ∧ (0 < l.length → ∃ g, A = some ⟨g, 0, none⟩ ∧ lo ≤ g ∧ g < w.heap.size ∧ ∀ i, w.frozen? ⟨g, i, none⟩ = false) := by
  rcases h.own.2 with ⟨rfl, hn⟩ | ⟨g, cap, cur, rfl, hb, hg, hnc, hcm, hcs, hx⟩
  · exact ⟨none, 0, by rw [hn], by omega, ⟨rfl, h.oct, fun hp => by omega⟩, fun hp => by omega⟩
  · have hgl : g < w.heap.size := (Array.getElem?_eq_some_iff.1 hg).1
    refine ⟨_, cap, rfl, hnc, ⟨rfl, h.oct, fun _ => ⟨g, 0, rfl, hgl, fun i hi => ?_⟩⟩, fun _ => ⟨g, rfl, hb, hgl, fun i => by simp [World.frozen?, hg]⟩⟩
    rw [Nat.zero_add]
    have h1 : (u8s l)[i]? = some (.int .u8 (l.getD i 0)) := by simp [List.getD, hi]
    rw [← hx, List.getElem?_take, if_pos (by omega)] at h1
    simp only [World.cell?, hg]
    rw [← Array.getElem?_toList]
    exact h1

/-- append of bytes that are read, onto bytes of the call's own. -/
theorem app_bs {ops : Array Oper} {rest : List Oper} {o : Oper} {a : Act} {Q : Exit → Act → World → Prop} (hgd : o.guard = none) (s x : Operand)
    (ho : o.op = .call { callee := .builtin .append, args := #[s, x], argTypes := #[22, 22] }) {lo : Nat} {w : World} {v : Value} {P : List Int} (h : OwnB lo w v P) (hlo : lo ≤ w.heap.size)
    {A : Option Addr} {m c : Nat} {news : List Int} (hr : Rd w w.heap.size A m news) (hlen : P.length + m ≤ 100000000) (hs : a.eval s = v) (hx : a.eval x = .slice A m c)
    (hk : ∀ v' w', OwnB lo w' v' (P ++ news) → Below lo w w' → w.grownBy w' v.ownBlock → (∀ i, v.ownBlock = some i → lo ≤ i ∧ ∃ c, w.heap[i]? = some (.cells c 5 (0, 0))) → wpList Tryd.prog ops Q rest (a.put o.dst v') w') :
    wpList Tryd.prog ops Q (o :: rest) a w := by
  obtain ⟨i, hi, hz0, hz1, hz2⟩ := info_parts info_byte
  have hlm := hr.len
  have hold : ∀ i, v.ownBlock = some i → lo ≤ i ∧ ∃ c, w.heap[i]? = some (.cells c 5 (0, 0)) := fun i hi => ⟨(h.own.lt i hi).1, own_heap h.own hi⟩
  cases A with
  | none =>
    have hm0 : m = 0 := by
      rcases Nat.eq_zero_or_pos m with h0 | h0
      · exact h0
      · obtain ⟨_, _, e, _⟩ := hr.at_ h0
        cases e
    subst hm0
    have hn : news = [] := List.eq_nil_of_length_eq_zero hlm
    subst hn
    have hrun : (Builtin.append_ #[22, 22] o.type #[v, .slice none 0 c]).run Tryd.prog w = .ok v w := by
      rcases h.own.2 with ⟨rfl, hn⟩ | ⟨g, cap, cur, rfl, _, _, hnc, _⟩
      · simp [Builtin.append_, run_underlying Tryd.underlying22, sizeOf, typeInfo, hi, Builtin.lenOf, Builtin.firstCells]
      · simp [Builtin.append_, run_underlying Tryd.underlying22, sizeOf, typeInfo, hi, Builtin.lenOf, Builtin.firstCells, hnc, storeCells]
    refine wpList_plain hgd fun _ hK => ?_
    unfold Oper.wp execOp
    simp only [ho, resolve, invoke, builtin, Sem.run_bind, Sem.run_pure, Result.andThen_ok, List.map_toArray, List.map_cons, List.map_nil, hs, hx, hrun]
    exact hK _ _ (hk v w (by rw [List.append_nil]; exact h) (Below.refl _ _) (only_refl _ _) hold)
  | some ad =>
    have hsrc : ∀ j y, (u8s news)[j]? = some y → w.cell? (ad.add j) = some y := by
      rcases Nat.eq_zero_or_pos m with h0 | h0
      · intro j y hy
        have := (List.getElem?_eq_some_iff.1 hy).1
        simp at this
        omega
      · obtain ⟨b, off, e, _, hc⟩ := hr.at_ h0
        injection e with e
        subst e
        exact src_u8 hlm hc
    refine wpList_append_own_at _ hgd s x 22 ho lo 5 i _ 1 1 Tryd.underlying22 hi hz0 hz1 hz2 rfl (by decide) v P.length (u8s P) hs h.own ad m c (u8s news) hx (by simp [hlm]) hsrc (one_u8 news) (by unfold maxLen; omega) (by omega) hlo ?_
    intro v' w' hown hgr _ _
    refine hk v' w' ⟨?_, fun y hy => (List.mem_append.1 hy).elim (h.oct y) (hr.oct y)⟩ ((Below.refl lo w).grown hgr hlo (fun i e => (h.own.lt i e).1)) hgr hold
    rw [List.length_append, hlm, show u8s (P ++ news) = u8s P ++ u8s news from List.map_append]
    exact hown

/-- A slice of slices of bytes that reads as ls. -/
structure RdL (w : World) (B : Nat) (A : Option Addr) (n : Nat) (ls : List (List Int)) : Prop where
  len : ls.length = n
  at_ : 0 < n → ∃ b off, A = some ⟨b, off, none⟩ ∧ b < B ∧ ∀ i (h : i < ls.length), ∃ A1 n1 c1, w.cell? ⟨b, off + i, none⟩ = some (.slice A1 n1 c1) ∧ Rd w B A1 n1 ls[i]
theorem RdL.below {w w' : World} {B n : Nat} {A : Option Addr} {ls : List (List Int)} (h : RdL w B A n ls) (hb : Below B w w') : RdL w' B A n ls :=
  ⟨h.len, fun hn => by
    obtain ⟨b, off, e, hlt, hc⟩ := h.at_ hn
    refine ⟨b, off, e, hlt, fun i hi => ?_⟩
    obtain ⟨A1, n1, c1, h1, h2⟩ := hc i hi
    exact ⟨A1, n1, c1, (hb.cell (p := ⟨b, off + i, none⟩) hlt).trans h1, h2.below hb⟩⟩
theorem RdL.more {w : World} {B B' n : Nat} {A : Option Addr} {ls : List (List Int)} (h : RdL w B A n ls) (hb : B ≤ B') : RdL w B' A n ls :=
  ⟨h.len, fun hn => by
    obtain ⟨b, off, e, hlt, hc⟩ := h.at_ hn
    refine ⟨b, off, e, by omega, fun i hi => ?_⟩
    obtain ⟨A1, n1, c1, h1, h2⟩ := hc i hi
    exact ⟨A1, n1, c1, h1, h2.more hb⟩⟩
theorem RdL.get {w : World} {B : Nat} {A : Option Addr} {n : Nat} {ls : List (List Int)} (h : RdL w B A n ls) {m : Nat} (hm : m < ls.length) : ∃ b off A1 n1 c1, A = some ⟨b, off, none⟩ ∧ w.cell? ⟨b, off + m, none⟩ = some (.slice A1 n1 c1) ∧ Rd w B A1 n1 ls[m] := by
  obtain ⟨b, off, rfl, _, hc⟩ := h.at_ (by have := h.len; omega)
  obtain ⟨A1, n1, c1, h1, h2⟩ := hc m hm
  exact ⟨b, off, A1, n1, c1, rfl, h1, h2⟩
theorem flat_take (ls : List (List Int)) (m : Nat) (hm : m < ls.length) : (ls.take (m + 1)).flatten = (ls.take m).flatten ++ ls[m] := by
  rw [List.take_succ_eq_append_getElem hm, List.flatten_append]
  simp
theorem flat_take_le (ls : List (List Int)) (m : Nat) : (ls.take m).flatten.length ≤ ls.flatten.length := by
  have : ls.flatten = (ls.take m).flatten ++ (ls.drop m).flatten := by rw [← List.flatten_append, List.take_append_drop]
  rw [this, List.length_append]
  omega

set_option maxHeartbeats 2000000 in
theorem chain_is (w : World) (A : Option Addr) (n c : Nat) (ls : List (List Int)) (hr : RdL w w.heap.size A n ls) (hn : n ≤ 1000000) (hb : ls.flatten.length ≤ 100000000) :
    Calls Tryd.prog 77 #[.slice A n c] w fun e w' => ∃ v, e = .returned v ∧ OwnB w.heap.size w' v ls.flatten ∧ Below w.heap.size w w' := by
  have HR := Lib.hid hr
  have hlen := hr.len
  clear hr
  go_enter Tryd.func77, Tryd.ntmps77
  go_wp2
  go_loop [3, 5, 11] (fun s _ i => ∃ m : Nat, m ≤ n ∧ i = .int .i64 m ∧ s = .int .i64 ((ls.take m).flatten.length : Nat)) (fun _ _ i => n - (intOf i).toNat)
  case atStart => exact ⟨0, Nat.zero_le _, rfl, rfl⟩
  case round =>
    obtain ⟨m, hm, rfl, rfl⟩ := hrel
    by_cases hlt : m < n
    · have hml : m < ls.length := by omega
      obtain ⟨b, off, A1, n1, c1, rfl, x0, hr1⟩ := HR.out.get hml
      have HT := Lib.hid (flat_take ls m hml)
      have h1 := flat_take_le ls (m + 1)
      rw [flat_take ls m hml, List.length_append, hr1.len] at h1
      have HL := Lib.hid hr1.len
      generalize ls[m] = y at *
      generalize (ls.take m).flatten = z at *
      clear hr1
      go_wp2
      refine ⟨⟨m + 1, by omega, by go_num, ?_⟩, by simp [intOf]; omega⟩
      rw [HT.out, List.length_append, HL.out]
      go_num
    · obtain rfl : n = m := by omega
      rw [List.take_of_length_le (by omega)]
      by_cases h0 : ls.flatten.length = 0
      · have hz : ls.flatten = [] := List.eq_nil_of_length_eq_zero h0
        have HZ := Lib.hid hz
        rw [h0]
        clear h0 hz
        go_wp2
        go_ret
        exact ⟨_, rfl, by rw [HZ.out]; exact OwnB.nil_ _ _, Below.refl _ _⟩
      · have e0 : ((ls.flatten.length : Int) == 0) = false := by rw [beq_eq_false_iff_ne]; omega
        obtain ⟨i, hi, hz0, hz1, hz2⟩ := info_parts info_byte
        obtain ⟨w1, hmk, hown, hgr⟩ := run_make_own (P := Tryd.prog) w w.heap.size 22 5 i _ 1 Tryd.underlying22 hi hz0 hz1 .i64 .i64 ls.flatten.length (by rw [hz2]; omega) (by unfold maxLen; omega) (Nat.le_refl _)
        have hB1 : Below w.heap.size w w1 := (Below.refl _ _).grown hgr (Nat.le_refl _) (fun g e => by cases e)
        have HO1 : Hid (OwnB w.heap.size w1 (.slice (some ⟨w.heap.size, 0, none⟩) 0 ls.flatten.length) []) := Lib.hid ⟨hown, fun x h => by cases h⟩
        have HB1 := Lib.hid hB1
        have HR1 := Lib.hid (HR.out.below hB1)
        have HFl := Lib.hid (flat_take_le ls)
        have HFt := Lib.hid (flat_take ls)
        have hsz1 := hB1.size
        generalize hT : ls.flatten.length = T at *
        have HTT := Lib.hid hT
        clear hown hgr hB1 hi hz0 hz1 hz2 h0 hT
        go_wp2
        go_loopw [6, 8, 26] (fun v _ i wr => ∃ m : Nat, m ≤ n ∧ i = .int .i64 m ∧ OwnB w.heap.size wr v (ls.take m).flatten ∧ Below w.heap.size w wr) (fun _ _ i _ => n - (intOf i).toNat)
        case atStart => exact ⟨0, Nat.zero_le _, rfl, HO1.out, HB1.out⟩
        case round =>
          obtain ⟨m, hm, rfl, ho, hw⟩ := hrel
          by_cases hlt : m < n
          · have hml : m < ls.length := by omega
            obtain ⟨b, off, A1, n1, c1, rfl, x0, hr1⟩ := (HR.out.below hw).get hml
            have HT := Lib.hid (HFt.out m hml)
            have hle : (ls.take m).flatten.length + n1 ≤ 100000000 := by
              have h1 := HFl.out (m + 1)
              rw [HFt.out m hml, List.length_append, hr1.len] at h1
              omega
            have HO := Lib.hid ho
            have HW := Lib.hid hw
            have hsz := hw.size
            have HR2 := Lib.hid (hr1.more hw.size)
            generalize ls[m] = y at *
            generalize (ls.take m).flatten = z at *
            clear hr1 ho hw hmk
            go_wp2_with (at_builtin; refine app_bs rfl _ _ rfl HO.out hsz HR2.out hle rfl rfl ?_)
            intro v' w2 ho2 hb2 _ _
            have HO2 := Lib.hid ho2
            have HB2 := Lib.hid (HW.out.trans hb2)
            clear ho2 hb2
            go_wp2
            exact ⟨⟨m + 1, by omega, by go_num, by rw [HT.out]; exact HO2.out, HB2.out⟩, by simp [intOf]; omega⟩
          · obtain rfl : n = m := by omega
            rw [List.take_of_length_le (by omega)] at ho
            have HO := Lib.hid ho
            have HW := Lib.hid hw
            clear ho hw
            go_wp2
            go_ret
            exact ⟨_, rfl, HO.out, HW.out⟩

/-- Spoil of bytes in one block that are not frozen: nothing but that block turns. -/
def U8At (w : World) (g n : Nat) : Prop := ∀ i, i < n → (∃ x : Int, 0 ≤ x ∧ x < 256 ∧ w.cell? ⟨g, i, none⟩ = some (.int .u8 x)) ∧ w.frozen? ⟨g, i, none⟩ = false
theorem U8At.set_ {w : World} {g n : Nat} (h : U8At w g n) (k : Nat) {x : Int} (h0 : 0 ≤ x) (h1 : x < 256) : U8At (w.setCell ⟨g, k, none⟩ (.int .u8 x)) g n := by
  intro i hi
  obtain ⟨⟨y, y0, y1, hy⟩, hf⟩ := h i hi
  refine ⟨?_, by simpa using hf⟩
  by_cases hk : i = k
  · subst hk
    exact ⟨x, h0, h1, World.cell?_setCell_same _ _ _ hy⟩
  · exact ⟨y, y0, y1, by rw [World.cell?_setCell_other _ _ _ _ (fun e => hk (by injection e with _ e2; exact e2.symm))]; exact hy⟩
set_option maxHeartbeats 1000000 in
theorem spoil_at (w : World) (g n c : Nat) (h : U8At w g n) (hm : n ≤ 281474976710656) :
    Calls Tryd.prog 15 #[.slice (some ⟨g, 0, none⟩) n c] w fun e w' => e = .returned (.tuple #[]) ∧ w.grownBy w' (some g) := by
  have H := Lib.hid h
  clear h
  go_enter Tryd.func15, Tryd.ntmps15
  go_wp2
  go_loopw [2, 5] (fun _ i wr => ∃ k : Nat, k ≤ n ∧ i = .int .i64 k ∧ U8At wr g n ∧ w.grownBy wr (some g)) (fun _ i _ => n - (intOf i).toNat)
  case atStart => exact ⟨0, Nat.zero_le _, rfl, H.out, only_refl w _⟩
  case round =>
    obtain ⟨k, hk, rfl, hr, hg⟩ := hrel
    have H1 := Lib.hid hr
    have H2 := Lib.hid hg
    by_cases hlt : k < n
    · obtain ⟨⟨x, x0, x1, hc⟩, hf⟩ := hr k hlt
      clear hg hr
      go_wp2
      exact ⟨⟨k + 1, by omega, by go_num, H1.out.set_ k (xor_u8_bd _ _).1 (xor_u8_bd _ _).2, only_setCell H2.out (.inl rfl) _⟩, by simp [intOf]; omega⟩
    · clear hr hg
      go_wp2
      go_end0
      exact ⟨rfl, H2.out⟩
/-- Spoil of bytes of the call's own. -/
theorem spoil_own (lo : Nat) (w : World) (A : Option Addr) (n c : Nat) (l : List Int) (h : OwnB lo w (.slice A n c) l) (hm : n ≤ 281474976710656) (hlo : lo ≤ w.heap.size) :
    Calls Tryd.prog 15 #[.slice A n c] w fun e w' => e = .returned (.tuple #[]) ∧ Below lo w w' := by
  obtain ⟨A', c', e, _, hr, hg⟩ := h.at_
  injection e with e1 e2 e3
  subst e1 e2 e3
  rcases Nat.eq_zero_or_pos l.length with h0 | h0
  · rw [h0]
    refine (spoil_none w A c).mono ?_
    rintro e w' ⟨rfl, rfl⟩
    exact ⟨rfl, Below.refl _ _⟩
  · obtain ⟨g, rfl, hlg, hgs, hfz⟩ := hg h0
    refine (spoil_at w g l.length c (fun i hi => ?_) hm).mono ?_
    · obtain ⟨b, off, e, _, hc⟩ := hr.at_ h0
      injection e with e
      injection e with e1 e2
      subst e1 e2
      have := hc i hi
      rw [Nat.zero_add] at this
      exact ⟨⟨_, (h.oct.getD i).1, (h.oct.getD i).2, this⟩, hfz i⟩
    · rintro e w' ⟨rfl, hgr⟩
      exact ⟨rfl, (Below.refl _ _).grown hgr hlo (fun j e => by injection e with e; omega)⟩
end Go.Proofs.YtiohgblinjignaaDoor
namespace Go.Proofs.YtiohgblinjignaaDoor
open Go.RowKit
set_option maxRecDepth 100000
set_option linter.unusedSimpArgs false
set_option linter.unusedVariables false

/-- What Join says of one attribute: 0, or the error. -/
def encE (r : Raw) : Int := if 0 ≤ r.1 ∧ r.1 ≤ 255 ∧ 0 ≤ r.2.1 ∧ r.2.1 ≤ 255 then (if r.2.2.length < 256 ^ lsz r.1 then 0 else 5) else 2
def encB (r : Raw) : List Int := [r.1, r.2.1] ++ (be (lsz r.1) r.2.2.length ++ r.2.2)
def BytesOf (w : World) (r : Raw) (e : Ending) (w' : World) : Prop :=
  Below w.heap.size w w' ∧ if encE r = 0 then ∃ v, e = .returned (.tuple #[v, .int .i64 0]) ∧ OwnB w.heap.size w' v (encB r) else e = .returned (.tuple #[.slice none 0 0, .int .i64 (encE r)])
theorem lsz_pow (f : Int) : (256 : Nat) ^ lsz f = 256 ∨ (256 : Nat) ^ lsz f = 65536 := by
  rcases lsz_12 f with h | h <;> rw [h] <;> simp

set_option maxHeartbeats 2000000 in
theorem bytesOf_bad (w : World) (f k : Int) (A : Option Addr) (n c : Nat) (v : List Int) (h : ¬ (0 ≤ f ∧ f ≤ 255 ∧ 0 ≤ k ∧ k ≤ 255)) :
    Calls Tryd.prog 42 #[.agg #[.int .i64 f, .int .i64 k, .slice A n c]] w (BytesOf w (f, k, v)) := by
  have HE : Hid (encE (f, k, v) = 2) := Lib.hid (by unfold encE; rw [if_neg h])
  have HB : Hid (Below w.heap.size w (w.alloc (.cells #[.int .i64 f, .int .i64 k, .slice A n c] 32))) := Lib.hid ((Below.refl _ _).alloc (Nat.le_refl _) _)
  by_cases hf : 0 ≤ f ∧ f ≤ 255
  · have hk : decide (0 ≤ k ∧ k ≤ 255) = false := by simp; omega
    have hf' : decide (0 ≤ f ∧ f ≤ 255) = true := by simpa using hf
    have H1 := Lib.hid (fun w => isByte_is w f)
    have H2 := Lib.hid (fun w => isByte_is w k)
    rw [hf'] at H1
    rw [hk] at H2
    clear hf hk hf' h
    go_enter Tryd.func42, Tryd.ntmps42
    go_wp2_with fail
    refine (H1.out _).mono ?_
    rintro e w' ⟨rfl, rfl⟩
    go_wp2_with fail
    refine (H2.out _).mono ?_
    rintro e w' ⟨rfl, rfl⟩
    go_wp2
    go_ret2
    exact ⟨HB.out, by rw [HE.out]; rfl⟩
  · have hf' : decide (0 ≤ f ∧ f ≤ 255) = false := by simp; omega
    have H1 := Lib.hid (fun w => isByte_is w f)
    rw [hf'] at H1
    clear hf hf' h
    go_enter Tryd.func42, Tryd.ntmps42
    go_wp2_with fail
    refine (H1.out _).mono ?_
    rintro e w' ⟨rfl, rfl⟩
    go_wp2
    go_ret2
    exact ⟨HB.out, by rw [HE.out]; rfl⟩

theorem u64_small {n : Nat} (h : n ≤ 140737488355328) : IntKind.u64.wrap (n : Int) = n := by rw [IntKind.wrap_u64]; omega
set_option maxHeartbeats 4000000 in
theorem bytesOf_ok (w : World) (f k : Int) (A : Option Addr) (n c : Nat) (v : List Int) (hr : Rd w w.heap.size A n v) (hm : n ≤ 140737488355328) (h : 0 ≤ f ∧ f ≤ 255 ∧ 0 ≤ k ∧ k ≤ 255) :
    Calls Tryd.prog 42 #[.agg #[.int .i64 f, .int .i64 k, .slice A n c]] w (BytesOf w (f, k, v)) := by
  have hln := hr.len
  have HE : Hid (encE (f, k, v) = if n < 256 ^ lsz f then 0 else 5) := Lib.hid (by unfold encE; rw [if_pos h, ← hln])
  have HEB : Hid (encB (f, k, v) = [f, k] ++ (be (lsz f) n ++ v)) := Lib.hid (by unfold encB; rw [← hln])
  have hB0 : Below w.heap.size w (w.alloc (.cells #[.int .i64 f, .int .i64 k, .slice A n c] 32)) := (Below.refl _ _).alloc (Nat.le_refl _) _
  have HB0 := Lib.hid hB0
  have HN0 := Lib.hid (Blk.new w 32 #[.int .i64 f, .int .i64 k, .slice A n c])
  have HR0 := Lib.hid (hr.below hB0)
  have hz0 : w.heap.size < (w.alloc (.cells #[.int .i64 f, .int .i64 k, .slice A n c] 32)).heap.size := by simp
  have HZ0 := Lib.hid hz0
  have H1 := Lib.hid (fun w => isByte_is w f)
  have H2 := Lib.hid (fun w => isByte_is w k)
  rw [show decide (0 ≤ f ∧ f ≤ 255) = true by simp; omega] at H1
  rw [show decide (0 ≤ k ∧ k ≤ 255) = true by simp; omega] at H2
  have hls := lsz_12 f
  have hu := u64_small hm
  have HF := Lib.hid h
  clear hr hB0 h hz0
  go_enter Tryd.func42, Tryd.ntmps42
  go_wp2_with fail
  refine (H1.out _).mono ?_
  rintro e w' ⟨rfl, rfl⟩
  go_wp2_with fail
  refine (H2.out _).mono ?_
  rintro e w' ⟨rfl, rfl⟩
  generalize hw0 : (w.alloc (.cells #[.int .i64 f, .int .i64 k, .slice A n c] 32)) = w0 at *
  clear hw0 H1 H2
  go_wp2
  refine wp_region_held_drew (S := fun W => Below w.heap.size w W ∧ Blk W w.heap.size 32 #[.int .i64 f, .int .i64 k, .slice A n c]) (by kernel_rfl) (⟨below_drewN HB0.out 1, HN0.out⟩) (fun hS => ?_)
  refine wpAnyH_take (i := 0) (oi := ⟨some 17, _, _, _, _, _⟩) (v := ?_) rfl (by kernel_rfl) (by kernel_rfl) (by kernel_rfl) (fun _ _ _ h => h) (Or.inl ⟨by rfl, ?_⟩) hS ?_
  rotate_left
  · intro wq hq
    first | (go_simp; done) | (go_simp; rfl)
  try simp only [Act.put, List.setIfInBounds_toArray, List.set_cons_zero, List.set_cons_succ]
  refine wpAnyH_take (i := 1) (oi := ⟨some 18, _, _, _, _, _⟩) (v := ?_) rfl (by kernel_rfl) (by kernel_rfl) (by kernel_rfl) (fun _ _ _ h => h) (Or.inl ⟨by rfl, ?_⟩) hS ?_
  rotate_left
  · intro wq hq
    have d2 : wq.cell? ⟨w.heap.size, 2, none⟩ = some (.slice A n c) := hq.2.cell 2
    first | (go_simp; done) | (go_simp; rfl)
  try simp only [Act.put, List.setIfInBounds_toArray, List.set_cons_zero, List.set_cons_succ]
  refine wpAnyH_take (i := 2) (oi := ⟨some 19, _, _, _, _, _⟩) (v := ?_) rfl (by kernel_rfl) (by kernel_rfl) (by kernel_rfl) (fun _ _ _ h => h) (Or.inl ⟨by rfl, ?_⟩) hS ?_
  rotate_left
  · intro wq hq
    first | (go_simp; done) | (go_simp; rfl)
  try simp only [Act.put, List.setIfInBounds_toArray, List.set_cons_zero, List.set_cons_succ]
  refine wpAnyH_take (i := 3) (oi := ⟨some 20, _, _, _, _, _⟩) (v := ?_) rfl (by kernel_rfl) (by kernel_rfl) (by kernel_rfl) (fun _ _ _ h => h) (Or.inl ⟨by rfl, ?_⟩) hS ?_
  rotate_left
  · intro wq hq
    first | (go_simp; done) | (go_simp; rfl)
  try simp only [Act.put, List.setIfInBounds_toArray, List.set_cons_zero, List.set_cons_succ]
  refine wpAnyH_take (i := 4) (oi := ⟨some 21, _, _, _, _, _⟩) (v := ?_) rfl (by kernel_rfl) (by kernel_rfl) (by kernel_rfl) (fun _ _ _ h => h) (Or.inl ⟨by rfl, ?_⟩) hS ?_
  rotate_left
  · intro wq hq
    first | (go_simp; done) | (go_simp; rfl)
  try simp only [Act.put, List.setIfInBounds_toArray, List.set_cons_zero, List.set_cons_succ]
  refine wpAnyH_take (i := 5) (oi := ⟨some 22, _, _, _, _, _⟩) (v := ?_) rfl (by kernel_rfl) (by kernel_rfl) (by kernel_rfl) (fun _ _ _ h => h) (Or.inl ⟨by rfl, ?_⟩) hS ?_
  rotate_left
  · intro wq hq
    have d0 : wq.cell? ⟨w.heap.size, 0, none⟩ = some (.int .i64 f) := hq.2.cell 0
    first | (go_simp; done) | (go_simp; rfl)
  try simp only [Act.put, List.setIfInBounds_toArray, List.set_cons_zero, List.set_cons_succ]
  refine wpAnyH_ready (rs := [6]) (by kernel_rfl) (by simp) ?_
  refine AllReadyH.cons (o := ⟨some 23, _, _, _, _, _⟩) rfl (fun K hK => ?_) AllReadyH.nil
  rw [if_pos (by rfl)]
  go_wp2_with fail
  refine (lengthSize_is _ f).mono ?_
  rintro e w' ⟨rfl, rfl⟩
  have hS1 := hS
  refine hK.out _ _ (hS1) (fun hS => ?_)
  clear hK K
  try simp only [Act.put, List.setIfInBounds_toArray, List.set_cons_zero, List.set_cons_succ]
  clear hS1
  have hfit : ∀ s : Nat, (n : Int) < 256 ^ s ↔ n < 256 ^ s := fun s => by
    have h : ((256 ^ s : Nat) : Int) = (256 : Int) ^ s := by simp
    omega
  have HFit := Lib.hid (hfit (lsz f))
  clear hfit
  generalize lsz f = s at *
  refine wpAnyH_ready (rs := [7]) (by kernel_rfl) (by simp) ?_
  refine AllReadyH.cons (o := ⟨some 24, _, _, _, _, _⟩) rfl (fun K hK => ?_) AllReadyH.nil
  rw [if_pos (by rfl)]
  go_wp2_with fail
  refine (put_is _ none 0 0 [] n s (Rd.nil_ _) (by omega) (by omega) (by omega)).mono ?_
  rintro e w1 ⟨hB, he⟩
  have hS1 := hS
  by_cases hn : n < 256 ^ s
  · rw [if_pos ⟨by omega, by omega, by rw [Int.toNat_natCast]; exact HFit.out.2 hn⟩] at he
    simp only [List.length_nil, Nat.zero_add, Int.toNat_natCast, List.nil_append] at he
    obtain ⟨rfl, hby⟩ := he
    rw [if_pos hn] at HE
    refine hK.out _ _ (⟨hS1.1.trans (hB.mono hS1.1.size), hS1.2.below hB hS1.2.lt⟩) (fun hS => ?_)
    clear hK K
    try simp only [Act.put, List.setIfInBounds_toArray, List.set_cons_zero, List.set_cons_succ]
    refine wpAnyH_take (i := 8) (oi := ⟨some 16, _, _, _, _, _⟩) (v := ?_) rfl (by kernel_rfl) (by kernel_rfl) (by kernel_rfl) (fun _ _ _ h => h) (Or.inl ⟨by rfl, ?_⟩) hS ?_
    rotate_left
    · intro wq hq
      first | (go_simp; done) | (go_simp; rfl)
    try simp only [Act.put, List.setIfInBounds_toArray, List.set_cons_zero, List.set_cons_succ]
    refine wpAnyH_take (i := 9) (oi := ⟨some 25, _, _, _, _, _⟩) (v := ?_) rfl (by kernel_rfl) (by kernel_rfl) (by kernel_rfl) (fun _ _ _ h => h) (Or.inl ⟨by rfl, ?_⟩) hS ?_
    rotate_left
    · intro wq hq
      first | (go_simp; done) | (go_simp; rfl)
    try simp only [Act.put, List.setIfInBounds_toArray, List.set_cons_zero, List.set_cons_succ]
    refine wpAnyH_take (i := 10) (oi := ⟨some 26, _, _, _, _, _⟩) (v := ?_) rfl (by kernel_rfl) (by kernel_rfl) (by kernel_rfl) (fun _ _ _ h => h) (Or.inl ⟨by rfl, ?_⟩) hS ?_
    rotate_left
    · intro wq hq
      first | (go_simp; done) | (go_simp; rfl)
    try simp only [Act.put, List.setIfInBounds_toArray, List.set_cons_zero, List.set_cons_succ]
    refine wpAnyH_take (i := 11) (oi := ⟨some 4, _, _, _, _, _⟩) (v := ?_) rfl (by kernel_rfl) (by kernel_rfl) (by kernel_rfl) (fun _ _ _ h => h) (Or.inl ⟨by rfl, ?_⟩) hS ?_
    rotate_left
    · intro wq hq
      first | (go_simp; done) | (go_simp; rfl)
    try simp only [Act.put, List.setIfInBounds_toArray, List.set_cons_zero, List.set_cons_succ]
    refine wpAnyH_take (i := 12) (oi := ⟨some 5, _, _, _, _, _⟩) (v := ?_) rfl (by kernel_rfl) (by kernel_rfl) (by kernel_rfl) (fun _ _ _ h => h) (Or.inl ⟨by rfl, ?_⟩) hS ?_
    rotate_left
    · intro wq hq
      first | (go_simp; done) | (go_simp; rfl)
    try simp only [Act.put, List.setIfInBounds_toArray, List.set_cons_zero, List.set_cons_succ]
    refine wpAnyH_done (by kernel_rfl) ?_ _
    have hB1 := hS.1
    have hN1 := hS.2
    have hby1 : Byt w1 w0.heap.size 5 (be s n) := hby
    have c0 : w1.cell? ⟨w.heap.size, 0, none⟩ = some (.int .i64 f) := hN1.cell 0
    have c1 : w1.cell? ⟨w.heap.size, 1, none⟩ = some (.int .i64 k) := hN1.cell 1
    have c2 : w1.cell? ⟨w.heap.size, 2, none⟩ = some (.slice A n c) := hN1.cell 2
    have d2 : (w1.alloc (.cells #[.int .u8 f, .int .u8 k] 5)).cell? ⟨w.heap.size, 2, none⟩ = some (.slice A n c) := (hN1.alloc _).cell 2
    have hwf : IntKind.u8.wrap f = f := by have := HF.out; rw [wrap_u8_mod]; omega
    have hwk : IntKind.u8.wrap k = k := by have := HF.out; rw [wrap_u8_mod]; omega
    have hr1 : Rd w1 w.heap.size A n v := (HR0.out.below (w' := w1) ((below_drewN (Below.refl _ _) 1).trans (hB.mono (by have := HB0.out.size; exact this))))
    have hRd : Rd w1 w1.heap.size (some ⟨w0.heap.size, 0, none⟩) s (be s n) := by
      have := hby1.rd_all (be_oct s n) hby1.lt
      rwa [be_len] at this
    have hal1 : Below w1.heap.size w1 (w1.alloc (.cells #[.int .u8 f, .int .u8 k] 5)) := (Below.refl _ _).alloc (Nat.le_refl _) _
    have hof : Oct [f, k] := by have := HF.out; intro x hx; simp at hx; omega
    have h2 := rd_made w1 [f, k] hof
    have hal2 : Below (w1.heap.size + 1) (w1.alloc (.cells #[.int .u8 f, .int .u8 k] 5)) ((w1.alloc (.cells #[.int .u8 f, .int .u8 k] 5)).alloc (.cells #[.slice (some ⟨w1.heap.size, 0, none⟩) 2 2, .slice (some ⟨w0.heap.size, 0, none⟩) s s, .slice A n c] 22)) := (Below.refl _ _).alloc (by simp) _
    have hB3 : Below w.heap.size w ((w1.alloc (.cells #[.int .u8 f, .int .u8 k] 5)).alloc (.cells #[.slice (some ⟨w1.heap.size, 0, none⟩) 2 2, .slice (some ⟨w0.heap.size, 0, none⟩) s s, .slice A n c] 22)) := hB1.trans ((hal1.mono hB1.size).trans (hal2.mono (by have := hB1.size; omega)))
    have hbl := Blk.new (w1.alloc (.cells #[.int .u8 f, .int .u8 k] 5)) 22 #[.slice (some ⟨w1.heap.size, 0, none⟩) 2 2, .slice (some ⟨w0.heap.size, 0, none⟩) s s, .slice A n c]
    have hRB : RdL ((w1.alloc (.cells #[.int .u8 f, .int .u8 k] 5)).alloc (.cells #[.slice (some ⟨w1.heap.size, 0, none⟩) 2 2, .slice (some ⟨w0.heap.size, 0, none⟩) s s, .slice A n c] 22)) ((w1.alloc (.cells #[.int .u8 f, .int .u8 k] 5)).alloc (.cells #[.slice (some ⟨w1.heap.size, 0, none⟩) 2 2, .slice (some ⟨w0.heap.size, 0, none⟩) s s, .slice A n c] 22)).heap.size (some ⟨w1.heap.size + 1, 0, none⟩) 3 [[f, k], be s n, v] := by
      have hz : ((w1.alloc (.cells #[.int .u8 f, .int .u8 k] 5)).alloc (.cells #[.slice (some ⟨w1.heap.size, 0, none⟩) 2 2, .slice (some ⟨w0.heap.size, 0, none⟩) s s, .slice A n c] 22)).heap.size = w1.heap.size + 2 := by simp
      have hz1 : (w1.alloc (.cells #[.int .u8 f, .int .u8 k] 5)).heap.size = w1.heap.size + 1 := by simp
      rw [hz1] at hbl
      rw [hz]
      refine ⟨rfl, fun _ => ⟨w1.heap.size + 1, 0, rfl, by omega, fun i hi => ?_⟩⟩
      match i, hi with
      | 0, _ => exact ⟨_, 2, 2, hbl.cell 0, (h2.below hal2).more (by omega)⟩
      | 1, _ => exact ⟨_, s, s, hbl.cell 1, ((hRd.below hal1).below (hal2.mono (by omega))).more (by omega)⟩
      | 2, _ => exact ⟨A, n, c, hbl.cell 2, ((hr1.below (hal1.mono hB1.size)).below (hal2.mono (by have := hB1.size; omega))).more (by have := hB1.size; omega)⟩
    have HRB := Lib.hid hRB
    have HB3 := Lib.hid hB3
    have hbel := be_len s n
    have HFl : Hid (([[f, k], be s n, v] : List (List Int)).flatten = [f, k] ++ (be s n ++ v)) := Lib.hid (by simp)
    have hfl : ([[f, k], be s n, v] : List (List Int)).flatten.length ≤ 100000000 := by
      rw [HFl.out, List.length_append, List.length_append, hbel, hln]
      rcases hls with rfl | rfl
      · simp at hn; simp; omega
      · simp at hn; simp; omega
    clear hB hB1 hN1 hby hby1 hr1 hRd hal1 hof h2 hal2 hB3 hbl hRB hbel hS hS1 HR0 HN0 HB0
    go_wp2_with fail
    refine (chain_is _ _ 3 3 _ HRB.out (by decide) hfl).mono ?_
    rintro e w4 ⟨v', rfl, ho, hb⟩
    have HO := Lib.hid ho
    have HB4 := Lib.hid (HB3.out.trans (hb.mono HB3.out.size))
    have HLo := Lib.hid HB3.out.size
    clear ho hb HB3 HRB
    go_wp2
    go_ret2
    refine ⟨HB4.out, ?_⟩
    rw [HE.out, if_pos rfl, HEB.out, ← HFl.out]
    exact ⟨_, rfl, HO.out.low HLo.out⟩
  · rw [if_neg (fun h => hn (HFit.out.1 (by have := h.2.2; rwa [Int.toNat_natCast] at this)))] at he
    subst he
    rw [if_neg hn] at HE
    refine hK.out _ _ (⟨hS1.1.trans (hB.mono hS1.1.size), hS1.2.below hB hS1.2.lt⟩) (fun hS => ?_)
    clear hK K
    try simp only [Act.put, List.setIfInBounds_toArray, List.set_cons_zero, List.set_cons_succ]
    refine wpAnyH_take (i := 8) (oi := ⟨some 16, _, _, _, _, _⟩) (v := ?_) rfl (by kernel_rfl) (by kernel_rfl) (by kernel_rfl) (fun _ _ _ h => h) (Or.inl ⟨by rfl, ?_⟩) hS ?_
    rotate_left
    · intro wq hq
      first | (go_simp; done) | (go_simp; rfl)
    try simp only [Act.put, List.setIfInBounds_toArray, List.set_cons_zero, List.set_cons_succ]
    refine wpAnyH_take (i := 9) (oi := ⟨some 25, _, _, _, _, _⟩) (v := ?_) rfl (by kernel_rfl) (by kernel_rfl) (by kernel_rfl) (fun _ _ _ h => h) (Or.inl ⟨by rfl, ?_⟩) hS ?_
    rotate_left
    · intro wq hq
      first | (go_simp; done) | (go_simp; rfl)
    try simp only [Act.put, List.setIfInBounds_toArray, List.set_cons_zero, List.set_cons_succ]
    refine wpAnyH_take (i := 10) (oi := ⟨some 26, _, _, _, _, _⟩) (v := ?_) rfl (by kernel_rfl) (by kernel_rfl) (by kernel_rfl) (fun _ _ _ h => h) (Or.inl ⟨by rfl, ?_⟩) hS ?_
    rotate_left
    · intro wq hq
      first | (go_simp; done) | (go_simp; rfl)
    try simp only [Act.put, List.setIfInBounds_toArray, List.set_cons_zero, List.set_cons_succ]
    refine wpAnyH_take (i := 11) (oi := ⟨some 4, _, _, _, _, _⟩) (v := ?_) rfl (by kernel_rfl) (by kernel_rfl) (by kernel_rfl) (fun _ _ _ h => h) (Or.inl ⟨by rfl, ?_⟩) hS ?_
    rotate_left
    · intro wq hq
      first | (go_simp; done) | (go_simp; rfl)
    try simp only [Act.put, List.setIfInBounds_toArray, List.set_cons_zero, List.set_cons_succ]
    refine wpAnyH_take (i := 12) (oi := ⟨some 5, _, _, _, _, _⟩) (v := ?_) rfl (by kernel_rfl) (by kernel_rfl) (by kernel_rfl) (fun _ _ _ h => h) (Or.inl ⟨by rfl, ?_⟩) hS ?_
    rotate_left
    · intro wq hq
      first | (go_simp; done) | (go_simp; rfl)
    try simp only [Act.put, List.setIfInBounds_toArray, List.set_cons_zero, List.set_cons_succ]
    refine wpAnyH_done (by kernel_rfl) ?_ _
    have HB3 := Lib.hid hS.1
    clear hS hS1 hB
    go_wp2
    go_ret2
    exact ⟨HB3.out, by rw [HE.out]; rfl⟩

theorem bytesOf_is (w : World) (f k : Int) (A : Option Addr) (n c : Nat) (v : List Int) (hr : Rd w w.heap.size A n v) (hm : n ≤ 140737488355328) :
    Calls Tryd.prog 42 #[.agg #[.int .i64 f, .int .i64 k, .slice A n c]] w (BytesOf w (f, k, v)) := by
  by_cases h : 0 ≤ f ∧ f ≤ 255 ∧ 0 ≤ k ∧ k ≤ 255
  · exact bytesOf_ok w f k A n c v hr hm h
  · exact bytesOf_bad w f k A n c v h
theorem encE_any (r : Raw) : encE r = 0 ∨ encE r = 2 ∨ encE r = 5 := by
  unfold encE
  split
  · split <;> simp
  · simp
theorem encB_len (r : Raw) (h : encE r = 0) : (encB r).length ≤ 65539 := by
  unfold encE at h
  split at h
  · split at h
    · rename_i h2
      unfold encB
      rw [List.length_append, List.length_append, be_len]
      rcases lsz_12 r.1 with e | e <;> rw [e] at h2 ⊢ <;> simp at h2 ⊢ <;> omega
    · cases h
  · cases h

/-- What Join answers. -/
def joinE (rs : List Raw) : Int := match rs.find? (fun r => decide (encE r ≠ 0)) with
  | some r => encE r
  | none => 0
def joinB (rs : List Raw) : List Int := rs.flatMap encB
theorem joinE_no {rs : List Raw} (h : ∀ j (hj : j < rs.length), encE rs[j] = 0) : joinE rs = 0 := by
  unfold joinE
  rw [List.find?_eq_none.2]
  intro r hr
  obtain ⟨j, hj, rfl⟩ := List.getElem_of_mem hr
  simp [h j hj]
theorem joinE_at {rs : List Raw} {m : Nat} (hm : m < rs.length) (h : ∀ j (hj : j < m), encE (rs[j]'(by omega)) = 0) (hx : encE rs[m] ≠ 0) : joinE rs = encE rs[m] := by
  unfold joinE
  have : rs.find? (fun r => decide (encE r ≠ 0)) = some rs[m] := by
    rw [List.find?_eq_some_iff_getElem]
    refine ⟨by simpa using hx, m, hm, rfl, fun j hj => ?_⟩
    simp [h j hj]
  rw [this]
theorem joinB_take (rs : List Raw) (m : Nat) (hm : m < rs.length) : joinB (rs.take (m + 1)) = joinB (rs.take m) ++ encB rs[m] := by
  unfold joinB
  rw [List.take_succ_eq_append_getElem hm, List.flatMap_append]
  simp
def Joined (w : World) (rs : List Raw) (e : Ending) (w' : World) : Prop :=
  Below w.heap.size w w' ∧ if joinE rs = 0 then ∃ v, e = .returned (.tuple #[v, .int .i64 0]) ∧ OwnB w.heap.size w' v (joinB rs) else e = .returned (.tuple #[.slice none 0 0, .int .i64 (joinE rs)])
/-- What the loop of a Join carries on. -/
structure JoinRel (w : World) (rs : List Raw) (v : Value) (wr : World) (m : Nat) : Prop where
  own : OwnB w.heap.size wr v (joinB (rs.take m))
  bel : Below w.heap.size w wr
  good : ∀ j (hj : j < rs.length), j < m → encE rs[j] = 0
theorem RdR.get {w : World} {B : Nat} {A : Option Addr} {n : Nat} {rs : List Raw} (h : RdR w B A n rs) {m : Nat} (hm : m < rs.length) : ∃ b off A1 n1 c1, A = some ⟨b, off, none⟩ ∧ b < B ∧ w.cell? ⟨b, off + m * 3, none⟩ = some (.int .i64 rs[m].1) ∧ w.cell? ⟨b, off + m * 3 + 1, none⟩ = some (.int .i64 rs[m].2.1) ∧ w.cell? ⟨b, off + m * 3 + 2, none⟩ = some (.slice A1 n1 c1) ∧ Rd w B A1 n1 rs[m].2.2 := by
  obtain ⟨b, off, rfl, hb, hc⟩ := h.at_ (by have := h.len; omega)
  obtain ⟨A1, n1, c1, h1, h2, h3, h4⟩ := hc m hm
  exact ⟨b, off, A1, n1, c1, rfl, hb, h1, h2, h3, h4⟩

set_option maxHeartbeats 2000000 in
theorem join_is (w : World) (A : Option Addr) (n c : Nat) (rs : List Raw) (hr : RdR w w.heap.size A n rs) (hn : n ≤ 1000000) (hv : ∀ r ∈ rs, r.2.2.length ≤ 140737488355328)
    (hb : ∀ m, m ≤ rs.length → (∀ j (hj : j < rs.length), j < m → encE rs[j] = 0) → (joinB (rs.take m)).length ≤ 99900000) :
    Calls Tryd.prog 17 #[.slice A n c] w (Joined w rs) := by
  have HR := Lib.hid hr
  have hlen := hr.len
  have HV := Lib.hid hv
  have HBd := Lib.hid hb
  clear hr hv hb
  go_enter Tryd.func17, Tryd.ntmps17
  go_wp2
  go_loopw [4, 6, 7, 8, 11] (fun v _ _ _ i wr => ∃ m : Nat, m ≤ n ∧ i = .int .i64 m ∧ JoinRel w rs v wr m) (fun _ _ _ _ i _ => n - (intOf i).toNat)
  case atStart => exact ⟨0, Nat.zero_le _, rfl, OwnB.nil_ _ _, Below.refl _ _, fun j hj h => by omega⟩
  case round =>
    obtain ⟨m, hm, rfl, hrel⟩ := hrel
    have HRel := Lib.hid hrel
    clear hrel
    by_cases hlt : m < n
    · have hml : m < rs.length := by omega
      obtain ⟨b, off, A1, n1, c1, rfl, hbl, x0, x1, x2, hr1⟩ := (HR.out.below HRel.out.bel).get hml
      have hn1 : n1 ≤ 140737488355328 := by rw [← hr1.len]; exact HV.out _ (List.getElem_mem hml)
      have HJt := Lib.hid (joinB_take rs m hml)
      have HBd1 := Lib.hid (HBd.out m (by omega) HRel.out.good)
      have HAt := Lib.hid (fun hx => joinE_at hml (fun j hj => HRel.out.good j (by omega) hj) hx)
      have HGood : Hid (encE rs[m] = 0 → ∀ j (hj : j < rs.length), j < m + 1 → encE rs[j] = 0) := Lib.hid fun h j hj hlt' => by
        by_cases e : j = m
        · subst e; exact h
        · exact HRel.out.good j hj (by omega)
      have hx : ∃ r, r = rs[m] := ⟨_, rfl⟩
      obtain ⟨r, hrr⟩ := hx
      rw [← hrr] at x0 x1 hr1 HJt HAt HGood
      clear hrr
      obtain ⟨f, k, bd⟩ := r
      simp only at x0 x1 hr1
      have hsz := HRel.out.bel.size
      have hal : Below wr.heap.size wr (wr.alloc (.cells #[.int .i64 f, .int .i64 k, .slice A1 n1 c1] 32)) := (Below.refl _ _).alloc (Nat.le_refl _) _
      have HC := Lib.hid (bytesOf_is (wr.alloc (.cells #[.int .i64 f, .int .i64 k, .slice A1 n1 c1] 32)) f k A1 n1 c1 bd ((hr1.below (hal.mono hsz)).more (by simp; omega)) hn1)
      have HAl := Lib.hid hal
      clear hr1 hal
      go_wp2_with (refine raw_fetch rfl _ rfl b (off + m * 3) f k A1 n1 c1 rfl x0 x1 x2 ?_)
      refine HC.out.mono ?_
      rintro e w1 ⟨hB1, he⟩
      have hB2 : Below wr.heap.size wr w1 := HAl.out.trans (hB1.mono (by simp))
      have HB2 := Lib.hid hB2
      have HO2 := Lib.hid (HRel.out.own.below hB2)
      have HBw := Lib.hid (HRel.out.bel.trans (hB2.mono hsz))
      by_cases h0 : encE (f, k, bd) = 0
      · rw [if_pos h0] at he
        obtain ⟨v, rfl, ho⟩ := he
        obtain ⟨A2, c2, rfl, hc2, hr2, _⟩ := ho.at_
        have HR2 := Lib.hid hr2
        have hle : (joinB (rs.take m)).length + (encB (f, k, bd)).length ≤ 100000000 := by
          have := encB_len _ h0
          have := HBd1.out
          omega
        have HGo := Lib.hid (HGood.out h0)
        have hsz2 := HBw.out.size
        clear ho hr2 hB1 hB2 HC HAl HAt HGood h0
        generalize encB (f, k, bd) = eb at *
        generalize joinB (rs.take m) = jb at *
        go_wp2_with (at_builtin; refine app_bs rfl _ _ rfl HO2.out hsz2 HR2.out hle rfl rfl ?_)
        intro v' w3 ho3 hb3 _ _
        have HO3 := Lib.hid ho3
        have HB3 := Lib.hid (HBw.out.trans hb3)
        clear ho3 hb3
        go_wp2
        exact ⟨⟨m + 1, by omega, by go_num, by rw [HJt.out]; exact HO3.out, HB3.out, HGo.out⟩, by simp [intOf]; omega⟩
      · rw [if_neg h0] at he
        subst he
        have HJ := Lib.hid (HAt.out h0)
        have h0' : (encE (f, k, bd) != 0) = true := by simpa using h0
        have H0 := Lib.hid h0
        clear hB1 hB2 HC HAl HAt HGood h0
        generalize encE (f, k, bd) = ee at *
        go_wp2
        go_ret2
        exact ⟨HBw.out, by rw [HJ.out, if_neg H0.out]; rfl⟩
    · obtain rfl : n = m := by omega
      have HJ := Lib.hid (joinE_no fun j hj => HRel.out.good j hj (by omega))
      have HO := Lib.hid HRel.out.own
      rw [List.take_of_length_le (by omega)] at HO
      go_wp2
      go_ret2
      exact ⟨HRel.out.bel, by rw [HJ.out, if_pos rfl]; exact ⟨_, rfl, HO.out⟩⟩
end Go.Proofs.YtiohgblinjignaaDoor
namespace Go.Proofs.YtiohgblinjignaaDoor
open Go.RowKit
set_option maxRecDepth 100000
set_option linter.unusedSimpArgs false
set_option linter.unusedVariables false

theorem same_quiet (w : World) (k : Nat) (A A2 : Option Addr) (n n2 c c2 : Nat) (l : List Int) (h : Rd w w.heap.size A n l) (h2 : Rd w w.heap.size A2 n2 l) :
    Calls Tryd.prog 19 #[.slice A n c, .slice A2 n2 c2] (w.drewN k) fun e w'' => e = .returned (.bool true) ∧ ∃ m, w'' = w.drewN m :=
  (same_is (w.drewN k) w.heap.size A A2 n n2 c c2 l l (h.keep fun _ _ => rfl) (h2.keep fun _ _ => rfl) true (by simp)).mono fun _ _ ⟨a, b⟩ => ⟨a, k, b.symm⟩
theorem RdR.drewN {w : World} {B n : Nat} {A : Option Addr} {rs : List Raw} (h : RdR w B A n rs) (k : Nat) : RdR (w.drewN k) B A n rs := h.below (below_drewN (Below.refl _ _) k)

set_option maxHeartbeats 4000000 in
theorem sameR_is (w : World) (A A2 : Option Addr) (n c c2 : Nat) (rs : List Raw) (h : RdR w w.heap.size A n rs) (h2 : RdR w w.heap.size A2 n rs) (hm : n ≤ 3000000000000) :
    Calls Tryd.prog 14 #[.slice A n c, .slice A2 n c2] w fun e w' => e = .returned (.bool true) ∧ ∃ k, w' = w.drewN k := by
  have H := Lib.hid h
  have H2 := Lib.hid h2
  have hlen := h.len
  have e1 : ((n : Int) != (n : Int)) = false := by simp
  clear h h2
  go_enter Tryd.func14, Tryd.ntmps14
  go_wp2
  go_loopw [5, 13] (fun _ i wr => ∃ k : Nat, k ≤ n ∧ i = .int .i64 k ∧ ∃ j, wr = w.drewN j) (fun _ i _ => n - (intOf i).toNat)
  case atStart => exact ⟨0, by omega, rfl, 0, rfl⟩
  case round =>
    obtain ⟨k, hk, rfl, hj⟩ := hrel
    have HJ := Lib.hid hj
    have HM1 : Hid (RdR wr wr.heap.size A n rs) := Lib.hid (by obtain ⟨j, rfl⟩ := hj; exact H.out.drewN j)
    have HM2 : Hid (RdR wr wr.heap.size A2 n rs) := Lib.hid (by obtain ⟨j, rfl⟩ := hj; exact H2.out.drewN j)
    clear hj
    by_cases hlt : k < n
    · have hkl : k < rs.length := by omega
      obtain ⟨b, off, A1, n1, c1, rfl, _, x0, x1, x2, xr⟩ := HM1.out.get hkl
      obtain ⟨b2, off2, A3, n3, c3, rfl, _, y0, y1, y2, yr⟩ := HM2.out.get hkl
      have HX := Lib.hid xr
      have HY := Lib.hid yr
      have hkI : (k : Int) < (n : Int) := by omega
      clear xr yr
      generalize rs[k].1 = f at *
      generalize rs[k].2.1 = kd at *
      generalize rs[k].2.2 = bd at *
      have e2 : (f != f) = false := by simp
      have e3 : (kd != kd) = false := by simp
      go_wp2_with fail
      go_quiet ((go_at_call 19; exact same_quiet wr _ A1 A3 n1 n3 c1 c3 bd HX.out HY.out))
      go_wp2
      exact ⟨⟨k + 1, by omega, by go_num, by obtain ⟨j, rfl⟩ := HJ.out; exact ⟨j + nq, by rw [World.drewN_drewN]⟩⟩, by simp [intOf]; omega⟩
    · obtain rfl : n = k := by omega
      go_wp2
      go_ret
      exact ⟨rfl, HJ.out⟩

set_option maxHeartbeats 4000000 in
theorem lentR_is (w : World) (A : Option Addr) (n c : Nat) (rs : List Raw) (hr : RdR w w.heap.size A n rs) (hn : n ≤ 1000000) (hv : ∀ r ∈ rs, r.2.2.length ≤ 140737488355328) :
    Calls Tryd.prog 16 #[.slice A n c] w fun e w' => ∃ v, e = .returned v ∧ OwnR w.heap.size w' v rs ∧ Below w.heap.size w w' := by
  have HR := Lib.hid hr
  have hlen := hr.len
  have HV := Lib.hid hv
  clear hr hv
  go_enter Tryd.func16, Tryd.ntmps16
  go_wp2
  go_loopw [3, 5, 8] (fun v _ i wr => ∃ m : Nat, m ≤ n ∧ i = .int .i64 m ∧ OwnR w.heap.size wr v (rs.take m) ∧ Below w.heap.size w wr) (fun _ _ i _ => n - (intOf i).toNat)
  case atStart => exact ⟨0, Nat.zero_le _, rfl, OwnR.nil_ _ _, Below.refl _ _⟩
  case round =>
    obtain ⟨m, hm, rfl, ho, hw⟩ := hrel
    by_cases hlt : m < n
    · have hml : m < rs.length := by omega
      obtain ⟨b, off, A1, n1, c1, rfl, hbl, x0, x1, x2, hr1⟩ := (HR.out.below hw).get hml
      have hn1 : n1 ≤ 140737488355328 := by rw [← hr1.len]; exact HV.out _ (List.getElem_mem hml)
      have HT := Lib.hid (List.take_succ_eq_append_getElem hml)
      have HLen : Hid ((rs.take m).length ≤ 3000000000000) := Lib.hid (by rw [List.length_take]; omega)
      have hx : ∃ r, r = rs[m] := ⟨_, rfl⟩
      obtain ⟨r, hrr⟩ := hx
      rw [← hrr] at x0 x1 hr1 HT
      clear hrr
      obtain ⟨f, k, bd⟩ := r
      simp only at x0 x1 hr1
      have hsz := hw.size
      have hal : Below wr.heap.size wr (wr.alloc (.cells #[.int .i64 f, .int .i64 k, .slice A1 n1 c1] 32)) := (Below.refl _ _).alloc (Nat.le_refl _) _
      have HN := Lib.hid (Blk.new wr 32 #[.int .i64 f, .int .i64 k, .slice A1 n1 c1])
      have HW := Lib.hid (hw.trans (hal.mono hsz))
      have HO := Lib.hid (ho.below hal)
      have HR1 := Lib.hid ((hr1.below (hal.mono hsz)).more (show w.heap.size ≤ (wr.alloc (.cells #[.int .i64 f, .int .i64 k, .slice A1 n1 c1] 32)).heap.size by simp; omega))
      have HZ : Hid (wr.heap.size < (wr.alloc (.cells #[.int .i64 f, .int .i64 k, .slice A1 n1 c1] 32)).heap.size) := Lib.hid (by simp)
      have HNe : Hid (u3.ownBlock ≠ some wr.heap.size) := Lib.hid fun e => by
        obtain ⟨cs, h1, _⟩ := ho
        obtain ⟨c', hc'⟩ := own_heap h1 e
        have := (Array.getElem?_eq_some_iff.1 hc').1
        omega
      clear hr1 hal ho hw
      go_wp2_with (refine raw_fetch rfl _ rfl b (off + m * 3) f k A1 n1 c1 rfl x0 x1 x2 ?_)
      generalize wr.alloc (.cells #[.int .i64 f, .int .i64 k, .slice A1 n1 c1] 32) = w1 at *
      generalize wr.heap.size = g at *
      generalize u3 = vv at *
      refine wp_region_held_drew (S := fun W => Below w.heap.size w W ∧ Blk W g 32 #[.int .i64 f, .int .i64 k, .slice A1 n1 c1]) (by kernel_rfl) (⟨below_drewN HW.out 1, HN.out⟩) (fun hS => ?_)
      refine wpAnyH_take (i := 0) (oi := ⟨some 12, _, _, _, _, _⟩) (v := ?_) rfl (by kernel_rfl) (by kernel_rfl) (by kernel_rfl) (fun _ _ _ h => h) (Or.inl ⟨by rfl, ?_⟩) hS ?_
      rotate_left
      · intro wq hq
        first | (go_simp; done) | (go_simp; rfl)
      try simp only [Act.put, List.setIfInBounds_toArray, List.set_cons_zero, List.set_cons_succ]
      refine wpAnyH_take (i := 1) (oi := ⟨some 13, _, _, _, _, _⟩) (v := ?_) rfl (by kernel_rfl) (by kernel_rfl) (by kernel_rfl) (fun _ _ _ h => h) (Or.inl ⟨by rfl, ?_⟩) hS ?_
      rotate_left
      · intro wq hq
        first | (go_simp; done) | (go_simp; rfl)
      try simp only [Act.put, List.setIfInBounds_toArray, List.set_cons_zero, List.set_cons_succ]
      refine wpAnyH_take (i := 2) (oi := ⟨some 14, _, _, _, _, _⟩) (v := ?_) rfl (by kernel_rfl) (by kernel_rfl) (by kernel_rfl) (fun _ _ _ h => h) (Or.inl ⟨by rfl, ?_⟩) hS ?_
      rotate_left
      · intro wq hq
        have d0 : wq.cell? ⟨g, 0, none⟩ = some (.int .i64 f) := hq.2.cell 0
        first | (go_simp; done) | (go_simp; rfl)
      try simp only [Act.put, List.setIfInBounds_toArray, List.set_cons_zero, List.set_cons_succ]
      refine wpAnyH_take (i := 3) (oi := ⟨some 15, _, _, _, _, _⟩) (v := ?_) rfl (by kernel_rfl) (by kernel_rfl) (by kernel_rfl) (fun _ _ _ h => h) (Or.inl ⟨by rfl, ?_⟩) hS ?_
      rotate_left
      · intro wq hq
        first | (go_simp; done) | (go_simp; rfl)
      try simp only [Act.put, List.setIfInBounds_toArray, List.set_cons_zero, List.set_cons_succ]
      refine wpAnyH_take (i := 4) (oi := ⟨some 16, _, _, _, _, _⟩) (v := ?_) rfl (by kernel_rfl) (by kernel_rfl) (by kernel_rfl) (fun _ _ _ h => h) (Or.inl ⟨by rfl, ?_⟩) hS ?_
      rotate_left
      · intro wq hq
        have d1 : wq.cell? ⟨g, 1, none⟩ = some (.int .i64 k) := hq.2.cell 1
        first | (go_simp; done) | (go_simp; rfl)
      try simp only [Act.put, List.setIfInBounds_toArray, List.set_cons_zero, List.set_cons_succ]
      refine wpAnyH_take (i := 5) (oi := ⟨some 17, _, _, _, _, _⟩) (v := ?_) rfl (by kernel_rfl) (by kernel_rfl) (by kernel_rfl) (fun _ _ _ h => h) (Or.inl ⟨by rfl, ?_⟩) hS ?_
      rotate_left
      · intro wq hq
        first | (go_simp; done) | (go_simp; rfl)
      try simp only [Act.put, List.setIfInBounds_toArray, List.set_cons_zero, List.set_cons_succ]
      refine wpAnyH_take (i := 6) (oi := ⟨some 18, _, _, _, _, _⟩) (v := ?_) rfl (by kernel_rfl) (by kernel_rfl) (by kernel_rfl) (fun _ _ _ h => h) (Or.inl ⟨by rfl, ?_⟩) hS ?_
      rotate_left
      · intro wq hq
        have d2 : wq.cell? ⟨g, 2, none⟩ = some (.slice A1 n1 c1) := hq.2.cell 2
        first | (go_simp; done) | (go_simp; rfl)
      try simp only [Act.put, List.setIfInBounds_toArray, List.set_cons_zero, List.set_cons_succ]
      refine wpAnyH_ready (rs := [7]) (by kernel_rfl) (by simp) ?_
      refine AllReadyH.cons (o := ⟨some 19, _, _, _, _, _⟩) rfl (fun K hK => ?_) AllReadyH.nil
      rw [if_pos (by rfl)]
      go_wp2_with fail
      refine (lent_is w1.drew A1 n1 c1 bd (HR1.out.keep fun _ _ => rfl) hn1).mono ?_
      rintro e w2 ⟨rfl, hby, hB2⟩
      have hO2 : OwnR w.heap.size w2 vv (rs.take m) := (HO.out.below (below_drewN (Below.refl _ _) 1)).below hB2
      have hBd : BodyN w.heap.size w2 (some ⟨w1.heap.size, 0, none⟩) n1 bd := ⟨HR1.out.oct, HR1.out.len, .inr ⟨w1.heap.size, [165, 90], rfl, HW.out.size, hby, by unfold Oct; decide⟩⟩
      have hS1 := hS
      refine hK.out _ _ (⟨hS1.1.trans (hB2.mono hS1.1.size), hS1.2.below hB2 hS1.2.lt⟩) (fun hS => ?_)
      clear hK K
      try simp only [Act.put, List.setIfInBounds_toArray, List.set_cons_zero, List.set_cons_succ]
      have HS := Lib.hid hS
      have HO2 := Lib.hid hO2
      have HBd := Lib.hid hBd
      clear hS1 hB2 hby hO2 hBd HO HR1 HN HW
      refine wpAnyH_take (i := 8) (oi := ⟨some 20, _, _, _, _, _⟩) (v := ?_) rfl (by kernel_rfl) (by kernel_rfl) (by kernel_rfl) (fun _ _ _ h => h) (Or.inl ⟨by rfl, ?_⟩) hS ?_
      rotate_left
      · intro wq hq
        first | (go_simp; done) | (go_simp; rfl)
      try simp only [Act.put, List.setIfInBounds_toArray, List.set_cons_zero, List.set_cons_succ]
      refine wpAnyH_ready (rs := [9]) (by kernel_rfl) (by simp) ?_
      refine AllReadyH.cons (o := ⟨some 21, _, _, _, _, _⟩) rfl (fun K hK => ?_) AllReadyH.nil
      rw [if_pos (by rfl)]
      go_wp2
      refine hK.out _ _ ⟨HS.out.1.alloc HS.out.1.size _, HS.out.2.alloc _⟩ (fun hS => ?_)
      clear hK K
      try simp only [Act.put, List.setIfInBounds_toArray, List.set_cons_zero, List.set_cons_succ]
      refine wpAnyH_ready (rs := [10]) (by kernel_rfl) (by simp) ?_
      refine AllReadyH.cons (o := ⟨some 22, _, _, _, _, _⟩) rfl (fun K hK => ?_) AllReadyH.nil
      rw [if_pos (by rfl)]
      refine app_raw_wp (w := w2) (v := vv) (f := f) (k := k) (body := bd) _ _ rfl HO2.out HS.out.1.size HLen.out HBd.out rfl rfl ?_
      intro v3 w3 hO3 hg3 hold
      have hb3 : Below w.heap.size w2 w3 := (Below.refl _ _).grown hg3 HS.out.1.size (fun i e => (hold i e).1)
      have hne : some g ≠ vv.ownBlock := fun e => HNe.out e.symm
      refine hK.out _ _ ⟨HS.out.1.trans hb3, HS.out.2.grown hg3 hne⟩ (fun hS => ?_)
      clear hK K
      try simp only [Act.put, List.setIfInBounds_toArray, List.set_cons_zero, List.set_cons_succ]
      refine wpAnyH_take (i := 11) (oi := ⟨some 3, _, _, _, _, _⟩) (v := ?_) rfl (by kernel_rfl) (by kernel_rfl) (by kernel_rfl) (fun _ _ _ h => h) (Or.inl ⟨by rfl, ?_⟩) hS ?_
      rotate_left
      · intro wq hq
        first | (go_simp; done) | (go_simp; rfl)
      try simp only [Act.put, List.setIfInBounds_toArray, List.set_cons_zero, List.set_cons_succ]
      refine wpAnyH_done (by kernel_rfl) ?_ _
      have HO3 := Lib.hid hO3
      have HS3 := Lib.hid hS.1
      clear hS hO3 hg3 hold hb3 hne HS HBd HO2
      go_wp2
      exact ⟨⟨m + 1, by omega, by go_num, by rw [HT.out]; exact HO3.out, HS3.out⟩, by simp [intOf]; omega⟩
    · obtain rfl : n = m := by omega
      rw [List.take_of_length_le (by omega)] at ho
      have HO := Lib.hid ho
      have HW := Lib.hid hw
      clear ho hw
      go_wp2
      go_ret
      exact ⟨_, rfl, HO.out, HW.out⟩

set_option maxHeartbeats 1000000 in
theorem alike_is (w : World) (code sub : Int) (A A2 : Option Addr) (n n2 c c2 : Nat) (l : List Int) (h : Rd w w.heap.size A n l) (h2 : Rd w w.heap.size A2 n2 l) :
    Calls Tryd.prog 26 #[.agg #[.int .i64 code, .int .i64 sub, .slice A n c], .agg #[.int .i64 code, .int .i64 sub, .slice A2 n2 c2]] w fun e w' => e = .returned (.bool true) ∧ Below w.heap.size w w' := by
  have HW2 : Hid (Below w.heap.size w ((w.alloc (.cells #[.int .i64 code, .int .i64 sub, .slice A n c] 51)).alloc (.cells #[.int .i64 code, .int .i64 sub, .slice A2 n2 c2] 51))) := Lib.hid (((Below.refl _ _).alloc (Nat.le_refl _) _).alloc (by simp) _)
  have HC := Lib.hid (same_is _ w.heap.size A A2 n n2 c c2 l l (h.below HW2.out) (h2.below HW2.out) true (by simp))
  have e1 : (code == code) = true := by simp
  have e2 : (sub == sub) = true := by simp
  clear h h2
  go_enter Tryd.func26, Tryd.ntmps26
  go_wp2_with fail
  refine HC.out.mono ?_
  rintro e w' ⟨rfl, rfl⟩
  go_wp2
  go_ret
  exact ⟨rfl, HW2.out⟩
end Go.Proofs.YtiohgblinjignaaDoor
namespace Go.Proofs.YtiohgblinjignaaDoor
open Go.RowKit
set_option maxRecDepth 100000
set_option linter.unusedSimpArgs false
set_option linter.unusedVariables false

set_option maxHeartbeats 4000000 in
theorem rsplit_is (w : World) (A : Option Addr) (n c : Nat) (l : List Int) (hr : Rd w w.heap.size A n l) (hm : n ≤ 3000000000000) :
    Calls Tryd.prog 13 #[.slice A n c] w (Splitted w l) := by
  have HO := Lib.hid hr.oct
  have hln := hr.len
  have HR := Lib.hid hr
  clear hr
  go_enter Tryd.func13, Tryd.ntmps13
  go_wp2_with fail
  refine (rnew_is w A n c l HR.out (by omega)).mono ?_
  rintro e w1 ⟨g, rfl, hg, hcur, hB⟩
  have HC := Lib.hid hcur
  have HB := Lib.hid hB
  have HG := Lib.hid hg
  clear hcur hB hg
  go_wp2
  go_loopw [5, 6, 7, 8, 9] (fun v _ _ _ _ wr => ∃ at_ done, SplRel w g 75 l v wr at_ done) (fun _ _ _ _ _ wr => l.length - (intOf ((wr.cell? ⟨g, 1, none⟩).getD (.int .i64 0))).toNat)
  case atStart => exact ⟨0, [], HC.out, OwnR.nil_ _ _, HB.out, ⟨l.length, by omega, by simp [split]⟩, Nat.zero_le _⟩
  case round =>
    obtain ⟨at_, done, hrel⟩ := hrel
    have HRel := Lib.hid hrel
    have hle := hrel.cur.le
    clear hrel HC HB HR
    go_wp2_with fail
    refine (rleft_is _ g l at_ 0 HRel.out.cur).mono ?_
    rintro e w2 ⟨rfl, k1, rfl⟩
    by_cases hlt : at_ < l.length
    · have hp : (0 : Int) < (l.length : Int) - at_ := by omega
      have HM0 : Hid ((wr.cell? ⟨g, 1, none⟩) = some (.int .i64 at_)) := Lib.hid (by obtain ⟨_, _, q, _, _⟩ := HRel.out.cur.ex; exact Blk.cell q 1)
      have HX : Hid (nx l at_ = ⟨numVal l at_ 0 1, numVal l (numAt l at_ 0 1) (numErr l at_ 0 1) 1, numVal l (numAt l (numAt l at_ 0 1) (numErr l at_ 0 1) 1) (numErr l (numAt l at_ 0 1) (numErr l at_ 0 1) 1) (lsz (numVal l at_ 0 1) : Nat), numAt l (numAt l (numAt l at_ 0 1) (numErr l at_ 0 1) 1) (numErr l (numAt l at_ 0 1) (numErr l at_ 0 1) 1) (lsz (numVal l at_ 0 1) : Nat), numErr l (numAt l (numAt l at_ 0 1) (numErr l at_ 0 1) 1) (numErr l (numAt l at_ 0 1) (numErr l at_ 0 1) 1) (lsz (numVal l at_ 0 1) : Nat)⟩) := Lib.hid rfl
      go_wp2_with fail
      refine (rnum_is _ g l at_ 0 1 (HRel.out.cur.drewN k1)).mono ?_
      rintro e w3 ⟨rfl, hc1, hg1⟩
      have bf := numVal_bd l at_ 0 1 HO.out (by decide)
      have hO3 : OwnR (g + 1) w3 u5 done := (HRel.out.own.below (below_drewN (Below.refl _ _) k1)).cur (HRel.out.cur.drewN k1) hg1 (by decide) (by decide)
      have hB3 : Below w.heap.size w w3 := below_only (below_drewN HRel.out.bel k1) hg1 HRel.out.bel.size (fun j e => by injection e with e; rw [← e]; exact HG.out)
      generalize numVal l at_ 0 1 = f at *
      generalize numAt l at_ 0 1 = a1 at *
      generalize numErr l at_ 0 1 = e1 at *
      have wf := wrap_num bf
      have HC1 := Lib.hid hc1
      have HO3 := Lib.hid hO3
      have HB3 := Lib.hid hB3
      clear hc1 hg1 hO3 hB3
      go_wp2_with fail
      refine (rnum_is _ g l a1 e1 1 HC1.out).mono ?_
      rintro e w4 ⟨rfl, hc2, hg2⟩
      have bk := numVal_bd l a1 e1 1 HO.out (by decide)
      have hO4 : OwnR (g + 1) w4 u5 done := HO3.out.cur HC1.out hg2 (by decide) (by decide)
      have hB4 : Below w.heap.size w w4 := below_only HB3.out hg2 HB3.out.size (fun j e => by injection e with e; rw [← e]; exact HG.out)
      generalize numVal l a1 e1 1 = k at *
      generalize numAt l a1 e1 1 = a2 at *
      generalize numErr l a1 e1 1 = e2 at *
      have wk := wrap_num bk
      have hcz := hc2.lt
      have hal : Below w4.heap.size w4 (w4.alloc (.cells #[.int .i64 f, .int .i64 k, .slice none 0 0] 32)) := (Below.refl _ _).alloc (Nat.le_refl _) _
      have HC2 := Lib.hid (hc2.keep (hal.mono hcz))
      have HO4 := Lib.hid (hO4.below hal)
      have HB4 := Lib.hid (hB4.trans (hal.mono hB4.size))
      have HR4 := Lib.hid (Blk.new w4 32 #[.int .i64 f, .int .i64 k, .slice none 0 0])
      have hls := lsz_12 f
      have HG4 : Hid (g < w4.heap.size) := Lib.hid hcz
      have HNe : Hid (u5.ownBlock ≠ some w4.heap.size) := Lib.hid fun e => by
        obtain ⟨cs, h1, _⟩ := hO4
        obtain ⟨c', hc'⟩ := own_heap h1 e
        have := (Array.getElem?_eq_some_iff.1 hc').1
        omega
      clear hc2 hg2 HC1 HO3 HB3 hO4 hB4 hal hcz
      rcases (show ((bits .and .i64 f 16 != 0) = true ∧ ((lsz f : Nat) : Int) = 2) ∨ ((bits .and .i64 f 16 != 0) = false ∧ ((lsz f : Nat) : Int) = 1) by
        unfold lsz lng
        cases bits .and .i64 f 16 != 0
        · exact .inr ⟨rfl, rfl⟩
        · exact .inl ⟨rfl, rfl⟩) with ⟨hq, hs⟩ | ⟨hq, hs⟩
      · rw [hs] at HX
        clear hs
        go_wp2_with fail
        refine (rnum_is _ g l a2 e2 2 HC2.out).mono ?_
        generalize w4.alloc (.cells #[.int .i64 f, .int .i64 k, .slice none 0 0] 32) = w5 at *
        rintro e w6 ⟨rfl, hc3, hg3⟩
        have bn := numVal_bd l a2 e2 2 HO.out (by decide)
        have hO6 : OwnR (g + 1) w6 u5 done := HO4.out.cur HC2.out hg3 (by decide) (by decide)
        have hB6 : Below w.heap.size w w6 := below_only HB4.out hg3 HB4.out.size (fun j e => by injection e with e; rw [← e]; exact HG.out)
        have hR6 := HR4.out.grown hg3 (fun e => by injection e with e; have := HG4.out; omega)
        generalize numVal l a2 e2 2 = nn at *
        generalize numAt l a2 e2 2 = a3 at *
        generalize numErr l a2 e2 2 = e3 at *
        have wn := wrap_num bn
        have HC3 := Lib.hid hc3
        have HO6 := Lib.hid hO6
        have HB6 := Lib.hid hB6
        have HR6 := Lib.hid hR6
        clear hc3 hg3 hO6 hB6 hR6 HC2 HO4 HB4 HR4
        go_wp2_with fail
        refine (rtake_is _ g l a3 e3 nn HC3.out).mono ?_
        rintro e w7 ⟨A7, c7, rfl, hn7, hc7, hg7⟩
        have hO7 : OwnR (g + 1) w7 u5 done := HO6.out.cur HC3.out hg7 (by decide) (by decide)
        have hB7 : Below w.heap.size w w7 := below_only HB6.out hg7 HB6.out.size (fun j e => by injection e with e; rw [← e]; exact HG.out)
        have hR7 := HR6.out.grown hg7 (fun e => by injection e with e; have := HG4.out; omega)
        have hN7 := hn7.body (lo := g + 1) (by exact HC3.out.lt)
        have hst : stepTook l (nx l at_).a (nx l at_).e (nx l at_).n = stepTook l a3 e3 nn ∧ stepAt l (nx l at_).a (nx l at_).e (nx l at_).n = stepAt l a3 e3 nn ∧ stepErr l (nx l at_).a (nx l at_).e (nx l at_).n = stepErr l a3 e3 nn ∧ (nx l at_).f = f ∧ (nx l at_).k = k := by rw [HX.out]; exact ⟨rfl, rfl, rfl, rfl, rfl⟩
        have f2 : w7.frozen? ⟨w4.heap.size, 2, none⟩ = false := hR7.frozen 2
        have q2 : w7.cell? ⟨w4.heap.size, 2, none⟩ = some (.slice none 0 0) := hR7.cell 2
        have HR7 := Lib.hid hR7
        have HC7 := Lib.hid hc7
        have HO7 := Lib.hid hO7
        have HB7 := Lib.hid hB7
        have HN7 := Lib.hid hN7
        have HST := Lib.hid hst
        have hg4 := HG4.out
        generalize stepTook l a3 e3 nn = tk at *
        generalize stepAt l a3 e3 nn = a4 at *
        generalize stepErr l a3 e3 nn = e4 at *
        have hne : ∀ i c t, w7.heap[i]? = some (.cells c t (0, 0)) → (t = 5 ∨ i = g) → i ≠ w4.heap.size := fun i c t hi ht e => by
          rcases ht with rfl | rfl
          · exact row_ne hi hR7 (by decide) e
          · omega
        have HC8 : Hid (IsRef (w7.setCell ⟨w4.heap.size, 2, none⟩ (.slice A7 tk.length c7)) g l a4 e4) := Lib.hid (hc7.keep ((Below.refl _ _).setCell (show g + 1 ≤ w4.heap.size by omega) _))
        have HB8 : Hid (Below w.heap.size w (w7.setCell ⟨w4.heap.size, 2, none⟩ (.slice A7 tk.length c7))) := Lib.hid (hB7.trans ((Below.refl _ _).setCell (show w.heap.size ≤ w4.heap.size by have := HG.out; omega) _))
        have HN8 : Hid (BodyN (g + 1) (w7.setCell ⟨w4.heap.size, 2, none⟩ (.slice A7 tk.length c7)) A7 tk.length tk) := Lib.hid (hN7.keep fun i c hi _ => Below.heap_setCell _ _ _ _ (by exact fun e => row_ne hi hR7 (by decide) e))
        have HO8 : Hid (OwnR (g + 1) (w7.setCell ⟨w4.heap.size, 2, none⟩ (.slice A7 tk.length c7)) u5 done) := Lib.hid (by
          obtain ⟨cs, h1, h2⟩ := hO7
          exact ⟨cs, own_keep h1 fun i c hi _ hv => Below.heap_setCell _ _ _ _ (by exact fun e => HNe.out (hv.trans (by rw [e]))), h2.imp fun A n l hb => hb.keep fun i c hi _ => Below.heap_setCell _ _ _ _ (by exact fun e => row_ne hi hR7 (by decide) e)⟩)
        have HR8 := Lib.hid (hR7.set_ 2 (.slice A7 tk.length c7))
        clear hn7 hc7 hg7 hO7 hB7 hR7 hN7 hst hne HC3 HO6 HB6 HR6 HX HR7 HC7 HO7 HB7 HN7
        cases ho : one (l.drop at_) with
        | none =>
          have he : e4 = 3 := by rw [← HST.out.2.2.1]; exact nx_no l at_ HO.out hle ho
          subst he
          have HS := Lib.hid (spl_bad HRel.out.goes hlt ho)
          have ce : (w7.setCell ⟨w4.heap.size, 2, none⟩ (.slice A7 tk.length c7)).cell? ⟨g, 2, none⟩ = some (.int .i64 3) := by obtain ⟨_, _, q, _, _⟩ := HC8.out.ex; exact Blk.cell q 2
          clear ho
          go_wp2
          go_ret2
          exact ⟨HB8.out, by rw [HS.out]; rfl⟩
        | some r =>
          obtain ⟨x, m⟩ := r
          obtain ⟨p1, p2, p3, p4, p5⟩ := nx_ok l at_ x m HO.out hle ho
          rw [HST.out.2.2.2.1] at p1
          rw [HST.out.2.2.2.2] at p2
          rw [HST.out.1] at p3
          rw [HST.out.2.1] at p4
          rw [HST.out.2.2.1] at p5
          subst p5 p4 p3 p2 p1
          have HS := Lib.hid (spl_step HRel.out.goes hlt ho)
          have hp3 := one_pos ho
          rw [List.length_drop] at hp3
          have HCnt := Lib.hid HRel.out.cnt
          have HLen : Hid (done.length ≤ 3000000000000) := Lib.hid (by have := HCnt.out; omega)
          have ce : (w7.setCell ⟨w4.heap.size, 2, none⟩ (.slice A7 x.2.2.length c7)).cell? ⟨g, 2, none⟩ = some (.int .i64 0) := by obtain ⟨_, _, q, _, _⟩ := HC8.out.ex; exact Blk.cell q 2
          have x0 : (w7.setCell ⟨w4.heap.size, 2, none⟩ (.slice A7 x.2.2.length c7)).cell? ⟨w4.heap.size, 0, none⟩ = some (.int .i64 x.1) := HR8.out.cell 0
          have x1 : (w7.setCell ⟨w4.heap.size, 2, none⟩ (.slice A7 x.2.2.length c7)).cell? ⟨w4.heap.size, 1, none⟩ = some (.int .i64 x.2.1) := HR8.out.cell 1
          have x2 : (w7.setCell ⟨w4.heap.size, 2, none⟩ (.slice A7 x.2.2.length c7)).cell? ⟨w4.heap.size, 2, none⟩ = some (.slice A7 x.2.2.length c7) := HR8.out.cell 2
          have HZ8 : Hid (g + 1 ≤ (w7.setCell ⟨w4.heap.size, 2, none⟩ (.slice A7 x.2.2.length c7)).heap.size) := Lib.hid HC8.out.lt
          have HSz : Hid ((w7.setCell ⟨w4.heap.size, 2, none⟩ (.slice A7 x.2.2.length c7)).heap.size = w7.heap.size) := Lib.hid (by simp [World.setCell])
          clear ho HRel HST HR8
          go_wp2_with (first
            | (refine raw_fetch rfl _ rfl w4.heap.size 0 x.1 x.2.1 A7 x.2.2.length c7 rfl x0 x1 x2 ?_)
            | (at_builtin; refine app_raw (f := x.1) (k := x.2.1) (body := x.2.2) rfl _ _ rfl HO8.out HZ8.out HLen.out HN8.out rfl (by rw [HSz.out]; rfl) ?_))
          generalize w7.setCell ⟨w4.heap.size, 2, none⟩ (.slice A7 x.2.2.length c7) = w8 at *
          intro v' w9 hO9 hg9 hold
          have hb9 : Below (g + 1) w8 w9 := (Below.refl _ _).grown hg9 HZ8.out (fun i e => (hold i e).1)
          have hC9 : IsRef w9 g l (at_ + m) 0 := HC8.out.keep hb9
          have HR9 : Hid (SplRel w g 75 l v' w9 (at_ + m) (done ++ [x])) := Lib.hid ⟨hC9, hO9, HB8.out.trans (hb9.mono (Nat.le_succ_of_le HG.out)), HS.out, by have := HCnt.out; simp; omega⟩
          clear hO9 hg9 hold hb9 hC9 x0 x1 x2 ce
          go_wp2
          refine ⟨⟨at_ + m, _, HR9.out⟩, ?_⟩
          have hM9 : w9.cell? ⟨g, 1, none⟩ = some (.int .i64 (at_ + m : Nat)) := by obtain ⟨_, _, q, _, _⟩ := HR9.out.cur.ex; exact Blk.cell q 1
          rw [HM0.out, hM9]
          simp [intOf]
          omega
      · rw [hs] at HX
        clear hs
        go_wp2_with fail
        refine (rnum_is _ g l a2 e2 1 HC2.out).mono ?_
        generalize w4.alloc (.cells #[.int .i64 f, .int .i64 k, .slice none 0 0] 32) = w5 at *
        rintro e w6 ⟨rfl, hc3, hg3⟩
        have bn := numVal_bd l a2 e2 1 HO.out (by decide)
        have hO6 : OwnR (g + 1) w6 u5 done := HO4.out.cur HC2.out hg3 (by decide) (by decide)
        have hB6 : Below w.heap.size w w6 := below_only HB4.out hg3 HB4.out.size (fun j e => by injection e with e; rw [← e]; exact HG.out)
        have hR6 := HR4.out.grown hg3 (fun e => by injection e with e; have := HG4.out; omega)
        generalize numVal l a2 e2 1 = nn at *
        generalize numAt l a2 e2 1 = a3 at *
        generalize numErr l a2 e2 1 = e3 at *
        have wn := wrap_num bn
        have HC3 := Lib.hid hc3
        have HO6 := Lib.hid hO6
        have HB6 := Lib.hid hB6
        have HR6 := Lib.hid hR6
        clear hc3 hg3 hO6 hB6 hR6 HC2 HO4 HB4 HR4
        go_wp2_with fail
        refine (rtake_is _ g l a3 e3 nn HC3.out).mono ?_
        rintro e w7 ⟨A7, c7, rfl, hn7, hc7, hg7⟩
        have hO7 : OwnR (g + 1) w7 u5 done := HO6.out.cur HC3.out hg7 (by decide) (by decide)
        have hB7 : Below w.heap.size w w7 := below_only HB6.out hg7 HB6.out.size (fun j e => by injection e with e; rw [← e]; exact HG.out)
        have hR7 := HR6.out.grown hg7 (fun e => by injection e with e; have := HG4.out; omega)
        have hN7 := hn7.body (lo := g + 1) (by exact HC3.out.lt)
        have hst : stepTook l (nx l at_).a (nx l at_).e (nx l at_).n = stepTook l a3 e3 nn ∧ stepAt l (nx l at_).a (nx l at_).e (nx l at_).n = stepAt l a3 e3 nn ∧ stepErr l (nx l at_).a (nx l at_).e (nx l at_).n = stepErr l a3 e3 nn ∧ (nx l at_).f = f ∧ (nx l at_).k = k := by rw [HX.out]; exact ⟨rfl, rfl, rfl, rfl, rfl⟩
        have f2 : w7.frozen? ⟨w4.heap.size, 2, none⟩ = false := hR7.frozen 2
        have q2 : w7.cell? ⟨w4.heap.size, 2, none⟩ = some (.slice none 0 0) := hR7.cell 2
        have HR7 := Lib.hid hR7
        have HC7 := Lib.hid hc7
        have HO7 := Lib.hid hO7
        have HB7 := Lib.hid hB7
        have HN7 := Lib.hid hN7
        have HST := Lib.hid hst
        have hg4 := HG4.out
        generalize stepTook l a3 e3 nn = tk at *
        generalize stepAt l a3 e3 nn = a4 at *
        generalize stepErr l a3 e3 nn = e4 at *
        have hne : ∀ i c t, w7.heap[i]? = some (.cells c t (0, 0)) → (t = 5 ∨ i = g) → i ≠ w4.heap.size := fun i c t hi ht e => by
          rcases ht with rfl | rfl
          · exact row_ne hi hR7 (by decide) e
          · omega
        have HC8 : Hid (IsRef (w7.setCell ⟨w4.heap.size, 2, none⟩ (.slice A7 tk.length c7)) g l a4 e4) := Lib.hid (hc7.keep ((Below.refl _ _).setCell (show g + 1 ≤ w4.heap.size by omega) _))
        have HB8 : Hid (Below w.heap.size w (w7.setCell ⟨w4.heap.size, 2, none⟩ (.slice A7 tk.length c7))) := Lib.hid (hB7.trans ((Below.refl _ _).setCell (show w.heap.size ≤ w4.heap.size by have := HG.out; omega) _))
        have HN8 : Hid (BodyN (g + 1) (w7.setCell ⟨w4.heap.size, 2, none⟩ (.slice A7 tk.length c7)) A7 tk.length tk) := Lib.hid (hN7.keep fun i c hi _ => Below.heap_setCell _ _ _ _ (by exact fun e => row_ne hi hR7 (by decide) e))
        have HO8 : Hid (OwnR (g + 1) (w7.setCell ⟨w4.heap.size, 2, none⟩ (.slice A7 tk.length c7)) u5 done) := Lib.hid (by
          obtain ⟨cs, h1, h2⟩ := hO7
          exact ⟨cs, own_keep h1 fun i c hi _ hv => Below.heap_setCell _ _ _ _ (by exact fun e => HNe.out (hv.trans (by rw [e]))), h2.imp fun A n l hb => hb.keep fun i c hi _ => Below.heap_setCell _ _ _ _ (by exact fun e => row_ne hi hR7 (by decide) e)⟩)
        have HR8 := Lib.hid (hR7.set_ 2 (.slice A7 tk.length c7))
        clear hn7 hc7 hg7 hO7 hB7 hR7 hN7 hst hne HC3 HO6 HB6 HR6 HX HR7 HC7 HO7 HB7 HN7
        cases ho : one (l.drop at_) with
        | none =>
          have he : e4 = 3 := by rw [← HST.out.2.2.1]; exact nx_no l at_ HO.out hle ho
          subst he
          have HS := Lib.hid (spl_bad HRel.out.goes hlt ho)
          have ce : (w7.setCell ⟨w4.heap.size, 2, none⟩ (.slice A7 tk.length c7)).cell? ⟨g, 2, none⟩ = some (.int .i64 3) := by obtain ⟨_, _, q, _, _⟩ := HC8.out.ex; exact Blk.cell q 2
          clear ho
          go_wp2
          go_ret2
          exact ⟨HB8.out, by rw [HS.out]; rfl⟩
        | some r =>
          obtain ⟨x, m⟩ := r
          obtain ⟨p1, p2, p3, p4, p5⟩ := nx_ok l at_ x m HO.out hle ho
          rw [HST.out.2.2.2.1] at p1
          rw [HST.out.2.2.2.2] at p2
          rw [HST.out.1] at p3
          rw [HST.out.2.1] at p4
          rw [HST.out.2.2.1] at p5
          subst p5 p4 p3 p2 p1
          have HS := Lib.hid (spl_step HRel.out.goes hlt ho)
          have hp3 := one_pos ho
          rw [List.length_drop] at hp3
          have HCnt := Lib.hid HRel.out.cnt
          have HLen : Hid (done.length ≤ 3000000000000) := Lib.hid (by have := HCnt.out; omega)
          have ce : (w7.setCell ⟨w4.heap.size, 2, none⟩ (.slice A7 x.2.2.length c7)).cell? ⟨g, 2, none⟩ = some (.int .i64 0) := by obtain ⟨_, _, q, _, _⟩ := HC8.out.ex; exact Blk.cell q 2
          have x0 : (w7.setCell ⟨w4.heap.size, 2, none⟩ (.slice A7 x.2.2.length c7)).cell? ⟨w4.heap.size, 0, none⟩ = some (.int .i64 x.1) := HR8.out.cell 0
          have x1 : (w7.setCell ⟨w4.heap.size, 2, none⟩ (.slice A7 x.2.2.length c7)).cell? ⟨w4.heap.size, 1, none⟩ = some (.int .i64 x.2.1) := HR8.out.cell 1
          have x2 : (w7.setCell ⟨w4.heap.size, 2, none⟩ (.slice A7 x.2.2.length c7)).cell? ⟨w4.heap.size, 2, none⟩ = some (.slice A7 x.2.2.length c7) := HR8.out.cell 2
          have HZ8 : Hid (g + 1 ≤ (w7.setCell ⟨w4.heap.size, 2, none⟩ (.slice A7 x.2.2.length c7)).heap.size) := Lib.hid HC8.out.lt
          have HSz : Hid ((w7.setCell ⟨w4.heap.size, 2, none⟩ (.slice A7 x.2.2.length c7)).heap.size = w7.heap.size) := Lib.hid (by simp [World.setCell])
          clear ho HRel HST HR8
          go_wp2_with (first
            | (refine raw_fetch rfl _ rfl w4.heap.size 0 x.1 x.2.1 A7 x.2.2.length c7 rfl x0 x1 x2 ?_)
            | (at_builtin; refine app_raw (f := x.1) (k := x.2.1) (body := x.2.2) rfl _ _ rfl HO8.out HZ8.out HLen.out HN8.out rfl (by rw [HSz.out]; rfl) ?_))
          generalize w7.setCell ⟨w4.heap.size, 2, none⟩ (.slice A7 x.2.2.length c7) = w8 at *
          intro v' w9 hO9 hg9 hold
          have hb9 : Below (g + 1) w8 w9 := (Below.refl _ _).grown hg9 HZ8.out (fun i e => (hold i e).1)
          have hC9 : IsRef w9 g l (at_ + m) 0 := HC8.out.keep hb9
          have HR9 : Hid (SplRel w g 75 l v' w9 (at_ + m) (done ++ [x])) := Lib.hid ⟨hC9, hO9, HB8.out.trans (hb9.mono (Nat.le_succ_of_le HG.out)), HS.out, by have := HCnt.out; simp; omega⟩
          clear hO9 hg9 hold hb9 hC9 x0 x1 x2 ce
          go_wp2
          refine ⟨⟨at_ + m, _, HR9.out⟩, ?_⟩
          have hM9 : w9.cell? ⟨g, 1, none⟩ = some (.int .i64 (at_ + m : Nat)) := by obtain ⟨_, _, q, _, _⟩ := HR9.out.cur.ex; exact Blk.cell q 1
          rw [HM0.out, hM9]
          simp [intOf]
          omega
    · obtain rfl : at_ = l.length := by omega
      have HS := Lib.hid (spl_end HRel.out.goes rfl)
      go_wp2
      go_ret2
      exact ⟨below_drewN HRel.out.bel k1, by rw [HS.out]; exact ⟨_, rfl, (HRel.out.own.below (below_drewN (Below.refl _ _) k1)).low (Nat.le_succ_of_le HG.out)⟩⟩
end Go.Proofs.YtiohgblinjignaaDoor
namespace Go.Proofs.YtiohgblinjignaaDoor
open Go.RowKit
set_option maxRecDepth 100000
set_option linter.unusedSimpArgs false
set_option linter.unusedVariables false

theorem encE_2 {f k : Int} {bd : List Int} (h : f < 0 ∨ 255 < f ∨ k < 0 ∨ 255 < k) : encE (f, k, bd) = 2 := by unfold encE; rw [if_neg (by simp only; omega)]
theorem encE_5 {f k : Int} {bd : List Int} (h : 0 ≤ f ∧ f ≤ 255 ∧ 0 ≤ k ∧ k ≤ 255) (hn : 65535 < bd.length ∨ (255 < bd.length ∧ lng f = false)) : encE (f, k, bd) = 5 := by
  unfold encE lsz
  rw [if_pos h]
  rcases hn with hn | ⟨hn, hl⟩
  · cases lng f
    · simp; omega
    · simp; omega
  · rw [hl]; simp; omega
theorem encE_0 {f k : Int} {bd : List Int} (h : 0 ≤ f ∧ f ≤ 255 ∧ 0 ≤ k ∧ k ≤ 255) (hn : bd.length ≤ 65535) (hs : lng f = false → bd.length ≤ 255) : encE (f, k, bd) = 0 := by
  unfold encE lsz
  rw [if_pos h]
  cases hl : lng f
  · have := hs hl; simp; omega
  · simp; omega
theorem encB_1 {f k : Int} {bd : List Int} (hl : lng f = false) (hn : bd.length ≤ 255) : encB (f, k, bd) = (([f, k] ++ [((bd.length : Int) % 256)]) ++ bd) := by
  unfold encB lsz
  rw [hl]
  simp [be]
theorem encB_2 {f k : Int} {bd : List Int} (hl : lng f = true) (hn : bd.length ≤ 65535) : encB (f, k, bd) = ((([f, k] ++ [((bd.length : Int) / 256)]) ++ [((bd.length : Int) % 256)]) ++ bd) := by
  unfold encB lsz
  rw [hl]
  simp [be]
  omega

theorem raw_keep {w w' : World} {g lo : Nat} {v : Value} {cs : Array Value} (h : Blk w g 32 cs) (hg : w.grownBy w' v.ownBlock) (hold : ∀ i, v.ownBlock = some i → lo ≤ i ∧ ∃ c, w.heap[i]? = some (.cells c 5 (0, 0))) : Blk w' g 32 cs :=
  h.grown hg (fun e => by
    obtain ⟨_, c, hc⟩ := hold g e.symm
    exact row_ne hc h (by decide) rfl)

set_option maxHeartbeats 8000000 in
theorem rjoin_is (w : World) (A : Option Addr) (n c : Nat) (rs : List Raw) (hr : RdR w w.heap.size A n rs) (hn : n ≤ 1000000) (hv : ∀ r ∈ rs, r.2.2.length ≤ 140737488355328)
    (hb : ∀ m, m ≤ rs.length → (∀ j (hj : j < rs.length), j < m → encE rs[j] = 0) → (joinB (rs.take m)).length ≤ 99900000) :
    Calls Tryd.prog 18 #[.slice A n c] w (Joined w rs) := by
  have HR := Lib.hid hr
  have hlen := hr.len
  have HV := Lib.hid hv
  have HBd := Lib.hid hb
  clear hr hv hb
  go_enter Tryd.func18, Tryd.ntmps18
  go_wp2
  go_loopw [4, 6, 7, 10] (fun v _ _ i wr => ∃ m : Nat, m ≤ n ∧ i = .int .i64 m ∧ JoinRel w rs v wr m) (fun _ _ _ i _ => n - (intOf i).toNat)
  case atStart => exact ⟨0, Nat.zero_le _, rfl, OwnB.nil_ _ _, Below.refl _ _, fun j hj h => by omega⟩
  case round =>
    obtain ⟨m, hm, rfl, hrel⟩ := hrel
    have HRel := Lib.hid hrel
    clear hrel
    by_cases hlt : m < n
    · have hml : m < rs.length := by omega
      obtain ⟨b, off, A1, n1, c1, rfl, hbl, x0, x1, x2, hr1⟩ := (HR.out.below HRel.out.bel).get hml
      have hn1 : n1 ≤ 140737488355328 := by rw [← hr1.len]; exact HV.out _ (List.getElem_mem hml)
      have HJt := Lib.hid (joinB_take rs m hml)
      have HBd1 := Lib.hid (HBd.out m (by omega) HRel.out.good)
      have HAt := Lib.hid (fun hx => joinE_at hml (fun j hj => HRel.out.good j (by omega) hj) hx)
      have HGood : Hid (encE rs[m] = 0 → ∀ j (hj : j < rs.length), j < m + 1 → encE rs[j] = 0) := Lib.hid fun h j hj hlt' => by
        by_cases e : j = m
        · subst e; exact h
        · exact HRel.out.good j hj (by omega)
      have hx : ∃ r, r = rs[m] := ⟨_, rfl⟩
      obtain ⟨r, hrr⟩ := hx
      rw [← hrr] at x0 x1 hr1 HJt HAt HGood
      clear hrr
      obtain ⟨f, k, bd⟩ := r
      simp only at x0 x1 hr1
      have hbd := hr1.len
      have hsz := HRel.out.bel.size
      have hal : Below wr.heap.size wr (wr.alloc (.cells #[.int .i64 f, .int .i64 k, .slice A1 n1 c1] 32)) := (Below.refl _ _).alloc (Nat.le_refl _) _
      have HBw := Lib.hid (HRel.out.bel.trans (hal.mono hsz))
      have HO := Lib.hid (HRel.out.own.below hal)
      have HN := Lib.hid (Blk.new wr 32 #[.int .i64 f, .int .i64 k, .slice A1 n1 c1])
      have HR1 := Lib.hid (hr1.below (hal.mono hsz))
      have HZ : Hid (wr.heap.size < (wr.alloc (.cells #[.int .i64 f, .int .i64 k, .slice A1 n1 c1] 32)).heap.size) := Lib.hid (by simp)
      clear hr1 hal HR
      by_cases h2 : f < 0 ∨ 255 < f ∨ k < 0 ∨ 255 < k
      · have he := encE_2 (bd := bd) h2
        have HJ := Lib.hid (HAt.out (by rw [he]; decide))
        rw [he] at HJ
        clear HAt HGood he
        have fin : Hid (∀ e, e = Ending.returned (.tuple #[.slice none 0 0, .int .i64 2]) → Joined w rs e (wr.alloc (.cells #[.int .i64 f, .int .i64 k, .slice A1 n1 c1] 32))) := Lib.hid fun e he => ⟨HBw.out, by rw [HJ.out]; exact he⟩
        by_cases f0 : f < 0
        · go_wp2_with (refine raw_fetch rfl _ rfl b (off + m * 3) f k A1 n1 c1 rfl x0 x1 x2 ?_)
          go_ret2
          exact fin.out _ rfl
        by_cases f1 : 255 < f
        · go_wp2_with (refine raw_fetch rfl _ rfl b (off + m * 3) f k A1 n1 c1 rfl x0 x1 x2 ?_)
          go_ret2
          exact fin.out _ rfl
        by_cases k0 : k < 0
        · go_wp2_with (refine raw_fetch rfl _ rfl b (off + m * 3) f k A1 n1 c1 rfl x0 x1 x2 ?_)
          go_ret2
          exact fin.out _ rfl
        have k1 : 255 < k := by omega
        go_wp2_with (refine raw_fetch rfl _ rfl b (off + m * 3) f k A1 n1 c1 rfl x0 x1 x2 ?_)
        go_ret2
        exact fin.out _ rfl
      · have f0 : ¬ f < 0 := by omega
        have f1 : ¬ 255 < f := by omega
        have k0 : ¬ k < 0 := by omega
        have k1 : ¬ 255 < k := by omega
        have hok : 0 ≤ f ∧ f ≤ 255 ∧ 0 ≤ k ∧ k ≤ 255 := by omega
        have HL : Hid (lng f = (bits .and .i64 f 16 != 0)) := Lib.hid rfl
        by_cases h5 : 65535 < n1 ∨ (255 < n1 ∧ lng f = false)
        · have he := encE_5 (bd := bd) hok (by rw [hbd]; exact h5)
          have HJ := Lib.hid (HAt.out (by rw [he]; decide))
          rw [he] at HJ
          clear HAt HGood he
          have fin : Hid (∀ e, e = Ending.returned (.tuple #[.slice none 0 0, .int .i64 5]) → Joined w rs e (wr.alloc (.cells #[.int .i64 f, .int .i64 k, .slice A1 n1 c1] 32))) := Lib.hid fun e he => ⟨HBw.out, by rw [HJ.out]; exact he⟩
          by_cases h6 : 65535 < n1
          · have h6' : (65535 : Int) < n1 := by omega
            clear h2 h5
            go_wp2_with (refine raw_fetch rfl _ rfl b (off + m * 3) f k A1 n1 c1 rfl x0 x1 x2 ?_)
            go_ret2
            exact fin.out _ rfl
          · have h6' : ¬ (65535 : Int) < n1 := by omega
            have h7 : (255 : Int) < n1 := by omega
            have hl : (bits .and .i64 f 16 == 0) = true := by
              have := (h5.resolve_left h6).2
              rw [HL.out] at this
              simpa using this
            clear h2 h5
            go_wp2_with (refine raw_fetch rfl _ rfl b (off + m * 3) f k A1 n1 c1 rfl x0 x1 x2 ?_)
            go_ret2
            exact fin.out _ rfl
        · have h6 : ¬ (65535 : Int) < n1 := by omega
          have hn65 : n1 ≤ 65535 := by omega
          have hwf : IntKind.u8.wrap f = f := by rw [wrap_u8_mod]; omega
          have hwk : IntKind.u8.wrap k = k := by rw [wrap_u8_mod]; omega
          cases hl : lng f with
          | false =>
            have hn255 : n1 ≤ 255 := by
              rcases Nat.lt_or_ge 255 n1 with h | h
              · exact absurd (.inr ⟨h, hl⟩) h5
              · exact h
            have hn255' : ¬ (255 : Int) < n1 := by omega
            have he := encE_0 (bd := bd) (k := k) hok (by omega) (fun hh => by omega)
            have HGo := Lib.hid (HGood.out he)
            have HB := Lib.hid (encB_1 (k := k) (bd := bd) hl (by omega))
            have hlq : (bits .and .i64 f 16 != 0) = false := by rw [← HL.out]; exact hl
            have hq1 : IntKind.u8.wrap ((n1 : Int) / 256) = (n1 : Int) / 256 := by rw [wrap_u8_mod]; omega
            have hq2 : IntKind.u8.wrap ((n1 : Int) % 256) = (n1 : Int) % 256 := by rw [wrap_u8_mod]; omega
            have hle0 := HBd1.out
            clear HAt HGood he h2 h5 HL hl
            generalize joinB (rs.take m) = jb at *
            have hof : Oct [f, k] := by intro x hx; simp at hx; omega
            generalize hg : wr.heap.size = g at *
            generalize hw1 : (wr.alloc (.cells #[.int .i64 f, .int .i64 k, .slice A1 n1 c1] 32)) = w1 at *
            have hal1 : Below w1.heap.size w1 (w1.alloc (.cells #[.int .u8 f, .int .u8 k] 5)) := (Below.refl _ _).alloc (Nat.le_refl _) _
            have HR2 : Hid (Rd (w1.alloc (.cells #[.int .u8 f, .int .u8 k] 5)) (w1.alloc (.cells #[.int .u8 f, .int .u8 k] 5)).heap.size (some ⟨g + 1, 0, none⟩) 2 [f, k]) := Lib.hid (by have h := (rd_made w1 [f, k] hof).more (show w1.heap.size + 1 ≤ (w1.alloc (.cells #[.int .u8 f, .int .u8 k] 5)).heap.size by simp); rwa [show w1.heap.size = g + 1 by rw [← hw1, ← hg]; simp] at h)
            have HO2 := Lib.hid (HO.out.below hal1)
            have HW2 := Lib.hid (HBw.out.trans (hal1.mono HBw.out.size))
            have HN2 := Lib.hid (HN.out.below hal1 HN.out.lt)
            have HV2 := Lib.hid (HR1.out.below (hal1.mono HBw.out.size))
            have c0 : w1.cell? ⟨g, 0, none⟩ = some (.int .i64 f) := HN.out.cell 0
            have c1' : w1.cell? ⟨g, 1, none⟩ = some (.int .i64 k) := HN.out.cell 1
            have c2 : w1.cell? ⟨g, 2, none⟩ = some (.slice A1 n1 c1) := HN.out.cell 2
            subst hg
            subst hw1
            clear hal1 HO HN HR1 HBw HZ
            have hle2 : jb.length + 2 ≤ 100000000 := by omega
            go_wp2_with (first
              | (refine raw_fetch rfl _ rfl b (off + m * 3) f k A1 n1 c1 rfl x0 x1 x2 ?_)
              | (at_builtin; refine app_bs rfl _ _ rfl HO2.out HW2.out.size HR2.out hle2 rfl rfl ?_))
            intro v3 w3 ho3 hb3 hg3 hold3
            have HO3 := Lib.hid ho3
            have HW3 := Lib.hid (HW2.out.trans hb3)
            have HN3 := Lib.hid (raw_keep HN2.out hg3 hold3)
            have HV3 := Lib.hid (HV2.out.below hb3)
            clear ho3 hb3 hg3 hold3 HO2 HW2 HR2 HN2 HV2 c0 c1' c2
            have c0 : w3.cell? ⟨wr.heap.size, 0, none⟩ = some (.int .i64 f) := HN3.out.cell 0
            have c2 : w3.cell? ⟨wr.heap.size, 2, none⟩ = some (.slice A1 n1 c1) := HN3.out.cell 2
            have hal3 : Below w3.heap.size w3 (w3.alloc (.cells #[.int .u8 ((n1 : Int) % 256)] 5)) := (Below.refl _ _).alloc (Nat.le_refl _) _
            have HRn3 : Hid (Rd (w3.alloc (.cells #[.int .u8 ((n1 : Int) % 256)] 5)) (w3.alloc (.cells #[.int .u8 ((n1 : Int) % 256)] 5)).heap.size (some ⟨w3.heap.size, 0, none⟩) 1 [(n1 : Int) % 256]) := Lib.hid ((rd_made w3 [(n1 : Int) % 256] (by intro x hx; simp at hx; omega)).more (by simp))
            have HOn3 := Lib.hid (HO3.out.below hal3)
            have HWn3 := Lib.hid (HW3.out.trans (hal3.mono HW3.out.size))
            have HNn3 := Lib.hid (HN3.out.below hal3 HN3.out.lt)
            have HVn3 := Lib.hid (HV3.out.below (hal3.mono HW3.out.size))
            have hle3 : (jb ++ [f, k]).length + 1 ≤ 100000000 := by simp; omega
            clear hal3 HO3 HN3 HV3 HW3
            go_wp2_with (at_builtin; refine app_bs rfl _ _ rfl HOn3.out HWn3.out.size HRn3.out hle3 rfl rfl ?_)
            intro v4 w4 ho hb hg hold
            have HO4 := Lib.hid ho
            have HW4 := Lib.hid (HWn3.out.trans hb)
            have HN4 := Lib.hid (raw_keep HNn3.out hg hold)
            have HV4 := Lib.hid (HVn3.out.below hb)
            clear ho hb hg hold HOn3 HWn3 HRn3 HNn3 HVn3 c0 c2
            have c2 : w4.cell? ⟨wr.heap.size, 2, none⟩ = some (.slice A1 n1 c1) := HN4.out.cell 2
            have HVz := Lib.hid (HV4.out.more HW4.out.size)
            have hlez : (jb ++ [f, k] ++ [(n1 : Int) % 256]).length + n1 ≤ 100000000 := by simp; omega
            go_wp2_with (at_builtin; refine app_bs rfl _ _ rfl HO4.out HW4.out.size HVz.out (by simp; omega) rfl rfl ?_)
            intro vz wz ho hb _ _
            have HOz := Lib.hid ho
            have HWz := Lib.hid (HW4.out.trans hb)
            clear ho hb HO4 HW4 HV4 HN4 HVz c2
            go_wp2
            refine ⟨⟨m + 1, by omega, by go_num, ?_, HWz.out, HGo.out⟩, by simp [intOf]; omega⟩
            have h := HOz.out
            rw [HJt.out, HB.out]
            simpa [hbd] using h
          | true =>
            have hlq0 : (bits .and .i64 f 16 == 0) = false := by
              have := HL.out
              rw [hl] at this
              simpa using this.symm
            have he := encE_0 (bd := bd) (k := k) hok (by omega) (fun hh => by rw [hl] at hh; cases hh)
            have HGo := Lib.hid (HGood.out he)
            have HB := Lib.hid (encB_2 (k := k) (bd := bd) hl (by omega))
            have hlq : (bits .and .i64 f 16 != 0) = true := by rw [← HL.out]; exact hl
            have hq1 : IntKind.u8.wrap ((n1 : Int) / 256) = (n1 : Int) / 256 := by rw [wrap_u8_mod]; omega
            have hq2 : IntKind.u8.wrap ((n1 : Int) % 256) = (n1 : Int) % 256 := by rw [wrap_u8_mod]; omega
            have hle0 := HBd1.out
            clear HAt HGood he h2 h5 HL hl
            have h255 : ((255 : Int) < n1) ∨ ¬ ((255 : Int) < n1) := Classical.em _
            rcases h255 with h255 | h255 <;>
            · generalize joinB (rs.take m) = jb at *
              have hof : Oct [f, k] := by intro x hx; simp at hx; omega
              generalize hg : wr.heap.size = g at *
              generalize hw1 : (wr.alloc (.cells #[.int .i64 f, .int .i64 k, .slice A1 n1 c1] 32)) = w1 at *
              have hal1 : Below w1.heap.size w1 (w1.alloc (.cells #[.int .u8 f, .int .u8 k] 5)) := (Below.refl _ _).alloc (Nat.le_refl _) _
              have HR2 : Hid (Rd (w1.alloc (.cells #[.int .u8 f, .int .u8 k] 5)) (w1.alloc (.cells #[.int .u8 f, .int .u8 k] 5)).heap.size (some ⟨g + 1, 0, none⟩) 2 [f, k]) := Lib.hid (by have h := (rd_made w1 [f, k] hof).more (show w1.heap.size + 1 ≤ (w1.alloc (.cells #[.int .u8 f, .int .u8 k] 5)).heap.size by simp); rwa [show w1.heap.size = g + 1 by rw [← hw1, ← hg]; simp] at h)
              have HO2 := Lib.hid (HO.out.below hal1)
              have HW2 := Lib.hid (HBw.out.trans (hal1.mono HBw.out.size))
              have HN2 := Lib.hid (HN.out.below hal1 HN.out.lt)
              have HV2 := Lib.hid (HR1.out.below (hal1.mono HBw.out.size))
              have c0 : w1.cell? ⟨g, 0, none⟩ = some (.int .i64 f) := HN.out.cell 0
              have c1' : w1.cell? ⟨g, 1, none⟩ = some (.int .i64 k) := HN.out.cell 1
              have c2 : w1.cell? ⟨g, 2, none⟩ = some (.slice A1 n1 c1) := HN.out.cell 2
              subst hg
              subst hw1
              clear hal1 HO HN HR1 HBw HZ
              have hle2 : jb.length + 2 ≤ 100000000 := by omega
              go_wp2_with (first
                | (refine raw_fetch rfl _ rfl b (off + m * 3) f k A1 n1 c1 rfl x0 x1 x2 ?_)
                | (at_builtin; refine app_bs rfl _ _ rfl HO2.out HW2.out.size HR2.out hle2 rfl rfl ?_))
              intro v3 w3 ho3 hb3 hg3 hold3
              have HO3 := Lib.hid ho3
              have HW3 := Lib.hid (HW2.out.trans hb3)
              have HN3 := Lib.hid (raw_keep HN2.out hg3 hold3)
              have HV3 := Lib.hid (HV2.out.below hb3)
              clear ho3 hb3 hg3 hold3 HO2 HW2 HR2 HN2 HV2 c0 c1' c2
              have c0 : w3.cell? ⟨wr.heap.size, 0, none⟩ = some (.int .i64 f) := HN3.out.cell 0
              have c2 : w3.cell? ⟨wr.heap.size, 2, none⟩ = some (.slice A1 n1 c1) := HN3.out.cell 2
              have hal3 : Below w3.heap.size w3 (w3.alloc (.cells #[.int .u8 ((n1 : Int) / 256)] 5)) := (Below.refl _ _).alloc (Nat.le_refl _) _
              have HRn3 : Hid (Rd (w3.alloc (.cells #[.int .u8 ((n1 : Int) / 256)] 5)) (w3.alloc (.cells #[.int .u8 ((n1 : Int) / 256)] 5)).heap.size (some ⟨w3.heap.size, 0, none⟩) 1 [(n1 : Int) / 256]) := Lib.hid ((rd_made w3 [(n1 : Int) / 256] (by intro x hx; simp at hx; omega)).more (by simp))
              have HOn3 := Lib.hid (HO3.out.below hal3)
              have HWn3 := Lib.hid (HW3.out.trans (hal3.mono HW3.out.size))
              have HNn3 := Lib.hid (HN3.out.below hal3 HN3.out.lt)
              have HVn3 := Lib.hid (HV3.out.below (hal3.mono HW3.out.size))
              have hle3 : (jb ++ [f, k]).length + 1 ≤ 100000000 := by simp; omega
              clear hal3 HO3 HN3 HV3 HW3
              go_wp2_with (at_builtin; refine app_bs rfl _ _ rfl HOn3.out HWn3.out.size HRn3.out hle3 rfl rfl ?_)
              intro v4 w4 ho hb hg hold
              have HO4 := Lib.hid ho
              have HW4 := Lib.hid (HWn3.out.trans hb)
              have HN4 := Lib.hid (raw_keep HNn3.out hg hold)
              have HV4 := Lib.hid (HVn3.out.below hb)
              clear ho hb hg hold HOn3 HWn3 HRn3 HNn3 HVn3 c0 c2
              have c0 : w4.cell? ⟨wr.heap.size, 0, none⟩ = some (.int .i64 f) := HN4.out.cell 0
              have c2 : w4.cell? ⟨wr.heap.size, 2, none⟩ = some (.slice A1 n1 c1) := HN4.out.cell 2
              have hal4 : Below w4.heap.size w4 (w4.alloc (.cells #[.int .u8 ((n1 : Int) % 256)] 5)) := (Below.refl _ _).alloc (Nat.le_refl _) _
              have HRn4 : Hid (Rd (w4.alloc (.cells #[.int .u8 ((n1 : Int) % 256)] 5)) (w4.alloc (.cells #[.int .u8 ((n1 : Int) % 256)] 5)).heap.size (some ⟨w4.heap.size, 0, none⟩) 1 [(n1 : Int) % 256]) := Lib.hid ((rd_made w4 [(n1 : Int) % 256] (by intro x hx; simp at hx; omega)).more (by simp))
              have HOn4 := Lib.hid (HO4.out.below hal4)
              have HWn4 := Lib.hid (HW4.out.trans (hal4.mono HW4.out.size))
              have HNn4 := Lib.hid (HN4.out.below hal4 HN4.out.lt)
              have HVn4 := Lib.hid (HV4.out.below (hal4.mono HW4.out.size))
              have hle4 : (jb ++ [f, k] ++ [(n1 : Int) / 256]).length + 1 ≤ 100000000 := by simp; omega
              clear hal4 HO4 HN4 HV4 HW4
              go_wp2_with (at_builtin; refine app_bs rfl _ _ rfl HOn4.out HWn4.out.size HRn4.out (by simp; omega) rfl rfl ?_)
              intro v5 w5 ho hb hg hold
              have HO5 := Lib.hid ho
              have HW5 := Lib.hid (HWn4.out.trans hb)
              have HN5 := Lib.hid (raw_keep HNn4.out hg hold)
              have HV5 := Lib.hid (HVn4.out.below hb)
              clear ho hb hg hold HOn4 HWn4 HRn4 HNn4 HVn4 c0 c2
              have c2 : w5.cell? ⟨wr.heap.size, 2, none⟩ = some (.slice A1 n1 c1) := HN5.out.cell 2
              have HVz := Lib.hid (HV5.out.more HW5.out.size)
              have hlez : (jb ++ [f, k] ++ [(n1 : Int) / 256] ++ [(n1 : Int) % 256]).length + n1 ≤ 100000000 := by simp; omega
              go_wp2_with (at_builtin; refine app_bs rfl _ _ rfl HO5.out HW5.out.size HVz.out (by simp; omega) rfl rfl ?_)
              intro vz wz ho hb _ _
              have HOz := Lib.hid ho
              have HWz := Lib.hid (HW5.out.trans hb)
              clear ho hb HO5 HW5 HV5 HN5 HVz c2
              go_wp2
              refine ⟨⟨m + 1, by omega, by go_num, ?_, HWz.out, HGo.out⟩, by simp [intOf]; omega⟩
              have h := HOz.out
              rw [HJt.out, HB.out]
              simpa [hbd] using h
    · obtain rfl : n = m := by omega
      have HJ := Lib.hid (joinE_no fun j hj => HRel.out.good j hj (by omega))
      have HO := Lib.hid HRel.out.own
      rw [List.take_of_length_le (by omega)] at HO
      go_wp2
      go_ret2
      exact ⟨HRel.out.bel, by rw [HJ.out, if_pos rfl]; exact ⟨_, rfl, HO.out⟩⟩
end Go.Proofs.YtiohgblinjignaaDoor
namespace Go.Proofs.YtiohgblinjignaaDoor
open Go.RowKit
set_option maxRecDepth 100000
set_option linter.unusedSimpArgs false
set_option linter.unusedVariables false

set_option maxHeartbeats 1000000 in
theorem spoil_at2 (w : World) (g n c : Nat) (h : U8At w g n) (hm : n ≤ 281474976710656) :
    Calls Tryd.prog 15 #[.slice (some ⟨g, 0, none⟩) n c] w fun e w' => e = .returned (.tuple #[]) ∧ w.grownBy w' (some g) ∧ ∀ m, U8At w g m → U8At w' g m := by
  have H := Lib.hid h
  clear h
  go_enter Tryd.func15, Tryd.ntmps15
  go_wp2
  go_loopw [2, 5] (fun _ i wr => ∃ k : Nat, k ≤ n ∧ i = .int .i64 k ∧ (w.grownBy wr (some g) ∧ ∀ m, U8At w g m → U8At wr g m)) (fun _ i _ => n - (intOf i).toNat)
  case atStart => exact ⟨0, Nat.zero_le _, rfl, only_refl w _, fun m h => h⟩
  case round =>
    obtain ⟨k, hk, rfl, hg⟩ := hrel
    have H2 := Lib.hid hg
    by_cases hlt : k < n
    · obtain ⟨⟨x, x0, x1, hc⟩, hf⟩ := hg.2 n H.out k hlt
      clear hg
      go_wp2
      exact ⟨⟨k + 1, by omega, by go_num, only_setCell H2.out.1 (.inl rfl) _, fun m h => (H2.out.2 m h).set_ k (xor_u8_bd _ _).1 (xor_u8_bd _ _).2⟩, by simp [intOf]; omega⟩
    · clear hg
      go_wp2
      go_end0
      exact ⟨rfl, H2.out⟩

theorem U8At.of_block {w w' : World} {g n : Nat} (h : U8At w g n) (hb : w'.heap[g]? = w.heap[g]?) : U8At w' g n := by
  intro i hi
  obtain ⟨⟨x, x0, x1, hc⟩, hf⟩ := h i hi
  exact ⟨⟨x, x0, x1, (World.cell?_of_block (a := ⟨g, i, none⟩) hb).trans hc⟩, by simp only [World.frozen?, hb] at hf ⊢; exact hf⟩
theorem U8At.lt {w : World} {g n : Nat} (h : U8At w g n) (hn : 0 < n) : g < w.heap.size := by
  obtain ⟨⟨x, _, _, hc⟩, _⟩ := h 0 hn
  exact World.block_lt_of_cell? w _ hc

/-- The values of attributes in new memory, each in a block beside the row's. -/
def Sp (lo : Nat) (w : World) (A : Option Addr) (N : Nat) : Prop :=
  0 < N → ∃ gx off, A = some ⟨gx, off, none⟩ ∧ gx < w.heap.size ∧ ∀ i, i < N → ∃ A1 n1 c1, w.cell? ⟨gx, off + i * 3 + 2, none⟩ = some (.slice A1 n1 c1) ∧ n1 ≤ 1048576 ∧ (n1 = 0 ∨ ∃ g, A1 = some ⟨g, 0, none⟩ ∧ lo ≤ g ∧ g ≠ gx ∧ U8At w g n1)
theorem Sp.below {lo : Nat} {w w' : World} {A : Option Addr} {N : Nat} (h : Sp lo w A N) (hb : Below w.heap.size w w') : Sp lo w' A N := fun hN => by
  obtain ⟨gx, off, e, hgl, hat⟩ := h hN
  refine ⟨gx, off, e, Nat.lt_of_lt_of_le hgl hb.size, fun i hi => ?_⟩
  obtain ⟨A1, n1, c1, h1, h2, h3⟩ := hat i hi
  refine ⟨A1, n1, c1, (hb.cell (p := ⟨gx, off + i * 3 + 2, none⟩) hgl).trans h1, h2, ?_⟩
  rcases Nat.eq_zero_or_pos n1 with h0 | h0
  · exact .inl h0
  · obtain ⟨g, k1, k2, k3, k4⟩ := h3.resolve_left (by omega)
    exact .inr ⟨g, k1, k2, k3, k4.of_block (hb.block g (k4.lt h0))⟩
theorem Sp.spoiled {lo : Nat} {w w' : World} {A : Option Addr} {N : Nat} {gx off g : Nat} (h : Sp lo w A N) (hA : A = some ⟨gx, off, none⟩) (hne : g ≠ gx) (hg : w.grownBy w' (some g)) (hu : ∀ m, U8At w g m → U8At w' g m) : Sp lo w' A N := fun hN => by
  obtain ⟨gx', off', e, hgl, hat⟩ := h hN
  rw [hA] at e
  injection e with e
  injection e with e1 e2
  subst e1 e2
  refine ⟨gx, off, hA, Nat.lt_of_lt_of_le hgl hg.size, fun i hi => ?_⟩
  obtain ⟨A1, n1, c1, h1, h2, h3⟩ := hat i hi
  refine ⟨A1, n1, c1, (World.cell?_of_block (a := ⟨gx, off + i * 3 + 2, none⟩) (hg.block gx hgl (fun e => by injection e with e; exact hne e.symm))).trans h1, h2, ?_⟩
  rcases Nat.eq_zero_or_pos n1 with h0 | h0
  · exact .inl h0
  · obtain ⟨g', k1, k2, k3, k4⟩ := h3.resolve_left (by omega)
    refine .inr ⟨g', k1, k2, k3, ?_⟩
    by_cases hgg : g' = g
    · subst hgg; exact hu _ k4
    · exact k4.of_block (hg.block g' (k4.lt h0) (fun e => by injection e with e; exact hgg e))
theorem Byt.u8at {w : World} {g n : Nat} {t : TypeId} {l : List Int} (h : Byt w g t l) (ho : Oct l) (hn : n ≤ l.length) : U8At w g n := fun i hi =>
  ⟨⟨_, (ho.getD i).1, (ho.getD i).2, h.cell (by omega)⟩, h.frozen i⟩
theorem OwnR.sp {lo : Nat} {w : World} {A : Option Addr} {N c : Nat} {rs : List Raw} (h : OwnR lo w (.slice A N c) rs) (hv : ∀ r ∈ rs, r.2.2.length ≤ 1048576) : N = rs.length ∧ Sp lo w A N := by
  obtain ⟨cs, h1, h2⟩ := h
  rcases h1.2 with ⟨e, hn⟩ | ⟨g, cap, cur, e, hb, hg, hnc, hcm, hcs, hx⟩
  · injection e with e1 e2 e3
    subst e1 e2 e3
    exact ⟨hn.symm, fun h => absurd h (by omega)⟩
  · injection e with e1 e2 e3
    subst e1 e2 e3
    refine ⟨rfl, fun hN => ⟨g, 0, rfl, (Array.getElem?_eq_some_iff.1 hg).1, fun i hi => ?_⟩⟩
    obtain ⟨k0, k1, A1, n1, c1, k2, ho, hl, hbd⟩ := h2.at_ i hi
    refine ⟨A1, n1, c1, ?_, ?_, ?_⟩
    · rw [Nat.zero_add]
      rw [← hx, List.getElem?_take] at k2
      split at k2
      · simp only [World.cell?, hg]
        rw [← Array.getElem?_toList]
        exact k2
      · cases k2
    · rw [← hl]; exact hv _ (List.getElem_mem hi)
    · rcases hbd with h0 | ⟨j, e', rfl, hlo, hby, he'⟩
      · exact .inl h0
      · exact .inr ⟨j, rfl, hlo, fun e => row_ne hby hg (by decide) e, hby.u8at (fun x hx => (List.mem_append.1 hx).elim (ho x) (he' x)) (by rw [List.length_append, hl]; omega)⟩

theorem one_val {r : List Int} {x : Raw} {k : Nat} (h : one r = some (x, k)) : x.2.2.length ≤ r.length := by
  unfold one at h
  split at h
  · split at h
    · injection h with h
      injection h with h1 h2
      rw [← h1]
      simp
      omega
    · cases h
  · cases h
theorem spl_val : ∀ (m : Nat) (r : List Int) (rs : List Raw), spl m r = some rs → ∀ x ∈ rs, x.2.2.length ≤ r.length
  | 0, r, rs, h, x, hx => by simp [spl] at h; subst h; cases hx
  | m + 1, r, rs, h, x, hx => by
    by_cases h0 : r = []
    · subst h0; rw [spl_nil] at h; injection h with h; subst h; cases hx
    · cases ho : one r with
      | none => rw [spl_none h0 ho] at h; cases h
      | some y =>
        obtain ⟨y, k⟩ := y
        rw [spl_some h0 ho] at h
        cases hs : spl m (r.drop k) with
        | none => rw [hs] at h; cases h
        | some q =>
          rw [hs] at h
          injection h with h
          subst h
          rcases List.mem_cons.1 hx with rfl | hx
          · exact one_val ho
          · have := spl_val m (r.drop k) q hs x hx
            rw [List.length_drop] at this
            omega
theorem spl_cnt : ∀ (m : Nat) (r : List Int) (rs : List Raw), spl m r = some rs → rs.length ≤ r.length
  | 0, r, rs, h => by simp [spl] at h; subst h; simp
  | m + 1, r, rs, h => by
    by_cases h0 : r = []
    · subst h0; rw [spl_nil] at h; injection h with h; subst h; simp
    · cases ho : one r with
      | none => rw [spl_none h0 ho] at h; cases h
      | some y =>
        obtain ⟨y, k⟩ := y
        have hk := one_pos ho
        rw [spl_some h0 ho] at h
        cases hs : spl m (r.drop k) with
        | none => rw [hs] at h; cases h
        | some q =>
          rw [hs] at h
          injection h with h
          subst h
          have := spl_cnt m (r.drop k) q hs
          rw [List.length_drop] at this
          simp
          omega
theorem joinB_le (rs : List Raw) : ∀ m, m ≤ rs.length → (∀ j (hj : j < rs.length), j < m → encE rs[j] = 0) → (joinB (rs.take m)).length ≤ 65539 * m
  | 0, _, _ => by simp [joinB]
  | m + 1, hm, h => by
    rw [joinB_take rs m (by omega), List.length_append]
    have h1 := joinB_le rs m (by omega) (fun j hj hlt => h j hj (by omega))
    have h2 := encB_len _ (h m (by omega) (by omega))
    omega
end Go.Proofs.YtiohgblinjignaaDoor
