/-
  Put together: AtG AtH.
-/
import Derived.Test.YtdgoeibfggjbmaaGreatDoorMT
namespace Go.Proofs.YtdgoeibfggjbmaaGreatDoor
open Go.RowKit
set_option maxRecDepth 100000
set_option linter.unusedSimpArgs false
set_option linter.unusedVariables false

structure OwnB (lo : Nat) (w : World) (v : Value) (l : List Int) : Prop where
  own : w.ownsRow lo 5 1 v l.length (u8s l)
  oct : Oct l
theorem OwnB.nil_ (lo : Nat) (w : World) : OwnB lo w (.slice none 0 0) [] := ⟨World.ownsRow_nil _ _ _ _, fun x h => by cases h⟩
theorem OwnB.keep {lo : Nat} {w w' : World} {v : Value} {l : List Int} (h : OwnB lo w v l) (hk : ∀ i c, w.heap[i]? = some (.cells c 5 (0, 0)) → lo ≤ i → v.ownBlock = some i → w'.heap[i]? = w.heap[i]?) : OwnB lo w' v l := ⟨own_keep h.own hk, h.oct⟩
theorem OwnB.below {lo : Nat} {w w' : World} {v : Value} {l : List Int} (h : OwnB lo w v l) (hb : Below w.heap.size w w') : OwnB lo w' v l :=
  h.keep fun i c hi _ _ => hb.block i (Array.getElem?_eq_some_iff.1 hi).1
theorem OwnB.low {lo lo' : Nat} {w : World} {v : Value} {l : List Int} (h : OwnB lo w v l) (hl : lo' ≤ lo) : OwnB lo' w v l := ⟨own_low h.own hl, h.oct⟩
theorem OwnB.at_ {lo : Nat} {w : World} {v : Value} {l : List Int} (h : OwnB lo w v l) :
    ∃ A c, v = .slice A l.length c ∧ l.length ≤ c ∧ Rd w w.heap.size A l.length l ∧ (0 < l.length → ∃ g, A = some ⟨g, 0, none⟩ ∧ lo ≤ g ∧ g < w.heap.size ∧ ∀ i, w.frozen? ⟨g, i, none⟩ = false) := by
  rcases h.own.2 with ⟨rfl, hn⟩ | ⟨g, cap, cur, rfl, hb, hg, hnc, hcm, hcs, hx⟩
  · exact ⟨none, 0, by rw [hn], by omega, ⟨rfl, h.oct, fun hp => by omega⟩, fun hp => by omega⟩
  · have hgl : g < w.heap.size := (Array.getElem?_eq_some_iff.1 hg).1
    refine ⟨_, cap, rfl, hnc, ⟨rfl, h.oct, fun _ => ⟨g, 0, rfl, hgl, fun i hi => ?_⟩⟩, fun _ => ⟨g, rfl, hb, hgl, fun i => by simp [World.frozen?, hg]⟩⟩
    rw [Nat.zero_add]
    have h1 : (u8s l)[i]? = some (.int .u8 (l.getD i 0)) := by simp [List.getD, hi]
    rw [← hx, List.getElem?_take, if_pos (by omega)] at h1
    simp only [World.cell?, hg]
    rw [← Array.getElem?_toList]
    exact h1

theorem app_bs {ops : Array Oper} {rest : List Oper} {o : Oper} {a : Act} {Q : Exit → Act → World → Prop} (hgd : o.guard = none) (s x : Operand)
    (ho : o.op = .call { callee := .builtin .append, args := #[s, x], argTypes := #[38, 38] }) {lo : Nat} {w : World} {v : Value} {P : List Int} (h : OwnB lo w v P) (hlo : lo ≤ w.heap.size)
    {A : Option Addr} {m c : Nat} {news : List Int} (hr : Rd w w.heap.size A m news) (hlen : P.length + m ≤ 100000000) (hs : a.eval s = v) (hx : a.eval x = .slice A m c)
    (hk : ∀ v' w', OwnB lo w' v' (P ++ news) → Below lo w w' → w.grownBy w' v.ownBlock → (∀ i, v.ownBlock = some i → lo ≤ i ∧ ∃ c, w.heap[i]? = some (.cells c 5 (0, 0))) → wpList Tryz.prog ops Q rest (a.put o.dst v') w') :
    wpList Tryz.prog ops Q (o :: rest) a w := by
  obtain ⟨i, hi, hz0, hz1, hz2⟩ := info_parts info_byte
  have hlm := hr.len
  have hold : ∀ i, v.ownBlock = some i → lo ≤ i ∧ ∃ c, w.heap[i]? = some (.cells c 5 (0, 0)) := fun i hi => ⟨(h.own.lt i hi).1, own_heap h.own hi⟩
  cases A with
  | none =>
    have hm0 : m = 0 := by
      rcases Nat.eq_zero_or_pos m with h0 | h0
      · exact h0
      · obtain ⟨_, _, e, _⟩ := hr.at_ h0
        cases e
    subst hm0
    have hn : news = [] := List.eq_nil_of_length_eq_zero hlm
    subst hn
    have hrun : (Builtin.append_ #[38, 38] o.type #[v, .slice none 0 c]).run Tryz.prog w = .ok v w := by
      rcases h.own.2 with ⟨rfl, hn⟩ | ⟨g, cap, cur, rfl, _, _, hnc, _⟩
      · simp [Builtin.append_, run_underlying Tryz.underlying38, sizeOf, typeInfo, hi, Builtin.lenOf, Builtin.firstCells]
      · simp [Builtin.append_, run_underlying Tryz.underlying38, sizeOf, typeInfo, hi, Builtin.lenOf, Builtin.firstCells, hnc, storeCells]
    refine wpList_plain hgd fun _ hK => ?_
    unfold Oper.wp execOp
    simp only [ho, resolve, invoke, builtin, Sem.run_bind, Sem.run_pure, Result.andThen_ok, List.map_toArray, List.map_cons, List.map_nil, hs, hx, hrun]
    exact hK _ _ (hk v w (by rw [List.append_nil]; exact h) (Below.refl _ _) (only_refl _ _) hold)
  | some ad =>
    have hsrc : ∀ j y, (u8s news)[j]? = some y → w.cell? (ad.add j) = some y := by
      rcases Nat.eq_zero_or_pos m with h0 | h0
      · intro j y hy
        have := (List.getElem?_eq_some_iff.1 hy).1
        simp at this
        omega
      · obtain ⟨b, off, e, _, hc⟩ := hr.at_ h0
        injection e with e
        subst e
        exact src_u8 hlm hc
    refine wpList_append_own_at _ hgd s x 38 ho lo 5 i _ 1 1 Tryz.underlying38 hi hz0 hz1 hz2 rfl (by decide) v P.length (u8s P) hs h.own ad m c (u8s news) hx (by simp [hlm]) hsrc (one_u8 news) (by unfold maxLen; omega) (by omega) hlo ?_
    intro v' w' hown hgr _ _
    refine hk v' w' ⟨?_, fun y hy => (List.mem_append.1 hy).elim (h.oct y) (hr.oct y)⟩ ((Below.refl lo w).grown hgr hlo (fun i e => (h.own.lt i e).1)) hgr hold
    rw [List.length_append, hlm, show u8s (P ++ news) = u8s P ++ u8s news from List.map_append]
    exact hown

structure RdL (w : World) (B : Nat) (A : Option Addr) (n : Nat) (ls : List (List Int)) : Prop where
  len : ls.length = n
  at_ : 0 < n → ∃ b off, A = some ⟨b, off, none⟩ ∧ b < B ∧ ∀ i (h : i < ls.length), ∃ A1 n1 c1, w.cell? ⟨b, off + i, none⟩ = some (.slice A1 n1 c1) ∧ Rd w B A1 n1 ls[i]
theorem RdL.below {w w' : World} {B n : Nat} {A : Option Addr} {ls : List (List Int)} (h : RdL w B A n ls) (hb : Below B w w') : RdL w' B A n ls :=
  ⟨h.len, fun hn => by
    obtain ⟨b, off, e, hlt, hc⟩ := h.at_ hn
    refine ⟨b, off, e, hlt, fun i hi => ?_⟩
    obtain ⟨A1, n1, c1, h1, h2⟩ := hc i hi
    exact ⟨A1, n1, c1, (hb.cell (p := ⟨b, off + i, none⟩) hlt).trans h1, h2.below hb⟩⟩
theorem RdL.more {w : World} {B B' n : Nat} {A : Option Addr} {ls : List (List Int)} (h : RdL w B A n ls) (hb : B ≤ B') : RdL w B' A n ls :=
  ⟨h.len, fun hn => by
    obtain ⟨b, off, e, hlt, hc⟩ := h.at_ hn
    refine ⟨b, off, e, by omega, fun i hi => ?_⟩
    obtain ⟨A1, n1, c1, h1, h2⟩ := hc i hi
    exact ⟨A1, n1, c1, h1, h2.more hb⟩⟩
theorem RdL.get {w : World} {B : Nat} {A : Option Addr} {n : Nat} {ls : List (List Int)} (h : RdL w B A n ls) {m : Nat} (hm : m < ls.length) : ∃ b off A1 n1 c1, A = some ⟨b, off, none⟩ ∧ w.cell? ⟨b, off + m, none⟩ = some (.slice A1 n1 c1) ∧ Rd w B A1 n1 ls[m] := by
  obtain ⟨b, off, rfl, _, hc⟩ := h.at_ (by have := h.len; omega)
  obtain ⟨A1, n1, c1, h1, h2⟩ := hc m hm
  exact ⟨b, off, A1, n1, c1, rfl, h1, h2⟩
theorem flat_take (ls : List (List Int)) (m : Nat) (hm : m < ls.length) : (ls.take (m + 1)).flatten = (ls.take m).flatten ++ ls[m] := by
  rw [List.take_succ_eq_append_getElem hm, List.flatten_append]
  simp
theorem flat_take_le (ls : List (List Int)) (m : Nat) : (ls.take m).flatten.length ≤ ls.flatten.length := by
  have : ls.flatten = (ls.take m).flatten ++ (ls.drop m).flatten := by rw [← List.flatten_append, List.take_append_drop]
  rw [this, List.length_append]
  omega

set_option maxHeartbeats 2000000 in
theorem chain_is (w : World) (A : Option Addr) (n c : Nat) (ls : List (List Int)) (hr : RdL w w.heap.size A n ls) (hn : n ≤ 1000000) (hb : ls.flatten.length ≤ 100000000) :
    Calls Tryz.prog 157 #[.slice A n c] w fun e w' => ∃ v, e = .returned v ∧ OwnB w.heap.size w' v ls.flatten ∧ Below w.heap.size w w' := by
  have HR := Lib.hid hr
  have hlen := hr.len
  clear hr
  go_enter Tryz.func157, Tryz.ntmps157
  go_wp2
  go_loop [3, 5, 11] (fun s _ i => ∃ m : Nat, m ≤ n ∧ i = .int .i64 m ∧ s = .int .i64 ((ls.take m).flatten.length : Nat)) (fun _ _ i => n - (intOf i).toNat)
  case atStart => exact ⟨0, Nat.zero_le _, rfl, rfl⟩
  case round =>
    obtain ⟨m, hm, rfl, rfl⟩ := hrel
    by_cases hlt : m < n
    · have hml : m < ls.length := by omega
      obtain ⟨b, off, A1, n1, c1, rfl, x0, hr1⟩ := HR.out.get hml
      have HT := Lib.hid (flat_take ls m hml)
      have h1 := flat_take_le ls (m + 1)
      rw [flat_take ls m hml, List.length_append, hr1.len] at h1
      have HL := Lib.hid hr1.len
      generalize ls[m] = y at *
      generalize (ls.take m).flatten = z at *
      clear hr1
      go_wp2
      refine ⟨⟨m + 1, by omega, by go_num, ?_⟩, by simp [intOf]; omega⟩
      rw [HT.out, List.length_append, HL.out]
      go_num
    · obtain rfl : n = m := by omega
      rw [List.take_of_length_le (by omega)]
      by_cases h0 : ls.flatten.length = 0
      · have hz : ls.flatten = [] := List.eq_nil_of_length_eq_zero h0
        have HZ := Lib.hid hz
        rw [h0]
        clear h0 hz
        go_wp2
        go_ret
        exact ⟨_, rfl, by rw [HZ.out]; exact OwnB.nil_ _ _, Below.refl _ _⟩
      · have e0 : ((ls.flatten.length : Int) == 0) = false := by rw [beq_eq_false_iff_ne]; omega
        obtain ⟨i, hi, hz0, hz1, hz2⟩ := info_parts info_byte
        obtain ⟨w1, hmk, hown, hgr⟩ := run_make_own (P := Tryz.prog) w w.heap.size 38 5 i _ 1 Tryz.underlying38 hi hz0 hz1 .i64 .i64 ls.flatten.length (by rw [hz2]; omega) (by unfold maxLen; omega) (Nat.le_refl _)
        have hB1 : Below w.heap.size w w1 := (Below.refl _ _).grown hgr (Nat.le_refl _) (fun g e => by cases e)
        have HO1 : Hid (OwnB w.heap.size w1 (.slice (some ⟨w.heap.size, 0, none⟩) 0 ls.flatten.length) []) := Lib.hid ⟨hown, fun x h => by cases h⟩
        have HB1 := Lib.hid hB1
        have HR1 := Lib.hid (HR.out.below hB1)
        have HFl := Lib.hid (flat_take_le ls)
        have HFt := Lib.hid (flat_take ls)
        have hsz1 := hB1.size
        generalize hT : ls.flatten.length = T at *
        have HTT := Lib.hid hT
        clear hown hgr hB1 hi hz0 hz1 hz2 h0 hT
        go_wp2
        go_loopw [6, 8, 26] (fun v _ i wr => ∃ m : Nat, m ≤ n ∧ i = .int .i64 m ∧ OwnB w.heap.size wr v (ls.take m).flatten ∧ Below w.heap.size w wr) (fun _ _ i _ => n - (intOf i).toNat)
        case atStart => exact ⟨0, Nat.zero_le _, rfl, HO1.out, HB1.out⟩
        case round =>
          obtain ⟨m, hm, rfl, ho, hw⟩ := hrel
          by_cases hlt : m < n
          · have hml : m < ls.length := by omega
            obtain ⟨b, off, A1, n1, c1, rfl, x0, hr1⟩ := (HR.out.below hw).get hml
            have HT := Lib.hid (HFt.out m hml)
            have hle : (ls.take m).flatten.length + n1 ≤ 100000000 := by
              have h1 := HFl.out (m + 1)
              rw [HFt.out m hml, List.length_append, hr1.len] at h1
              omega
            have HO := Lib.hid ho
            have HW := Lib.hid hw
            have hsz := hw.size
            have HR2 := Lib.hid (hr1.more hw.size)
            generalize ls[m] = y at *
            generalize (ls.take m).flatten = z at *
            clear hr1 ho hw hmk
            go_wp2_with (at_builtin; refine app_bs rfl _ _ rfl HO.out hsz HR2.out hle rfl rfl ?_)
            intro v' w2 ho2 hb2 _ _
            have HO2 := Lib.hid ho2
            have HB2 := Lib.hid (HW.out.trans hb2)
            clear ho2 hb2
            go_wp2
            exact ⟨⟨m + 1, by omega, by go_num, by rw [HT.out]; exact HO2.out, HB2.out⟩, by simp [intOf]; omega⟩
          · obtain rfl : n = m := by omega
            rw [List.take_of_length_le (by omega)] at ho
            have HO := Lib.hid ho
            have HW := Lib.hid hw
            clear ho hw
            go_wp2
            go_ret
            exact ⟨_, rfl, HO.out, HW.out⟩

def U8At (w : World) (g n : Nat) : Prop := ∀ i, i < n → (∃ x : Int, 0 ≤ x ∧ x < 256 ∧ w.cell? ⟨g, i, none⟩ = some (.int .u8 x)) ∧ w.frozen? ⟨g, i, none⟩ = false
theorem U8At.set_ {w : World} {g n : Nat} (h : U8At w g n) (k : Nat) {x : Int} (h0 : 0 ≤ x) (h1 : x < 256) : U8At (w.setCell ⟨g, k, none⟩ (.int .u8 x)) g n := by
  intro i hi
  obtain ⟨⟨y, y0, y1, hy⟩, hf⟩ := h i hi
  refine ⟨?_, by simpa using hf⟩
  by_cases hk : i = k
  · subst hk
    exact ⟨x, h0, h1, World.cell?_setCell_same _ _ _ hy⟩
  · exact ⟨y, y0, y1, by rw [World.cell?_setCell_other _ _ _ _ (fun e => hk (by injection e with _ e2; exact e2.symm))]; exact hy⟩
end Go.Proofs.YtdgoeibfggjbmaaGreatDoor
namespace Go.Proofs.YtdgoeibfggjbmaaGreatDoor
open Go.RowKit
set_option maxRecDepth 100000
set_option linter.unusedSimpArgs false
set_option linter.unusedVariables false

def encE (r : Raw) : Int := if 0 ≤ r.1 ∧ r.1 ≤ 255 ∧ 0 ≤ r.2.1 ∧ r.2.1 ≤ 255 then (if r.2.2.length < 256 ^ lsz r.1 then 0 else 5) else 2
def encB (r : Raw) : List Int := [r.1, r.2.1] ++ (be (lsz r.1) r.2.2.length ++ r.2.2)
def BytesOf (w : World) (r : Raw) (e : Ending) (w' : World) : Prop :=
  Below w.heap.size w w' ∧ if encE r = 0 then ∃ v, e = .returned (.tuple #[v, .int .i64 0]) ∧ OwnB w.heap.size w' v (encB r) else e = .returned (.tuple #[.slice none 0 0, .int .i64 (encE r)])
theorem lsz_pow (f : Int) : (256 : Nat) ^ lsz f = 256 ∨ (256 : Nat) ^ lsz f = 65536 := by
  rcases lsz_12 f with h | h <;> rw [h] <;> simp

set_option maxHeartbeats 2000000 in
theorem bytesOf_bad (w : World) (f k : Int) (A : Option Addr) (n c : Nat) (v : List Int) (h : ¬ (0 ≤ f ∧ f ≤ 255 ∧ 0 ≤ k ∧ k ≤ 255)) :
    Calls Tryz.prog 98 #[.agg #[.int .i64 f, .int .i64 k, .slice A n c]] w (BytesOf w (f, k, v)) := by
  have HE : Hid (encE (f, k, v) = 2) := Lib.hid (by unfold encE; rw [if_neg h])
  have HB : Hid (Below w.heap.size w (w.alloc (.cells #[.int .i64 f, .int .i64 k, .slice A n c] 67))) := Lib.hid ((Below.refl _ _).alloc (Nat.le_refl _) _)
  by_cases hf : 0 ≤ f ∧ f ≤ 255
  · have hk : decide (0 ≤ k ∧ k ≤ 255) = false := by simp; omega
    have hf' : decide (0 ≤ f ∧ f ≤ 255) = true := by simpa using hf
    have H1 := Lib.hid (fun w => isByte_is w f)
    have H2 := Lib.hid (fun w => isByte_is w k)
    rw [hf'] at H1
    rw [hk] at H2
    clear hf hk hf' h
    go_enter Tryz.func98, Tryz.ntmps98
    go_wp2_with fail
    refine (H1.out _).mono ?_
    rintro e w' ⟨rfl, rfl⟩
    go_wp2_with fail
    refine (H2.out _).mono ?_
    rintro e w' ⟨rfl, rfl⟩
    go_wp2
    go_ret2
    exact ⟨HB.out, by rw [HE.out]; rfl⟩
  · have hf' : decide (0 ≤ f ∧ f ≤ 255) = false := by simp; omega
    have H1 := Lib.hid (fun w => isByte_is w f)
    rw [hf'] at H1
    clear hf hf' h
    go_enter Tryz.func98, Tryz.ntmps98
    go_wp2_with fail
    refine (H1.out _).mono ?_
    rintro e w' ⟨rfl, rfl⟩
    go_wp2
    go_ret2
    exact ⟨HB.out, by rw [HE.out]; rfl⟩

theorem u64_small {n : Nat} (h : n ≤ 140737488355328) : IntKind.u64.wrap (n : Int) = n := by rw [IntKind.wrap_u64]; omega
set_option maxHeartbeats 4000000 in
theorem bytesOf_ok (w : World) (f k : Int) (A : Option Addr) (n c : Nat) (v : List Int) (hr : Rd w w.heap.size A n v) (hm : n ≤ 140737488355328) (h : 0 ≤ f ∧ f ≤ 255 ∧ 0 ≤ k ∧ k ≤ 255) :
    Calls Tryz.prog 98 #[.agg #[.int .i64 f, .int .i64 k, .slice A n c]] w (BytesOf w (f, k, v)) := by
  have hln := hr.len
  have HE : Hid (encE (f, k, v) = if n < 256 ^ lsz f then 0 else 5) := Lib.hid (by unfold encE; rw [if_pos h, ← hln])
  have HEB : Hid (encB (f, k, v) = [f, k] ++ (be (lsz f) n ++ v)) := Lib.hid (by unfold encB; rw [← hln])
  have hB0 : Below w.heap.size w (w.alloc (.cells #[.int .i64 f, .int .i64 k, .slice A n c] 67)) := (Below.refl _ _).alloc (Nat.le_refl _) _
  have HB0 := Lib.hid hB0
  have HN0 := Lib.hid (Blk.new w 67 #[.int .i64 f, .int .i64 k, .slice A n c])
  have HR0 := Lib.hid (hr.below hB0)
  have hz0 : w.heap.size < (w.alloc (.cells #[.int .i64 f, .int .i64 k, .slice A n c] 67)).heap.size := by simp
  have HZ0 := Lib.hid hz0
  have H1 := Lib.hid (fun w => isByte_is w f)
  have H2 := Lib.hid (fun w => isByte_is w k)
  rw [show decide (0 ≤ f ∧ f ≤ 255) = true by simp; omega] at H1
  rw [show decide (0 ≤ k ∧ k ≤ 255) = true by simp; omega] at H2
  have hls := lsz_12 f
  have hu := u64_small hm
  have HF := Lib.hid h
  clear hr hB0 h hz0
  go_enter Tryz.func98, Tryz.ntmps98
  go_wp2_with fail
  refine (H1.out _).mono ?_
  rintro e w' ⟨rfl, rfl⟩
  go_wp2_with fail
  refine (H2.out _).mono ?_
  rintro e w' ⟨rfl, rfl⟩
  generalize hw0 : (w.alloc (.cells #[.int .i64 f, .int .i64 k, .slice A n c] 67)) = w0 at *
  clear hw0 H1 H2
  go_wp2
  refine wp_region_held_drew (S := fun W => Below w.heap.size w W ∧ Blk W w.heap.size 67 #[.int .i64 f, .int .i64 k, .slice A n c]) (by kernel_rfl) (⟨below_drewN HB0.out 1, HN0.out⟩) (fun hS => ?_)
  refine wpAnyH_take (i := 0) (oi := ⟨some 17, _, _, _, _, _⟩) (v := ?_) rfl (by kernel_rfl) (by kernel_rfl) (by kernel_rfl) (fun _ _ _ h => h) (Or.inl ⟨by rfl, ?_⟩) hS ?_
  rotate_left
  · intro wq hq
    first | (go_simp; done) | (go_simp; rfl)
  try simp only [Act.put, zP, zQ, zR]
  refine wpAnyH_take (i := 1) (oi := ⟨some 18, _, _, _, _, _⟩) (v := ?_) rfl (by kernel_rfl) (by kernel_rfl) (by kernel_rfl) (fun _ _ _ h => h) (Or.inl ⟨by rfl, ?_⟩) hS ?_
  rotate_left
  · intro wq hq
    have d2 : wq.cell? ⟨w.heap.size, 2, none⟩ = some (.slice A n c) := hq.2.cell 2
    first | (go_simp; done) | (go_simp; rfl)
  try simp only [Act.put, zP, zQ, zR]
  refine wpAnyH_take (i := 2) (oi := ⟨some 19, _, _, _, _, _⟩) (v := ?_) rfl (by kernel_rfl) (by kernel_rfl) (by kernel_rfl) (fun _ _ _ h => h) (Or.inl ⟨by rfl, ?_⟩) hS ?_
  rotate_left
  · intro wq hq
    first | (go_simp; done) | (go_simp; rfl)
  try simp only [Act.put, zP, zQ, zR]
  refine wpAnyH_take (i := 3) (oi := ⟨some 20, _, _, _, _, _⟩) (v := ?_) rfl (by kernel_rfl) (by kernel_rfl) (by kernel_rfl) (fun _ _ _ h => h) (Or.inl ⟨by rfl, ?_⟩) hS ?_
  rotate_left
  · intro wq hq
    first | (go_simp; done) | (go_simp; rfl)
  try simp only [Act.put, zP, zQ, zR]
  refine wpAnyH_take (i := 4) (oi := ⟨some 21, _, _, _, _, _⟩) (v := ?_) rfl (by kernel_rfl) (by kernel_rfl) (by kernel_rfl) (fun _ _ _ h => h) (Or.inl ⟨by rfl, ?_⟩) hS ?_
  rotate_left
  · intro wq hq
    first | (go_simp; done) | (go_simp; rfl)
  try simp only [Act.put, zP, zQ, zR]
  refine wpAnyH_take (i := 5) (oi := ⟨some 22, _, _, _, _, _⟩) (v := ?_) rfl (by kernel_rfl) (by kernel_rfl) (by kernel_rfl) (fun _ _ _ h => h) (Or.inl ⟨by rfl, ?_⟩) hS ?_
  rotate_left
  · intro wq hq
    have d0 : wq.cell? ⟨w.heap.size, 0, none⟩ = some (.int .i64 f) := hq.2.cell 0
    first | (go_simp; done) | (go_simp; rfl)
  try simp only [Act.put, zP, zQ, zR]
  refine wpAnyH_ready (rs := [6]) (by kernel_rfl) (by simp) ?_
  refine AllReadyH.cons (o := ⟨some 23, _, _, _, _, _⟩) rfl (fun K hK => ?_) AllReadyH.nil
  rw [if_pos (by rfl)]
  go_wp2_with fail
  refine (lengthSize_is _ f).mono ?_
  rintro e w' ⟨rfl, rfl⟩
  have hS1 := hS
  refine hK.out _ _ (hS1) (fun hS => ?_)
  clear hK K
  try simp only [Act.put, zP, zQ, zR]
  clear hS1
  have hfit : ∀ s : Nat, (n : Int) < 256 ^ s ↔ n < 256 ^ s := fun s => by
    have h : ((256 ^ s : Nat) : Int) = (256 : Int) ^ s := by simp
    omega
  have HFit := Lib.hid (hfit (lsz f))
  clear hfit
  generalize lsz f = s at *
  refine wpAnyH_ready (rs := [7]) (by kernel_rfl) (by simp) ?_
  refine AllReadyH.cons (o := ⟨some 24, _, _, _, _, _⟩) rfl (fun K hK => ?_) AllReadyH.nil
  rw [if_pos (by rfl)]
  go_wp2_with fail
  refine (put_is _ none 0 0 [] n s (Rd.nil_ _) (by omega) (by omega) (by omega)).mono ?_
  rintro e w1 ⟨hB, he⟩
  have hS1 := hS
  by_cases hn : n < 256 ^ s
  · rw [if_pos ⟨by omega, by omega, by rw [Int.toNat_natCast]; exact HFit.out.2 hn⟩] at he
    simp only [List.length_nil, Nat.zero_add, Int.toNat_natCast, List.nil_append] at he
    obtain ⟨rfl, hby⟩ := he
    rw [if_pos hn] at HE
    refine hK.out _ _ (⟨hS1.1.trans (hB.mono hS1.1.size), hS1.2.below hB hS1.2.lt⟩) (fun hS => ?_)
    clear hK K
    try simp only [Act.put, zP, zQ, zR]
    refine wpAnyH_take (i := 8) (oi := ⟨some 16, _, _, _, _, _⟩) (v := ?_) rfl (by kernel_rfl) (by kernel_rfl) (by kernel_rfl) (fun _ _ _ h => h) (Or.inl ⟨by rfl, ?_⟩) hS ?_
    rotate_left
    · intro wq hq
      first | (go_simp; done) | (go_simp; rfl)
    try simp only [Act.put, zP, zQ, zR]
    refine wpAnyH_take (i := 9) (oi := ⟨some 25, _, _, _, _, _⟩) (v := ?_) rfl (by kernel_rfl) (by kernel_rfl) (by kernel_rfl) (fun _ _ _ h => h) (Or.inl ⟨by rfl, ?_⟩) hS ?_
    rotate_left
    · intro wq hq
      first | (go_simp; done) | (go_simp; rfl)
    try simp only [Act.put, zP, zQ, zR]
    refine wpAnyH_take (i := 10) (oi := ⟨some 26, _, _, _, _, _⟩) (v := ?_) rfl (by kernel_rfl) (by kernel_rfl) (by kernel_rfl) (fun _ _ _ h => h) (Or.inl ⟨by rfl, ?_⟩) hS ?_
    rotate_left
    · intro wq hq
      first | (go_simp; done) | (go_simp; rfl)
    try simp only [Act.put, zP, zQ, zR]
    refine wpAnyH_take (i := 11) (oi := ⟨some 4, _, _, _, _, _⟩) (v := ?_) rfl (by kernel_rfl) (by kernel_rfl) (by kernel_rfl) (fun _ _ _ h => h) (Or.inl ⟨by rfl, ?_⟩) hS ?_
    rotate_left
    · intro wq hq
      first | (go_simp; done) | (go_simp; rfl)
    try simp only [Act.put, zP, zQ, zR]
    refine wpAnyH_take (i := 12) (oi := ⟨some 5, _, _, _, _, _⟩) (v := ?_) rfl (by kernel_rfl) (by kernel_rfl) (by kernel_rfl) (fun _ _ _ h => h) (Or.inl ⟨by rfl, ?_⟩) hS ?_
    rotate_left
    · intro wq hq
      first | (go_simp; done) | (go_simp; rfl)
    try simp only [Act.put, zP, zQ, zR]
    refine wpAnyH_done (by kernel_rfl) ?_ _
    have hB1 := hS.1
    have hN1 := hS.2
    have hby1 : Byt w1 w0.heap.size 5 (be s n) := hby
    have c0 : w1.cell? ⟨w.heap.size, 0, none⟩ = some (.int .i64 f) := hN1.cell 0
    have c1 : w1.cell? ⟨w.heap.size, 1, none⟩ = some (.int .i64 k) := hN1.cell 1
    have c2 : w1.cell? ⟨w.heap.size, 2, none⟩ = some (.slice A n c) := hN1.cell 2
    have d2 : (w1.alloc (.cells #[.int .u8 f, .int .u8 k] 5)).cell? ⟨w.heap.size, 2, none⟩ = some (.slice A n c) := (hN1.alloc _).cell 2
    have hwf : IntKind.u8.wrap f = f := by have := HF.out; rw [wrap_u8_mod]; omega
    have hwk : IntKind.u8.wrap k = k := by have := HF.out; rw [wrap_u8_mod]; omega
    have hr1 : Rd w1 w.heap.size A n v := (HR0.out.below (w' := w1) ((below_drewN (Below.refl _ _) 1).trans (hB.mono (by have := HB0.out.size; exact this))))
    have hRd : Rd w1 w1.heap.size (some ⟨w0.heap.size, 0, none⟩) s (be s n) := by
      have := hby1.rd_all (be_oct s n) hby1.lt
      rwa [be_len] at this
    have hal1 : Below w1.heap.size w1 (w1.alloc (.cells #[.int .u8 f, .int .u8 k] 5)) := (Below.refl _ _).alloc (Nat.le_refl _) _
    have hof : Oct [f, k] := by have := HF.out; intro x hx; simp at hx; omega
    have h2 := rd_made w1 [f, k] hof
    have hal2 : Below (w1.heap.size + 1) (w1.alloc (.cells #[.int .u8 f, .int .u8 k] 5)) ((w1.alloc (.cells #[.int .u8 f, .int .u8 k] 5)).alloc (.cells #[.slice (some ⟨w1.heap.size, 0, none⟩) 2 2, .slice (some ⟨w0.heap.size, 0, none⟩) s s, .slice A n c] 38)) := (Below.refl _ _).alloc (by simp) _
    have hB3 : Below w.heap.size w ((w1.alloc (.cells #[.int .u8 f, .int .u8 k] 5)).alloc (.cells #[.slice (some ⟨w1.heap.size, 0, none⟩) 2 2, .slice (some ⟨w0.heap.size, 0, none⟩) s s, .slice A n c] 38)) := hB1.trans ((hal1.mono hB1.size).trans (hal2.mono (by have := hB1.size; omega)))
    have hbl := Blk.new (w1.alloc (.cells #[.int .u8 f, .int .u8 k] 5)) 38 #[.slice (some ⟨w1.heap.size, 0, none⟩) 2 2, .slice (some ⟨w0.heap.size, 0, none⟩) s s, .slice A n c]
    have hRB : RdL ((w1.alloc (.cells #[.int .u8 f, .int .u8 k] 5)).alloc (.cells #[.slice (some ⟨w1.heap.size, 0, none⟩) 2 2, .slice (some ⟨w0.heap.size, 0, none⟩) s s, .slice A n c] 38)) ((w1.alloc (.cells #[.int .u8 f, .int .u8 k] 5)).alloc (.cells #[.slice (some ⟨w1.heap.size, 0, none⟩) 2 2, .slice (some ⟨w0.heap.size, 0, none⟩) s s, .slice A n c] 38)).heap.size (some ⟨w1.heap.size + 1, 0, none⟩) 3 [[f, k], be s n, v] := by
      have hz : ((w1.alloc (.cells #[.int .u8 f, .int .u8 k] 5)).alloc (.cells #[.slice (some ⟨w1.heap.size, 0, none⟩) 2 2, .slice (some ⟨w0.heap.size, 0, none⟩) s s, .slice A n c] 38)).heap.size = w1.heap.size + 2 := by simp
      have hz1 : (w1.alloc (.cells #[.int .u8 f, .int .u8 k] 5)).heap.size = w1.heap.size + 1 := by simp
      rw [hz1] at hbl
      rw [hz]
      refine ⟨rfl, fun _ => ⟨w1.heap.size + 1, 0, rfl, by omega, fun i hi => ?_⟩⟩
      match i, hi with
      | 0, _ => exact ⟨_, 2, 2, hbl.cell 0, (h2.below hal2).more (by omega)⟩
      | 1, _ => exact ⟨_, s, s, hbl.cell 1, ((hRd.below hal1).below (hal2.mono (by omega))).more (by omega)⟩
      | 2, _ => exact ⟨A, n, c, hbl.cell 2, ((hr1.below (hal1.mono hB1.size)).below (hal2.mono (by have := hB1.size; omega))).more (by have := hB1.size; omega)⟩
    have HRB := Lib.hid hRB
    have HB3 := Lib.hid hB3
    have hbel := be_len s n
    have HFl : Hid (([[f, k], be s n, v] : List (List Int)).flatten = [f, k] ++ (be s n ++ v)) := Lib.hid (by simp)
    have hfl : ([[f, k], be s n, v] : List (List Int)).flatten.length ≤ 100000000 := by
      rw [HFl.out, List.length_append, List.length_append, hbel, hln]
      rcases hls with rfl | rfl
      · simp at hn; simp; omega
      · simp at hn; simp; omega
    clear hB hB1 hN1 hby hby1 hr1 hRd hal1 hof h2 hal2 hB3 hbl hRB hbel hS hS1 HR0 HN0 HB0
    go_wp2_with fail
    refine (chain_is _ _ 3 3 _ HRB.out (by decide) hfl).mono ?_
    rintro e w4 ⟨v', rfl, ho, hb⟩
    have HO := Lib.hid ho
    have HB4 := Lib.hid (HB3.out.trans (hb.mono HB3.out.size))
    have HLo := Lib.hid HB3.out.size
    clear ho hb HB3 HRB
    go_wp2
    go_ret2
    refine ⟨HB4.out, ?_⟩
    rw [HE.out, if_pos rfl, HEB.out, ← HFl.out]
    exact ⟨_, rfl, HO.out.low HLo.out⟩
  · rw [if_neg (fun h => hn (HFit.out.1 (by have := h.2.2; rwa [Int.toNat_natCast] at this)))] at he
    subst he
    rw [if_neg hn] at HE
    refine hK.out _ _ (⟨hS1.1.trans (hB.mono hS1.1.size), hS1.2.below hB hS1.2.lt⟩) (fun hS => ?_)
    clear hK K
    try simp only [Act.put, zP, zQ, zR]
    refine wpAnyH_take (i := 8) (oi := ⟨some 16, _, _, _, _, _⟩) (v := ?_) rfl (by kernel_rfl) (by kernel_rfl) (by kernel_rfl) (fun _ _ _ h => h) (Or.inl ⟨by rfl, ?_⟩) hS ?_
    rotate_left
    · intro wq hq
      first | (go_simp; done) | (go_simp; rfl)
    try simp only [Act.put, zP, zQ, zR]
    refine wpAnyH_take (i := 9) (oi := ⟨some 25, _, _, _, _, _⟩) (v := ?_) rfl (by kernel_rfl) (by kernel_rfl) (by kernel_rfl) (fun _ _ _ h => h) (Or.inl ⟨by rfl, ?_⟩) hS ?_
    rotate_left
    · intro wq hq
      first | (go_simp; done) | (go_simp; rfl)
    try simp only [Act.put, zP, zQ, zR]
    refine wpAnyH_take (i := 10) (oi := ⟨some 26, _, _, _, _, _⟩) (v := ?_) rfl (by kernel_rfl) (by kernel_rfl) (by kernel_rfl) (fun _ _ _ h => h) (Or.inl ⟨by rfl, ?_⟩) hS ?_
    rotate_left
    · intro wq hq
      first | (go_simp; done) | (go_simp; rfl)
    try simp only [Act.put, zP, zQ, zR]
    refine wpAnyH_take (i := 11) (oi := ⟨some 4, _, _, _, _, _⟩) (v := ?_) rfl (by kernel_rfl) (by kernel_rfl) (by kernel_rfl) (fun _ _ _ h => h) (Or.inl ⟨by rfl, ?_⟩) hS ?_
    rotate_left
    · intro wq hq
      first | (go_simp; done) | (go_simp; rfl)
    try simp only [Act.put, zP, zQ, zR]
    refine wpAnyH_take (i := 12) (oi := ⟨some 5, _, _, _, _, _⟩) (v := ?_) rfl (by kernel_rfl) (by kernel_rfl) (by kernel_rfl) (fun _ _ _ h => h) (Or.inl ⟨by rfl, ?_⟩) hS ?_
    rotate_left
    · intro wq hq
      first | (go_simp; done) | (go_simp; rfl)
    try simp only [Act.put, zP, zQ, zR]
    refine wpAnyH_done (by kernel_rfl) ?_ _
    have HB3 := Lib.hid hS.1
    clear hS hS1 hB
    go_wp2
    go_ret2
    exact ⟨HB3.out, by rw [HE.out]; rfl⟩

theorem bytesOf_is (w : World) (f k : Int) (A : Option Addr) (n c : Nat) (v : List Int) (hr : Rd w w.heap.size A n v) (hm : n ≤ 140737488355328) :
    Calls Tryz.prog 98 #[.agg #[.int .i64 f, .int .i64 k, .slice A n c]] w (BytesOf w (f, k, v)) := by
  by_cases h : 0 ≤ f ∧ f ≤ 255 ∧ 0 ≤ k ∧ k ≤ 255
  · exact bytesOf_ok w f k A n c v hr hm h
  · exact bytesOf_bad w f k A n c v h
theorem encB_len (r : Raw) (h : encE r = 0) : (encB r).length ≤ 65539 := by
  unfold encE at h
  split at h
  · split at h
    · rename_i h2
      unfold encB
      rw [List.length_append, List.length_append, be_len]
      rcases lsz_12 r.1 with e | e <;> rw [e] at h2 ⊢ <;> simp at h2 ⊢ <;> omega
    · cases h
  · cases h

def joinE (rs : List Raw) : Int := match rs.find? (fun r => decide (encE r ≠ 0)) with
  | some r => encE r
  | none => 0
def joinB (rs : List Raw) : List Int := rs.flatMap encB
theorem joinE_no {rs : List Raw} (h : ∀ j (hj : j < rs.length), encE rs[j] = 0) : joinE rs = 0 := by
  unfold joinE
  rw [List.find?_eq_none.2]
  intro r hr
  obtain ⟨j, hj, rfl⟩ := List.getElem_of_mem hr
  simp [h j hj]
theorem joinE_at {rs : List Raw} {m : Nat} (hm : m < rs.length) (h : ∀ j (hj : j < m), encE (rs[j]'(by omega)) = 0) (hx : encE rs[m] ≠ 0) : joinE rs = encE rs[m] := by
  unfold joinE
  have : rs.find? (fun r => decide (encE r ≠ 0)) = some rs[m] := by
    rw [List.find?_eq_some_iff_getElem]
    refine ⟨by simpa using hx, m, hm, rfl, fun j hj => ?_⟩
    simp [h j hj]
  rw [this]
theorem joinB_take (rs : List Raw) (m : Nat) (hm : m < rs.length) : joinB (rs.take (m + 1)) = joinB (rs.take m) ++ encB rs[m] := by
  unfold joinB
  rw [List.take_succ_eq_append_getElem hm, List.flatMap_append]
  simp
def Joined (w : World) (rs : List Raw) (e : Ending) (w' : World) : Prop :=
  Below w.heap.size w w' ∧ if joinE rs = 0 then ∃ v, e = .returned (.tuple #[v, .int .i64 0]) ∧ OwnB w.heap.size w' v (joinB rs) else e = .returned (.tuple #[.slice none 0 0, .int .i64 (joinE rs)])
structure JoinRel (w : World) (rs : List Raw) (v : Value) (wr : World) (m : Nat) : Prop where
  own : OwnB w.heap.size wr v (joinB (rs.take m))
  bel : Below w.heap.size w wr
  good : ∀ j (hj : j < rs.length), j < m → encE rs[j] = 0
theorem RdR.get {w : World} {B : Nat} {A : Option Addr} {n : Nat} {rs : List Raw} (h : RdR w B A n rs) {m : Nat} (hm : m < rs.length) : ∃ b off A1 n1 c1, A = some ⟨b, off, none⟩ ∧ b < B ∧ w.cell? ⟨b, off + m * 3, none⟩ = some (.int .i64 rs[m].1) ∧ w.cell? ⟨b, off + m * 3 + 1, none⟩ = some (.int .i64 rs[m].2.1) ∧ w.cell? ⟨b, off + m * 3 + 2, none⟩ = some (.slice A1 n1 c1) ∧ Rd w B A1 n1 rs[m].2.2 := by
  obtain ⟨b, off, rfl, hb, hc⟩ := h.at_ (by have := h.len; omega)
  obtain ⟨A1, n1, c1, h1, h2, h3, h4⟩ := hc m hm
  exact ⟨b, off, A1, n1, c1, rfl, hb, h1, h2, h3, h4⟩

set_option maxHeartbeats 2000000 in
theorem join_is (w : World) (A : Option Addr) (n c : Nat) (rs : List Raw) (hr : RdR w w.heap.size A n rs) (hn : n ≤ 1000000) (hv : ∀ r ∈ rs, r.2.2.length ≤ 140737488355328)
    (hb : ∀ m, m ≤ rs.length → (∀ j (hj : j < rs.length), j < m → encE rs[j] = 0) → (joinB (rs.take m)).length ≤ 99900000) :
    Calls Tryz.prog 50 #[.slice A n c] w (Joined w rs) := by
  have HR := Lib.hid hr
  have hlen := hr.len
  have HV := Lib.hid hv
  have HBd := Lib.hid hb
  clear hr hv hb
  go_enter Tryz.func50, Tryz.ntmps50
  go_wp2
  go_loopw [4, 6, 7, 8, 11] (fun v _ _ _ i wr => ∃ m : Nat, m ≤ n ∧ i = .int .i64 m ∧ JoinRel w rs v wr m) (fun _ _ _ _ i _ => n - (intOf i).toNat)
  case atStart => exact ⟨0, Nat.zero_le _, rfl, OwnB.nil_ _ _, Below.refl _ _, fun j hj h => by omega⟩
  case round =>
    obtain ⟨m, hm, rfl, hrel⟩ := hrel
    have HRel := Lib.hid hrel
    clear hrel
    by_cases hlt : m < n
    · have hml : m < rs.length := by omega
      obtain ⟨b, off, A1, n1, c1, rfl, hbl, x0, x1, x2, hr1⟩ := (HR.out.below HRel.out.bel).get hml
      have hn1 : n1 ≤ 140737488355328 := by rw [← hr1.len]; exact HV.out _ (List.getElem_mem hml)
      have HJt := Lib.hid (joinB_take rs m hml)
      have HBd1 := Lib.hid (HBd.out m (by omega) HRel.out.good)
      have HAt := Lib.hid (fun hx => joinE_at hml (fun j hj => HRel.out.good j (by omega) hj) hx)
      have HGood : Hid (encE rs[m] = 0 → ∀ j (hj : j < rs.length), j < m + 1 → encE rs[j] = 0) := Lib.hid fun h j hj hlt' => by
        by_cases e : j = m
        · subst e; exact h
        · exact HRel.out.good j hj (by omega)
      have hx : ∃ r, r = rs[m] := ⟨_, rfl⟩
      obtain ⟨r, hrr⟩ := hx
      rw [← hrr] at x0 x1 hr1 HJt HAt HGood
      clear hrr
      obtain ⟨f, k, bd⟩ := r
      simp only at x0 x1 hr1
      have hsz := HRel.out.bel.size
      have hal : Below wr.heap.size wr (wr.alloc (.cells #[.int .i64 f, .int .i64 k, .slice A1 n1 c1] 67)) := (Below.refl _ _).alloc (Nat.le_refl _) _
      have HC := Lib.hid (bytesOf_is (wr.alloc (.cells #[.int .i64 f, .int .i64 k, .slice A1 n1 c1] 67)) f k A1 n1 c1 bd ((hr1.below (hal.mono hsz)).more (by simp; omega)) hn1)
      have HAl := Lib.hid hal
      clear hr1 hal
      go_wp2_with (refine raw_fetch rfl _ rfl b (off + m * 3) f k A1 n1 c1 rfl x0 x1 x2 ?_)
      refine HC.out.mono ?_
      rintro e w1 ⟨hB1, he⟩
      have hB2 : Below wr.heap.size wr w1 := HAl.out.trans (hB1.mono (by simp))
      have HB2 := Lib.hid hB2
      have HO2 := Lib.hid (HRel.out.own.below hB2)
      have HBw := Lib.hid (HRel.out.bel.trans (hB2.mono hsz))
      by_cases h0 : encE (f, k, bd) = 0
      · rw [if_pos h0] at he
        obtain ⟨v, rfl, ho⟩ := he
        obtain ⟨A2, c2, rfl, hc2, hr2, _⟩ := ho.at_
        have HR2 := Lib.hid hr2
        have hle : (joinB (rs.take m)).length + (encB (f, k, bd)).length ≤ 100000000 := by
          have := encB_len _ h0
          have := HBd1.out
          omega
        have HGo := Lib.hid (HGood.out h0)
        have hsz2 := HBw.out.size
        clear ho hr2 hB1 hB2 HC HAl HAt HGood h0
        generalize encB (f, k, bd) = eb at *
        generalize joinB (rs.take m) = jb at *
        go_wp2_with (at_builtin; refine app_bs rfl _ _ rfl HO2.out hsz2 HR2.out hle rfl rfl ?_)
        intro v' w3 ho3 hb3 _ _
        have HO3 := Lib.hid ho3
        have HB3 := Lib.hid (HBw.out.trans hb3)
        clear ho3 hb3
        go_wp2
        exact ⟨⟨m + 1, by omega, by go_num, by rw [HJt.out]; exact HO3.out, HB3.out, HGo.out⟩, by simp [intOf]; omega⟩
      · rw [if_neg h0] at he
        subst he
        have HJ := Lib.hid (HAt.out h0)
        have h0' : (encE (f, k, bd) != 0) = true := by simpa using h0
        have H0 := Lib.hid h0
        clear hB1 hB2 HC HAl HAt HGood h0
        generalize encE (f, k, bd) = ee at *
        go_wp2
        go_ret2
        exact ⟨HBw.out, by rw [HJ.out, if_neg H0.out]; rfl⟩
    · obtain rfl : n = m := by omega
      have HJ := Lib.hid (joinE_no fun j hj => HRel.out.good j hj (by omega))
      have HO := Lib.hid HRel.out.own
      rw [List.take_of_length_le (by omega)] at HO
      go_wp2
      go_ret2
      exact ⟨HRel.out.bel, by rw [HJ.out, if_pos rfl]; exact ⟨_, rfl, HO.out⟩⟩
end Go.Proofs.YtdgoeibfggjbmaaGreatDoor
