/-
  Layer 2 (addr): pairsText.
-/
import Derived.Test.YtkaimdcepnhkdaaDoorCarD
import Derived.OwnWalk
import Derived.Laws.MakeOwn
import Derived.Deep.RegionHeld3
namespace Go.Proofs.YtkaimdcepnhkdaaDoor
open Go.RowKit
set_option linter.unusedSimpArgs false
set_option linter.unusedVariables false

/-- A slice of bytes of the call's own. -/
structure Own8 (w0 wr : World) (v : Value) (xs : List Int) : Prop where
  own : wr.ownsRow w0.heap.size 5 1 v xs.length (u8s xs)
  low : Below w0.heap.size w0 wr
theorem Own8.below_grown {w0 wr w' : World} {v : Value} {n : Nat} {xs : List Value} (ho : wr.ownsRow w0.heap.size 5 1 v n xs) (hb : Below w0.heap.size w0 wr) (hg : wr.grownBy w' v.ownBlock) : Below w0.heap.size w0 w' :=
  hb.trans ⟨hg.os, hg.tape, hg.output, hg.size, fun i hi => hg.block i (Nat.lt_of_lt_of_le hi hb.size) (fun e => by have := (ho.lt i e.symm).1; omega)⟩
theorem own_app (ty : TypeId) (w0 wr : World) (v : Value) (xs news : List Int) (h : Own8 w0 wr v xs) (hlen : xs.length + news.length ≤ 1000) :
    ∃ v' w', (Builtin.append_ #[79, 79] ty #[v, .slice (some ⟨wr.heap.size, 0, none⟩) news.length news.length]).run Tryd.prog (wr.alloc (.cells (u8s news).toArray 5)) = .ok v' w' ∧ Own8 w0 w' v' (xs ++ news) := by
  obtain ⟨i, hi, hz0, hz1, hz2⟩ := info_parts info_u8'
  have hb := Blk.new wr 5 (u8s news).toArray
  obtain ⟨v', w', hr, ho, hg, _⟩ := run_append_own (P := Tryd.prog) (wr.alloc (.cells (u8s news).toArray 5)) w0.heap.size 79 ty 5 i (.int .u8 0) 1 1 Tryd.underlying79 hi hz0 hz1 hz2 rfl (by decide) v xs.length (u8s xs) (h.own.alloc _) ⟨wr.heap.size, 0, none⟩ news.length news.length (u8s news) (by simp) (src8 hb) (u8s_one news)
    (by unfold maxLen; omega) (by omega) (by have := h.low.size; simp; omega)
  refine ⟨v', w', hr, ?_, Own8.below_grown (h.own.alloc _) (h.low.alloc h.low.size _) hg⟩
  rw [List.length_append, show u8s (xs ++ news) = u8s xs ++ u8s news from List.map_append]
  exact ho
theorem app_wp {o : Oper} {a : Act} {K : Act → World → Prop} {Q : Exit → Act → World → Prop} (s x : Operand) (ho : o.op = .call { callee := .builtin .append, args := #[s, x], argTypes := #[79, 79] })
    {w0 wr : World} {v : Value} {xs : List Int} (news : List Int) (h : Own8 w0 wr v xs) (hlen : xs.length + news.length ≤ 1000) (hs : a.eval s = v) (hx : a.eval x = .slice (some ⟨wr.heap.size, 0, none⟩) news.length news.length)
    (hk : ∀ v' w', Own8 w0 w' v' (xs ++ news) → K (a.put o.dst v') w') : o.wp Tryd.prog a (wr.alloc (.cells (u8s news).toArray 5)) K Q := by
  obtain ⟨i, hi, hz0, hz1, hz2⟩ := info_parts info_u8'
  have hb := Blk.new wr 5 (u8s news).toArray
  refine wp_append_own (P := Tryd.prog) _ s x 79 ho w0.heap.size 5 i (.int .u8 0) 1 1 Tryd.underlying79 hi hz0 hz1 hz2 rfl (by decide) v xs.length (u8s xs) hs (h.own.alloc _) ⟨wr.heap.size, 0, none⟩ news.length news.length (u8s news) hx (by simp) (src8 hb) (u8s_one news)
    (by unfold maxLen; omega) (by omega) (by have := h.low.size; simp; omega) ?_
  intro v' w' h1 hg _
  refine hk v' w' ⟨?_, Own8.below_grown (h.own.alloc _) (h.low.alloc h.low.size _) hg⟩
  rw [List.length_append, show u8s (xs ++ news) = u8s xs ++ u8s news from List.map_append]
  exact h1
theorem app_arm {ops : Array Oper} {rest : List Oper} {o : Oper} {a : Act} {Q : Exit → Act → World → Prop} (hgd : o.guard = none) (s x : Operand) (ho : o.op = .call { callee := .builtin .append, args := #[s, x], argTypes := #[79, 79] })
    {w0 wr : World} {v : Value} {xs : List Int} (news : List Int) (h : Own8 w0 wr v xs) (hlen : xs.length + news.length ≤ 1000) (hs : a.eval s = v) (hx : a.eval x = .slice (some ⟨wr.heap.size, 0, none⟩) news.length news.length)
    (hk : ∀ v' w', Own8 w0 w' v' (xs ++ news) → wpList Tryd.prog ops Q rest (a.put o.dst v') w') : wpList Tryd.prog ops Q (o :: rest) a (wr.alloc (.cells (u8s news).toArray 5)) :=
  wpList_plain hgd fun _ hK => app_wp s x ho news h hlen hs hx fun v' w' h2 => hK _ _ (hk v' w' h2)
theorem Own8.rd {w0 wr : World} {v : Value} {xs : List Int} (h : Own8 w0 wr v xs) (ho : Oct xs) : ∃ A c, v = .slice A xs.length c ∧ Rd wr wr.heap.size A xs.length xs := by
  rcases h.own.2 with ⟨rfl, hn⟩ | ⟨g, cap, cur, rfl, hb, hg, hnc, hcm, hcs, hx⟩
  · exact ⟨none, 0, by rw [hn], ⟨rfl, ho, fun hp => by omega⟩⟩
  · refine ⟨_, cap, rfl, ⟨rfl, ho, fun _ => ⟨g, 0, rfl, (Array.getElem?_eq_some_iff.1 hg).1, fun i hi => ?_⟩⟩⟩
    rw [Nat.zero_add]
    have h1 : (u8s xs)[i]? = some (.int .u8 (xs.getD i 0)) := by simp [List.getD, hi]
    rw [← hx, List.getElem?_take, if_pos (by omega)] at h1
    simp only [World.cell?, hg]
    rw [← Array.getElem?_toList]
    exact h1
/-- Pairs of digits, with : between. -/
def prK (l : List Int) : Nat → List Int
  | 0 => []
  | k + 1 => prK l k ++ (if 0 < k then [58] else []) ++ [hexI (l.getD k 0 / 16), hexI (l.getD k 0 % 16)]
theorem prK_len (l : List Int) : ∀ k, (prK l k).length ≤ 3 * k
  | 0 => by simp [prK]
  | k + 1 => by
    have := prK_len l k
    unfold prK
    split <;> simp <;> omega
theorem prK_oct (l : List Int) (ho : Oct l) : ∀ k, Oct (prK l k)
  | 0 => by intro x h; cases h
  | k + 1 => by
    have ih := prK_oct l ho k
    have hx := ho.getD k
    unfold prK
    intro x h
    rcases List.mem_append.1 h with h | h
    · rcases List.mem_append.1 h with h | h
      · exact ih x h
      · split at h
        · rw [List.mem_singleton] at h; omega
        · cases h
    · simp only [List.mem_cons, List.mem_nil_iff, or_false] at h
      rcases h with rfl | rfl
      · exact hexI_bd _ (by omega) (by omega)
      · exact hexI_bd _ (by omega) (by omega)
def digs16 : ByteArray := ⟨#[48, 49, 50, 51, 52, 53, 54, 55, 56, 57, 97, 98, 99, 100, 101, 102]⟩
theorem hex_at16 : ∀ d : Fin 16, ((digs16[d.val]'(by have := d.2; show d.val < 16; omega)).toNat : Int) = hexI d.val := by decide +kernel
theorem and15_8 (x : Int) (h0 : 0 ≤ x) (h1 : x < 256) : bits .and .u8 x 15 = x % 16 := by
  obtain ⟨m, rfl⟩ := Int.eq_ofNat_of_zero_le h0
  have h : ∀ m : Fin 256, bits .and .u8 (m.val : Int) 15 = (m.val : Int) % 16 := by decide +kernel
  exact h ⟨m, by omega⟩
set_option maxHeartbeats 4000000 in
set_option maxRecDepth 100000 in
theorem pt_is (w : World) (g : Nat) (t : TypeId) (n : Nat) (l : List Int) (hn : 1 ≤ n ∧ n ≤ 16) (hl : l.length = n) (ho : Oct l) (hb : Blk w g t (u8s l).toArray) :
    Calls Tryd.prog 124 #[.slice (some ⟨g, 0, none⟩) n n] w fun e w' => e = .returned (.string (strOfNums (prK l n))) ∧ Below w.heap.size w w' := by
  have HB := Lib.hid hb
  have hgl := hb.lt
  clear hb
  obtain ⟨i0, hi, hz0, hz1, hz2⟩ := info_parts info_u8'
  obtain ⟨wm, hmk, hown, hgrow⟩ := run_make_own (P := Tryd.prog) w w.heap.size 79 5 i0 (.int .u8 0) 1 Tryd.underlying79 hi hz0 hz1 .i64 .i64 (3 * n) (by rw [hz2]; omega) (by unfold maxLen; omega) (Nat.le_refl _)
  have HO : Hid (Own8 w wm (.slice (some ⟨w.heap.size, 0, none⟩) 0 (3 * n)) []) := Lib.hid ⟨hown, (Below.refl _ _).trans ⟨hgrow.os, hgrow.tape, hgrow.output, hgrow.size, fun i hi => hgrow.block i hi (fun e => by cases e)⟩⟩
  have m0 : 3 * (n : Int) = ((3 * n : Nat) : Int) := by omega
  have hn48 : 3 * n ≤ 48 := by omega
  clear hown hgrow hi hz0 hz1 hz2
  generalize 3 * n = n3 at *
  go_enter Tryd.func124, Tryd.ntmps124
  go_wp2
  clear hmk m0 hn48
  go_loopw [3, 4, 5, 12] (fun v _ _ i wr => ∃ k : Nat, k ≤ n ∧ i = .int .i64 k ∧ Own8 w wr v (prK l k)) (fun _ _ _ i _ => n - (intOf i).toNat)
  case atStart => exact ⟨0, by omega, rfl, HO.out⟩
  case round =>
    obtain ⟨k, hk, rfl, hw⟩ := hrel
    have HW := Lib.hid hw
    clear hw HO
    by_cases hlt : k < n
    · have hcell : wr.cell? ⟨g, k, none⟩ = some (.int .u8 (l.getD k 0)) := by
        rw [(HB.out.below HW.out.low hgl).cell]
        simp [List.getD, show k < l.length by omega]
      have hx := ho.getD k
      have hlen := prK_len l k
      have HP : Hid (prK l (k + 1) = prK l k ++ (if 0 < k then [58] else []) ++ [hexI (l.getD k 0 / 16), hexI (l.getD k 0 % 16)]) := Lib.hid rfl
      generalize l.getD k 0 = x at *
      obtain ⟨d, hd⟩ := Int.eq_ofNat_of_zero_le (show 0 ≤ x / 16 by omega)
      obtain ⟨e, he⟩ := Int.eq_ofNat_of_zero_le (show 0 ≤ x % 16 by omega)
      have hd16 : d < 16 := by omega
      have he16 : e < 16 := by omega
      have hand : bits .and .u8 x 15 = (e : Int) := by rw [and15_8 x hx.1 hx.2, he]
      have HXD := Lib.hid (hex_at16 ⟨d, hd16⟩)
      have HXE := Lib.hid (hex_at16 ⟨e, he16⟩)
      rw [hd, he] at HP
      generalize prK l k = xs at *
      have hdI : (d : Int) < 16 := by omega
      have heI : (e : Int) < 16 := by omega
      by_cases hk0 : 0 < k
      · have hkz : (k : Int) > 0 := by omega
        have HP2 : Hid (prK l (k + 1) = xs ++ [58] ++ [hexI d, hexI e]) := Lib.hid (by rw [HP.out, if_pos hk0])
        clear HP hk0
        go_wp2_with (at_builtin; refine app_arm rfl _ _ rfl [58] HW.out (by simp; omega) rfl rfl ?_)
        intro vv wz hoz
        have HWX := Lib.hid hoz
        clear hoz HW hcell
        go_wp2
        refine wp_region_held_drew (S := fun w' => Below w.heap.size w w') (by kernel_rfl) (below_drewN HWX.out.low 1) (fun hS => ?_)
        refine wpAnyH_take (i := 0) (oi := ⟨some 22, _, _, _, _, _⟩) (v := ?_) rfl (by kernel_rfl) (by kernel_rfl) (by kernel_rfl) (fun _ _ _ h => h) (Or.inl ⟨by rfl, ?_⟩) hS ?_
        rotate_left
        · intro wq hq
          first | (go_simp; done) | (go_simp; rfl)
        try simp only [Act.put, List.setIfInBounds_toArray, List.set_cons_zero, List.set_cons_succ]
        refine wpAnyH_take (i := 1) (oi := ⟨some 23, _, _, _, _, _⟩) (v := ?_) rfl (by kernel_rfl) (by kernel_rfl) (by kernel_rfl) (fun _ _ _ h => h) (Or.inl ⟨by rfl, ?_⟩) hS ?_
        rotate_left
        · intro wq hq
          first | (go_simp; done) | (go_simp; rfl)
        try simp only [Act.put, List.setIfInBounds_toArray, List.set_cons_zero, List.set_cons_succ]
        refine wpAnyH_take (i := 2) (oi := ⟨some 24, _, _, _, _, _⟩) (v := ?_) rfl (by kernel_rfl) (by kernel_rfl) (by kernel_rfl) (fun _ _ _ h => h) (Or.inl ⟨by rfl, ?_⟩) hS ?_
        rotate_left
        · intro wq hq
          first | (go_simp; done) | (go_simp; rfl)
        try simp only [Act.put, List.setIfInBounds_toArray, List.set_cons_zero, List.set_cons_succ]
        refine wpAnyH_take (i := 3) (oi := ⟨some 25, _, _, _, _, _⟩) (v := ?_) rfl (by kernel_rfl) (by kernel_rfl) (by kernel_rfl) (fun _ _ _ h => h) (Or.inl ⟨by rfl, ?_⟩) hS ?_
        rotate_left
        · intro wq hq
          first | (go_simp; done) | (go_simp; rfl)
        try simp only [Act.put, List.setIfInBounds_toArray, List.set_cons_zero, List.set_cons_succ]
        refine wpAnyH_take (i := 4) (oi := ⟨some 26, _, _, _, _, _⟩) (v := ?_) rfl (by kernel_rfl) (by kernel_rfl) (by kernel_rfl) (fun _ _ _ h => h) (Or.inl ⟨by rfl, ?_⟩) hS ?_
        rotate_left
        · intro wq hq
          first | (go_simp; done) | (go_simp; rfl)
        try simp only [Act.put, List.setIfInBounds_toArray, List.set_cons_zero, List.set_cons_succ]
        refine wpAnyH_take (i := 5) (oi := ⟨some 27, _, _, _, _, _⟩) (v := ?_) rfl (by kernel_rfl) (by kernel_rfl) (by kernel_rfl) (fun _ _ _ h => h) (Or.inl ⟨by rfl, ?_⟩) hS ?_
        rotate_left
        · intro wq hq
          first | (go_simp; done) | (go_simp; rfl)
        try simp only [Act.put, List.setIfInBounds_toArray, List.set_cons_zero, List.set_cons_succ]
        refine wpAnyH_take (i := 6) (oi := ⟨some 28, _, _, _, _, _⟩) (v := ?_) rfl (by kernel_rfl) (by kernel_rfl) (by kernel_rfl) (fun _ _ _ h => h) (Or.inl ⟨by rfl, ?_⟩) hS ?_
        rotate_left
        · intro wq hq
          first | (go_simp; done) | (go_simp; rfl)
        try simp only [Act.put, List.setIfInBounds_toArray, List.set_cons_zero, List.set_cons_succ]
        refine wpAnyH_ready (rs := [7]) (by kernel_rfl) (by simp) ?_
        refine AllReadyH.cons (o := ⟨some 29, _, _, _, _, _⟩) rfl (fun K hK => ?_) AllReadyH.nil
        rw [if_pos (by rfl)]
        go_wp2
        refine hK.out _ _ (below_drewN (HWX.out.low.alloc HWX.out.low.size _) 1) (fun hS => ?_)
        clear hK K
        try simp only [Act.put, List.setIfInBounds_toArray, List.set_cons_zero, List.set_cons_succ]
        refine wpAnyH_ready (rs := [8]) (by kernel_rfl) (by simp) ?_
        refine AllReadyH.cons (o := ⟨some 30, _, _, _, _, _⟩) rfl (fun K hK => ?_) AllReadyH.nil
        rw [if_pos (by rfl)]
        refine app_wp (wr := wz.drew) (w0 := w) (v := vv) (xs := xs ++ [58]) _ _ rfl [((digs16[d]'(by show d < 16; omega)).toNat : Int), ((digs16[e]'(by show e < 16; omega)).toNat : Int)] ⟨HWX.out.own, below_drewN HWX.out.low 1⟩ (by simp; omega) rfl rfl ?_
        intro v2 w2 ho2
        rw [HXD.out, HXE.out, ← HP2.out] at ho2
        have HO2 := Lib.hid ho2
        have hS2 := ho2.low
        clear ho2
        refine hK.out _ _ hS2 (fun hS => ?_)
        clear hK K
        try simp only [Act.put, List.setIfInBounds_toArray, List.set_cons_zero, List.set_cons_succ]
        refine wpAnyH_take (i := 9) (oi := ⟨some 3, _, _, _, _, _⟩) (v := ?_) rfl (by kernel_rfl) (by kernel_rfl) (by kernel_rfl) (fun _ _ _ h => h) (Or.inl ⟨by rfl, ?_⟩) hS ?_
        rotate_left
        · intro wq hq
          first | (go_simp; done) | (go_simp; rfl)
        try simp only [Act.put, List.setIfInBounds_toArray, List.set_cons_zero, List.set_cons_succ]
        refine wpAnyH_done (by kernel_rfl) ?_ _
        clear hS hS2
        go_wp2
        exact ⟨⟨k + 1, by omega, by go_num, HO2.out⟩, by simp [intOf]; omega⟩
      · have hkz : ¬ (k : Int) > 0 := by omega
        have HP2 : Hid (prK l (k + 1) = xs ++ [hexI d, hexI e]) := Lib.hid (by rw [HP.out, if_neg hk0, List.append_nil])
        have HWX := Lib.hid HW.out
        clear HP hk0 HW
        generalize u3 = vv at *
        generalize wr = wz at *
        go_wp2
        refine wp_region_held_drew (S := fun w' => Below w.heap.size w w') (by kernel_rfl) (below_drewN HWX.out.low 1) (fun hS => ?_)
        refine wpAnyH_take (i := 0) (oi := ⟨some 22, _, _, _, _, _⟩) (v := ?_) rfl (by kernel_rfl) (by kernel_rfl) (by kernel_rfl) (fun _ _ _ h => h) (Or.inl ⟨by rfl, ?_⟩) hS ?_
        rotate_left
        · intro wq hq
          first | (go_simp; done) | (go_simp; rfl)
        try simp only [Act.put, List.setIfInBounds_toArray, List.set_cons_zero, List.set_cons_succ]
        refine wpAnyH_take (i := 1) (oi := ⟨some 23, _, _, _, _, _⟩) (v := ?_) rfl (by kernel_rfl) (by kernel_rfl) (by kernel_rfl) (fun _ _ _ h => h) (Or.inl ⟨by rfl, ?_⟩) hS ?_
        rotate_left
        · intro wq hq
          first | (go_simp; done) | (go_simp; rfl)
        try simp only [Act.put, List.setIfInBounds_toArray, List.set_cons_zero, List.set_cons_succ]
        refine wpAnyH_take (i := 2) (oi := ⟨some 24, _, _, _, _, _⟩) (v := ?_) rfl (by kernel_rfl) (by kernel_rfl) (by kernel_rfl) (fun _ _ _ h => h) (Or.inl ⟨by rfl, ?_⟩) hS ?_
        rotate_left
        · intro wq hq
          first | (go_simp; done) | (go_simp; rfl)
        try simp only [Act.put, List.setIfInBounds_toArray, List.set_cons_zero, List.set_cons_succ]
        refine wpAnyH_take (i := 3) (oi := ⟨some 25, _, _, _, _, _⟩) (v := ?_) rfl (by kernel_rfl) (by kernel_rfl) (by kernel_rfl) (fun _ _ _ h => h) (Or.inl ⟨by rfl, ?_⟩) hS ?_
        rotate_left
        · intro wq hq
          first | (go_simp; done) | (go_simp; rfl)
        try simp only [Act.put, List.setIfInBounds_toArray, List.set_cons_zero, List.set_cons_succ]
        refine wpAnyH_take (i := 4) (oi := ⟨some 26, _, _, _, _, _⟩) (v := ?_) rfl (by kernel_rfl) (by kernel_rfl) (by kernel_rfl) (fun _ _ _ h => h) (Or.inl ⟨by rfl, ?_⟩) hS ?_
        rotate_left
        · intro wq hq
          first | (go_simp; done) | (go_simp; rfl)
        try simp only [Act.put, List.setIfInBounds_toArray, List.set_cons_zero, List.set_cons_succ]
        refine wpAnyH_take (i := 5) (oi := ⟨some 27, _, _, _, _, _⟩) (v := ?_) rfl (by kernel_rfl) (by kernel_rfl) (by kernel_rfl) (fun _ _ _ h => h) (Or.inl ⟨by rfl, ?_⟩) hS ?_
        rotate_left
        · intro wq hq
          first | (go_simp; done) | (go_simp; rfl)
        try simp only [Act.put, List.setIfInBounds_toArray, List.set_cons_zero, List.set_cons_succ]
        refine wpAnyH_take (i := 6) (oi := ⟨some 28, _, _, _, _, _⟩) (v := ?_) rfl (by kernel_rfl) (by kernel_rfl) (by kernel_rfl) (fun _ _ _ h => h) (Or.inl ⟨by rfl, ?_⟩) hS ?_
        rotate_left
        · intro wq hq
          first | (go_simp; done) | (go_simp; rfl)
        try simp only [Act.put, List.setIfInBounds_toArray, List.set_cons_zero, List.set_cons_succ]
        refine wpAnyH_ready (rs := [7]) (by kernel_rfl) (by simp) ?_
        refine AllReadyH.cons (o := ⟨some 29, _, _, _, _, _⟩) rfl (fun K hK => ?_) AllReadyH.nil
        rw [if_pos (by rfl)]
        go_wp2
        refine hK.out _ _ (below_drewN (HWX.out.low.alloc HWX.out.low.size _) 1) (fun hS => ?_)
        clear hK K
        try simp only [Act.put, List.setIfInBounds_toArray, List.set_cons_zero, List.set_cons_succ]
        refine wpAnyH_ready (rs := [8]) (by kernel_rfl) (by simp) ?_
        refine AllReadyH.cons (o := ⟨some 30, _, _, _, _, _⟩) rfl (fun K hK => ?_) AllReadyH.nil
        rw [if_pos (by rfl)]
        refine app_wp (wr := wz.drew) (w0 := w) (v := vv) (xs := xs) _ _ rfl [((digs16[d]'(by show d < 16; omega)).toNat : Int), ((digs16[e]'(by show e < 16; omega)).toNat : Int)] ⟨HWX.out.own, below_drewN HWX.out.low 1⟩ (by simp; omega) rfl rfl ?_
        intro v2 w2 ho2
        rw [HXD.out, HXE.out, ← HP2.out] at ho2
        have HO2 := Lib.hid ho2
        have hS2 := ho2.low
        clear ho2
        refine hK.out _ _ hS2 (fun hS => ?_)
        clear hK K
        try simp only [Act.put, List.setIfInBounds_toArray, List.set_cons_zero, List.set_cons_succ]
        refine wpAnyH_take (i := 9) (oi := ⟨some 3, _, _, _, _, _⟩) (v := ?_) rfl (by kernel_rfl) (by kernel_rfl) (by kernel_rfl) (fun _ _ _ h => h) (Or.inl ⟨by rfl, ?_⟩) hS ?_
        rotate_left
        · intro wq hq
          first | (go_simp; done) | (go_simp; rfl)
        try simp only [Act.put, List.setIfInBounds_toArray, List.set_cons_zero, List.set_cons_succ]
        refine wpAnyH_done (by kernel_rfl) ?_ _
        clear hS hS2
        go_wp2
        exact ⟨⟨k + 1, by omega, by go_num, HO2.out⟩, by simp [intOf]; omega⟩

    · obtain rfl : k = n := by omega
      obtain ⟨A, c, rfl, hr⟩ := HW.out.rd (prK_oct l ho k)
      have hcv := run_conv_rd (P := Tryd.prog) wr 79 9 5 Tryd.underlying79 Tryd.underlying5 Tryd.underlying9 c hr
      have HL := Lib.hid HW.out.low
      clear HW hr
      go_wp2
      go_ret
      exact ⟨rfl, HL.out⟩
end Go.Proofs.YtkaimdcepnhkdaaDoor
