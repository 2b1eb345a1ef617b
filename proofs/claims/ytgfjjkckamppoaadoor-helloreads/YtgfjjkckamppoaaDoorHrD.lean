/-
  Layer 8: the document's caps: the walk.
-/
import Derived.Test.YtgfjjkckamppoaaDoorHrC
namespace Go.Proofs.YtgfjjkckamppoaaDoor
open Go.RowKit
set_option maxRecDepth 100000
set_option linter.unusedSimpArgs false
set_option linter.unusedVariables false

theorem numOf4 {v : List Int} (hv : v.length = 4) : numOf v = v.getD 0 0 * 16777216 + v.getD 1 0 * 65536 + v.getD 2 0 * 256 + v.getD 3 0 := by
  match v, hv with
  | [a, b, c, d], _ => simp [numOf, List.getD]; omega
theorem partsF_len : ∀ (m : Nat) (r : List Int), (partsF m r).1.length ≤ m
  | 0, r => by simp [partsF]
  | m + 1, r => by
    by_cases h0 : r = []
    · subst h0; rw [partsF_nil]; simp
    · cases hp : part1 r with
      | none => rw [partsF_none h0 hp]; simp
      | some q =>
        obtain ⟨k, v, r'⟩ := q
        rw [partsF_some h0 hp]
        have := partsF_len m r'
        simp; omega
theorem partsR_len (l : List Int) : (partsR l).1.length ≤ l.length := partsF_len _ _
theorem hl_not_u8 (h : Hl) (i : Nat) (x : Int) : (hlc h).toArray[i]? ≠ some (.int .u8 x) := by
  match i with
  | 0 => simp [hlc]
  | 1 => simp [hlc]
  | 2 => simp [hlc]
  | 3 => simp [hlc]
  | 4 => simp [hlc]
  | 5 => simp [hlc]
  | i + 6 => simp [hlc]
/-- A round is over. -/
theorem cp_close {w W : World} {lo : Nat} {v : Value} {rs : List Raw} {h' h2 : Hl} {m : Nat} {k : Int} {bd : List Int} {c : Option Hl} (hS : CpS w W h2 lo v rs) (hc : c = match capStep h' k bd with
    | none => none
    | some h'' => capsL h'' (rs.drop (m + 1))) (hs : capStep h' k bd = some h2) (hk : HlOk h2) : CpS w W h2 lo v rs ∧ c = capsL h2 (rs.drop (m + 1)) ∧ HlOk h2 := by
  rw [hs] at hc
  exact ⟨hS, hc, hk⟩

set_option maxHeartbeats 8000000 in
theorem rcaps_is (w : World) (h : Hl) (hk : HlOk h) (A : Option Addr) (n c : Nat) (l : List Int) (hr : Rd w w.heap.size A n l) (hm : n ≤ 100000) : Calls Tryd.prog 54 #[.agg (hlc h).toArray, .slice A n c] w (CapsP w h l) := by
  have hal := below_one8 w (.cells (hlc h).toArray 24)
  have hal2 := hal.trans ((below_one8 (w.alloc (.cells (hlc h).toArray 24)) (.cells #[.int .u32 0, .int .i64 0, .int .u32 0, .bool false, .bool false, .bool false] 24)).mono hal.size)
  have HB := Lib.hid hal2
  have HX := Lib.hid ((Blk.new w 24 (hlc h).toArray).alloc (.cells #[.int .u32 0, .int .i64 0, .int .u32 0, .bool false, .bool false, .bool false] 24))
  have hres := Blk.new (w.alloc (.cells (hlc h).toArray 24)) 24 #[.int .u32 0, .int .i64 0, .int .u32 0, .bool false, .bool false, .bool false]
  rw [show (w.alloc (.cells (hlc h).toArray 24)).heap.size = w.heap.size + 1 by simp] at hres
  have HRs := Lib.hid hres
  have HR := Lib.hid (hr.up hal2)
  have HS2 : Hid (((w.alloc (.cells (hlc h).toArray 24)).alloc (.cells #[.int .u32 0, .int .i64 0, .int .u32 0, .bool false, .bool false, .bool false] 24)).heap.size = w.heap.size + 2) := Lib.hid (by simp)
  have HK := Lib.hid hk
  clear hal hal2 hres hr hk
  go_enter Tryd.func54, Tryd.ntmps54
  go_wp2_with fail
  refine (rparts_is _ A n c l HR.out hm).mono ?_
  generalize ((w.alloc (.cells (hlc h).toArray 24)).alloc (.cells #[.int .u32 0, .int .i64 0, .int .u32 0, .bool false, .bool false, .bool false] 24)) = w2 at *
  rintro e w3 ⟨hB3, v, rfl, hown⟩
  obtain ⟨A2, c2, rfl, _⟩ := hown.rd
  have hpl := partsR_len l
  have hll := HR.out.len
  have HCR := Lib.hid (capsR_parts l.length h l (Nat.le_refl _))
  generalize partsR l = pr at *
  obtain ⟨rs, okp⟩ := pr
  simp only at *
  have HS : Hid (CpS w w3 h w2.heap.size (.slice A2 rs.length c2) rs) := Lib.hid ⟨HB.out.trans (hB3.mono HB.out.size), HX.out.below hB3 HX.out.lt, ⟨_, HRs.out.below hB3 HRs.out.lt, rfl⟩, hown, by rw [HS2.out]; exact Nat.le_refl _, hB3.size⟩
  clear hown hB3 HX HRs HR HB HS2
  generalize w2.heap.size = lo at *
  obtain ⟨N, hN⟩ : ∃ N, N = rs.length := ⟨_, rfl⟩
  rw [← hN] at HS ⊢
  have hNb : N ≤ 100000 := by omega
  clear hpl hll
  have HN := Lib.hid hN
  clear hN
  go_wp2
  go_loopw [17] (fun i wr => ∃ m : Nat, ∃ h', m ≤ N ∧ i = .int .i64 m ∧ CpS w wr h' lo (.slice A2 N c2) rs ∧ capsL h rs = capsL h' (rs.drop m) ∧ HlOk h') (fun i _ => N - (intOf i).toNat)
  case atStart => exact ⟨0, h, Nat.zero_le _, rfl, HS.out, rfl, HK.out⟩
  case round =>
    obtain ⟨m, h', hmN, rfl, hS, hcap, hok⟩ := hrel
    have HSr := Lib.hid hS
    have HCap := Lib.hid hcap
    have HOk := Lib.hid hok
    clear hS hcap hok HS
    by_cases hlt : m < N
    · have hlt2 : m < rs.length := by rw [← HN.out]; exact hlt
      obtain ⟨A3, c3, hA3, hrd⟩ := HSr.out.own.rd
      injection hA3 with hA3 hq1 hq2
      subst hA3
      clear hq1 hq2
      obtain ⟨b, off, A1, n1, c1, rfl, hb, x0, x1, x2, hr1⟩ := hrd.get hlt2
      obtain ⟨r, hrr⟩ : ∃ r, r = rs[m] := ⟨_, rfl⟩
      rw [← hrr] at x0 x1 hr1
      obtain ⟨f, k, bd⟩ := r
      simp only at x0 x1 hr1
      have HC := Lib.hid (HCap.out.trans (capsL_step hlt2 h' hrr.symm))
      have HNv := Lib.hid hr1.len
      have hal := below_one8 wr (.cells #[.int .i64 0, .int .i64 0, .slice none 0 0] 77)
      have hbz := Blk.new wr 77 #[.int .i64 0, .int .i64 0, .slice none 0 0]
      have hst := hal.trans (below_setRow _ wr.heap.size #[.int .i64 f, .int .i64 k, .slice A1 n1 c1] (Nat.le_refl _))
      have HZ := Lib.hid hbz
      have HS2 := Lib.hid (HSr.out.below hst)
      have HV2 := Lib.hid (hr1.up hst)
      have HB2 := Lib.hid (Blk.setRow hbz #[.int .i64 f, .int .i64 k, .slice A1 n1 c1])
      have HNe := Lib.hid (Nat.lt_of_lt_of_le (Nat.lt_of_lt_of_le (by have := HSr.out.lo_; omega : w.heap.size < lo) HSr.out.le) (Nat.le_refl wr.heap.size))
      clear hal hbz hst hr1 hrd HSr HCap hrr
      have hX := Lib.hid (And.intro x0 (And.intro x1 x2))
      clear x0 x1 x2
      go_wp2_with (first
        | (refine raw_fetch rfl _ rfl b (off + m * 3) f k A1 n1 c1 rfl hX.out.1 hX.out.2.1 hX.out.2.2 ?_)
        | (refine raw_store rfl _ _ rfl wr.heap.size f k A1 n1 c1 rfl rfl 77 _ HZ.out rfl ?_))
      clear HZ hX
      generalize ((wr.alloc (.cells #[.int .i64 0, .int .i64 0, .slice none 0 0] 77)).setRow wr.heap.size #[.int .i64 f, .int .i64 k, .slice A1 n1 c1]) = W2 at *
      generalize wr.heap.size = g at *
      by_cases h1 : k = 1
      · subst h1
        refine wp_region_held_drew (S := fun W => Below W2.heap.size W2 W) (by kernel_rfl) (below_drew8 W2) (fun hS => ?_)
        refine wpAnyH_take (i := 0) (oi := ⟨some 22, _, _, _, _, _⟩) (v := ?_) rfl (by kernel_rfl) (by kernel_rfl) (by kernel_rfl) (fun _ _ _ h => h) (Or.inl ⟨by rfl, ?_⟩) hS ?_
        rotate_left
        · intro wq hq
          first | (go_simp; done) | (go_simp; rfl)
        try simp only [Act.put, List.setIfInBounds_toArray, List.set_cons_zero, List.set_cons_succ]
        refine wpAnyH_take (i := 1) (oi := ⟨some 23, _, _, _, _, _⟩) (v := ?_) rfl (by kernel_rfl) (by kernel_rfl) (by kernel_rfl) (fun _ _ _ h => h) (Or.inl ⟨by rfl, ?_⟩) hS ?_
        rotate_left
        · intro wq hq
          have d1 : wq.cell? ⟨g, 1, none⟩ = some (.int .i64 1) := (HB2.out.below hq HB2.out.lt).cell 1
          first | (go_simp; done) | (go_simp; rfl)
        try simp only [Act.put, List.setIfInBounds_toArray, List.set_cons_zero, List.set_cons_succ]
        refine wpAnyH_take (i := 2) (oi := ⟨some 24, _, _, _, _, _⟩) (v := ?_) rfl (by kernel_rfl) (by kernel_rfl) (by kernel_rfl) (fun _ _ _ h => h) (Or.inl ⟨by rfl, ?_⟩) hS ?_
        rotate_left
        · intro wq hq
          first | (go_simp; done) | (go_simp; rfl)
        try simp only [Act.put, List.setIfInBounds_toArray, List.set_cons_zero, List.set_cons_succ]
        refine wpAnyH_take (i := 3) (oi := ⟨some 25, _, _, _, _, _⟩) (v := ?_) rfl (by kernel_rfl) (by kernel_rfl) (by kernel_rfl) (fun _ _ _ h => h) (Or.inl ⟨by rfl, ?_⟩) hS ?_
        rotate_left
        · intro wq hq
          first | (go_simp; done) | (go_simp; rfl)
        try simp only [Act.put, List.setIfInBounds_toArray, List.set_cons_zero, List.set_cons_succ]
        refine wpAnyH_take (i := 4) (oi := ⟨some 26, _, _, _, _, _⟩) (v := ?_) rfl (by kernel_rfl) (by kernel_rfl) (by kernel_rfl) (fun _ _ _ h => h) (Or.inl ⟨by rfl, ?_⟩) hS ?_
        rotate_left
        · intro wq hq
          first | (go_simp; done) | (go_simp; rfl)
        try simp only [Act.put, List.setIfInBounds_toArray, List.set_cons_zero, List.set_cons_succ]
        refine wpAnyH_take (i := 5) (oi := ⟨some 27, _, _, _, _, _⟩) (v := ?_) rfl (by kernel_rfl) (by kernel_rfl) (by kernel_rfl) (fun _ _ _ h => h) (Or.inl ⟨by rfl, ?_⟩) hS ?_
        rotate_left
        · intro wq hq
          have d2 : wq.cell? ⟨g, 2, none⟩ = some (.slice A1 n1 c1) := (HB2.out.below hq HB2.out.lt).cell 2
          first | (go_simp; done) | (go_simp; rfl)
        try simp only [Act.put, List.setIfInBounds_toArray, List.set_cons_zero, List.set_cons_succ]
        refine wpAnyH_ready (rs := [6]) (by kernel_rfl) (by simp) ?_
        refine AllReadyH.cons (o := ⟨some 28, _, _, _, _, _⟩) rfl (fun K hK => ?_) AllReadyH.nil
        rw [if_pos (by rfl)]
        go_wp2_with fail
        refine (rfamily_is _).mono ?_
        rintro e W3 ⟨rfl, hby, hB⟩
        have hS1 := hS
        have hF := hby.rd_all fam_oct hby.lt
        refine hK.out _ _ ((hS1.trans (hB.mono hS1.size))) (fun hS => ?_)
        clear hK K
        try simp only [Act.put, List.setIfInBounds_toArray, List.set_cons_zero, List.set_cons_succ]
        clear hS1 hB hby
        have hV3 := HV2.out.up hS
        refine wpAnyH_ready (rs := [7]) (by kernel_rfl) (by simp) ?_
        refine AllReadyH.cons (o := ⟨some 29, _, _, _, _, _⟩) rfl (fun K hK => ?_) AllReadyH.nil
        rw [if_pos (by rfl)]
        go_wp2_with fail
        refine (same8_is W3 W3.heap.size _ _ _ 4 _ 4 bd fam hV3 hF (decide (bd = fam)) rfl).mono ?_
        rintro e W4 ⟨rfl, rfl⟩
        have hS1 := hS
        refine hK.out _ _ (hS1) (fun hS => ?_)
        clear hK K
        try simp only [Act.put, List.setIfInBounds_toArray, List.set_cons_zero, List.set_cons_succ]
        clear hS1 hF hV3
        refine wpAnyH_take (i := 8) (oi := ⟨some 30, _, _, _, _, _⟩) (v := ?_) rfl (by kernel_rfl) (by kernel_rfl) (by kernel_rfl) (fun _ _ _ h => h) (Or.inl ⟨by rfl, ?_⟩) hS ?_
        rotate_left
        · intro wq hq
          first | (go_simp; done) | (go_simp; rfl)
        try simp only [Act.put, List.setIfInBounds_toArray, List.set_cons_zero, List.set_cons_succ]
        refine wpAnyH_take (i := 9) (oi := ⟨some 21, _, _, _, _, _⟩) (v := ?_) rfl (by kernel_rfl) (by kernel_rfl) (by kernel_rfl) (fun _ _ _ h => h) (Or.inl ⟨by rfl, ?_⟩) hS ?_
        rotate_left
        · intro wq hq
          first | (go_simp; done) | (go_simp; rfl)
        try simp only [Act.put, List.setIfInBounds_toArray, List.set_cons_zero, List.set_cons_succ]
        refine wpAnyH_done (by kernel_rfl) ?_ _
        have HS3 := Lib.hid (HS2.out.below hS)
        have HB3 := Lib.hid (HB2.out.below hS HB2.out.lt)
        clear hS HS2 HV2 HB2
        have hst : capStep h' 1 bd = some { h' with ev := h'.ev || decide (bd = fam) } := by unfold capStep; rw [if_pos rfl]
        cases hq : decide (bd = fam) with
        | true =>
          have HSt : Hid (capStep h' 1 bd = some { h' with ev := true }) := Lib.hid (by rw [hst, hq]; simp)
          have d3 : W3.cell? ⟨w.heap.size, 3, none⟩ = some (.bool h'.ev) := HS3.out.box.cell 3
          have f3 := HS3.out.box.frozen 3
          have HSet := Lib.hid (HS3.out.set (h' := { h' with ev := true }) 3 (.bool true) rfl)
          clear hst hq
          go_wp2
          exact ⟨⟨m + 1, _, by omega, by go_num, cp_close HSet.out HC.out HSt.out ⟨HOk.out.as_, HOk.out.hold, HOk.out.id_⟩⟩, by simp [intOf]; omega⟩
        | false =>
          have HSt : Hid (capStep h' 1 bd = some h') := Lib.hid (by rw [hst, hq]; simp)
          have d1 : W3.cell? ⟨g, 1, none⟩ = some (.int .i64 1) := HB3.out.cell 1
          have d2 : W3.cell? ⟨g, 2, none⟩ = some (.slice A1 n1 c1) := HB3.out.cell 2
          clear hst hq
          go_wp2
          exact ⟨⟨m + 1, _, by omega, by go_num, cp_close HS3.out HC.out HSt.out HOk.out⟩, by simp [intOf]; omega⟩
      · have e1 : (k == 1) = false := by simpa using h1
        refine wp_region_held_drew (S := fun W => Below W2.heap.size W2 W) (by kernel_rfl) (below_drew8 W2) (fun hS => ?_)
        refine wpAnyH_take (i := 0) (oi := ⟨some 22, _, _, _, _, _⟩) (v := ?_) rfl (by kernel_rfl) (by kernel_rfl) (by kernel_rfl) (fun _ _ _ h => h) (Or.inl ⟨by rfl, ?_⟩) hS ?_
        rotate_left
        · intro wq hq
          first | (go_simp; done) | (go_simp; rfl)
        try simp only [Act.put, List.setIfInBounds_toArray, List.set_cons_zero, List.set_cons_succ]
        refine wpAnyH_take (i := 1) (oi := ⟨some 23, _, _, _, _, _⟩) (v := ?_) rfl (by kernel_rfl) (by kernel_rfl) (by kernel_rfl) (fun _ _ _ h => h) (Or.inl ⟨by rfl, ?_⟩) hS ?_
        rotate_left
        · intro wq hq
          have d1 : wq.cell? ⟨g, 1, none⟩ = some (.int .i64 k) := (HB2.out.below hq HB2.out.lt).cell 1
          first | (go_simp; done) | (go_simp; rfl)
        try simp only [Act.put, List.setIfInBounds_toArray, List.set_cons_zero, List.set_cons_succ]
        refine wpAnyH_take (i := 2) (oi := ⟨some 24, _, _, _, _, _⟩) (v := ?_) rfl (by kernel_rfl) (by kernel_rfl) (by kernel_rfl) (fun _ _ _ h => h) (Or.inl ⟨by rfl, ?_⟩) hS ?_
        rotate_left
        · intro wq hq
          first | (go_simp; done) | (go_simp; rfl)
        try simp only [Act.put, List.setIfInBounds_toArray, List.set_cons_zero, List.set_cons_succ]
        refine wpAnyH_take (i := 3) (oi := ⟨some 25, _, _, _, _, _⟩) (v := ?_) rfl (by kernel_rfl) (by kernel_rfl) (by kernel_rfl) (fun _ _ _ h => h) (Or.inl ⟨by rfl, ?_⟩) hS ?_
        rotate_left
        · intro wq hq
          first | (go_simp; done) | (go_simp; rfl)
        try simp only [Act.put, List.setIfInBounds_toArray, List.set_cons_zero, List.set_cons_succ]
        refine wpAnyH_take (i := 4) (oi := ⟨some 26, _, _, _, _, _⟩) (v := undef) rfl (by kernel_rfl) (by kernel_rfl) (by kernel_rfl) (fun _ _ _ h => h) (Or.inr ⟨by rfl, rfl⟩) hS ?_
        try simp only [Act.put, List.setIfInBounds_toArray, List.set_cons_zero, List.set_cons_succ]
        refine wpAnyH_take (i := 5) (oi := ⟨some 27, _, _, _, _, _⟩) (v := undef) rfl (by kernel_rfl) (by kernel_rfl) (by kernel_rfl) (fun _ _ _ h => h) (Or.inr ⟨by rfl, rfl⟩) hS ?_
        try simp only [Act.put, List.setIfInBounds_toArray, List.set_cons_zero, List.set_cons_succ]
        refine wpAnyH_take (i := 6) (oi := ⟨some 28, _, _, _, _, _⟩) (v := undef) rfl (by kernel_rfl) (by kernel_rfl) (by kernel_rfl) (fun _ _ _ h => h) (Or.inr ⟨by rfl, rfl⟩) hS ?_
        try simp only [Act.put, List.setIfInBounds_toArray, List.set_cons_zero, List.set_cons_succ]
        refine wpAnyH_take (i := 7) (oi := ⟨some 29, _, _, _, _, _⟩) (v := undef) rfl (by kernel_rfl) (by kernel_rfl) (by kernel_rfl) (fun _ _ _ h => h) (Or.inr ⟨by rfl, rfl⟩) hS ?_
        try simp only [Act.put, List.setIfInBounds_toArray, List.set_cons_zero, List.set_cons_succ]
        refine wpAnyH_take (i := 8) (oi := ⟨some 30, _, _, _, _, _⟩) (v := ?_) rfl (by kernel_rfl) (by kernel_rfl) (by kernel_rfl) (fun _ _ _ h => h) (Or.inl ⟨by rfl, ?_⟩) hS ?_
        rotate_left
        · intro wq hq
          first | (go_simp; done) | (go_simp; rfl)
        try simp only [Act.put, List.setIfInBounds_toArray, List.set_cons_zero, List.set_cons_succ]
        refine wpAnyH_take (i := 9) (oi := ⟨some 21, _, _, _, _, _⟩) (v := ?_) rfl (by kernel_rfl) (by kernel_rfl) (by kernel_rfl) (fun _ _ _ h => h) (Or.inl ⟨by rfl, ?_⟩) hS ?_
        rotate_left
        · intro wq hq
          first | (go_simp; done) | (go_simp; rfl)
        try simp only [Act.put, List.setIfInBounds_toArray, List.set_cons_zero, List.set_cons_succ]
        refine wpAnyH_done (by kernel_rfl) ?_ _
        have HS3 := Lib.hid (HS2.out.below hS)
        have HV3 := Lib.hid (HV2.out.up hS)
        have HB3 := Lib.hid (HB2.out.below hS HB2.out.lt)
        clear hS HS2 HV2 HB2
        generalize W2.drew = W3 at *
        have d1 : W3.cell? ⟨g, 1, none⟩ = some (.int .i64 k) := HB3.out.cell 1
        have d2 : W3.cell? ⟨g, 2, none⟩ = some (.slice A1 n1 c1) := HB3.out.cell 2
        by_cases h2 : k = 2
        · subst h2
          have hst : capStep h' 2 bd = some { h' with rf := h'.rf || decide (bd = []) } := by unfold capStep; rw [if_neg (by decide), if_pos rfl]
          by_cases h0 : n1 = 0
          · subst h0
            have HSt : Hid (capStep h' 2 bd = some { h' with rf := true }) := Lib.hid (by rw [hst, List.eq_nil_of_length_eq_zero HNv.out]; simp)
            have d5 : W3.cell? ⟨w.heap.size, 5, none⟩ = some (.bool h'.rf) := HS3.out.box.cell 5
            have f5 := HS3.out.box.frozen 5
            have HSet := Lib.hid (HS3.out.set (h' := { h' with rf := true }) 5 (.bool true) rfl)
            clear hst h1
            go_wp2
            exact ⟨⟨m + 1, _, by omega, by go_num, cp_close HSet.out HC.out HSt.out ⟨HOk.out.as_, HOk.out.hold, HOk.out.id_⟩⟩, by simp [intOf]; omega⟩
          · have HSt : Hid (capStep h' 2 bd = some h') := Lib.hid (by rw [hst, decide_eq_false (fun e => h0 (by rw [← HNv.out, e]; rfl))]; simp)
            have e0 : ((n1 : Int) == 0) = false := by simp; omega
            clear hst h1 h0
            go_wp2
            exact ⟨⟨m + 1, _, by omega, by go_num, cp_close HS3.out HC.out HSt.out HOk.out⟩, by simp [intOf]; omega⟩
        have e2 : (k == 2) = false := by simpa using h2
        by_cases h6 : k = 65
        · subst h6
          clear h1 h2
          by_cases h4 : n1 = 4
          · subst h4
            have HSt : Hid (capStep h' 65 bd = some { h' with wd := true, as_ := numOf bd }) := Lib.hid (by unfold capStep; rw [if_neg (by decide), if_neg (by decide), if_pos rfl, if_pos HNv.out])
            have HNum := Lib.hid (numOf4 HNv.out)
            have HNb := Lib.hid (numOf_bd4 HV3.out.oct (by have := HNv.out; omega : bd.length ≤ 4))
            obtain ⟨b1, o1, rfl, _, hcs⟩ := HV3.out.at_ (by omega)
            have hne : b1 ≠ w.heap.size := fun e => hl_not_u8 h' o1 _ (by rw [← HS3.out.box.cell o1, ← e]; simpa using hcs 0 (by omega))
            have hb0 := HV3.out.oct.getD 0
            have hb1 := HV3.out.oct.getD 1
            have hb2 := HV3.out.oct.getD 2
            have hb3 := HV3.out.oct.getD 3
            have y0 := hcs 0 (by omega)
            have y1 := hcs 1 (by omega)
            have y2 := hcs 2 (by omega)
            have y3 := hcs 3 (by omega)
            rw [Nat.add_zero] at y0
            generalize bd.getD 0 0 = q0 at *
            generalize bd.getD 1 0 = q1 at *
            generalize bd.getD 2 0 = q2 at *
            generalize bd.getD 3 0 = q3 at *
            have d4 : W3.cell? ⟨w.heap.size, 4, none⟩ = some (.bool h'.wd) := HS3.out.box.cell 4
            have f4 := HS3.out.box.frozen 4
            have hset := HS3.out.set (h' := { h' with wd := true }) 4 (.bool true) rfl
            have HF : Hid (∀ W, W = (W3.setCell ⟨w.heap.size, 4, none⟩ (.bool true)).drewN 1 → CpS w W { h' with wd := true } lo (.slice (some ⟨b, off, none⟩) N c2) rs ∧ W.cell? ⟨g, 2, none⟩ = some (.slice (some ⟨b1, o1, none⟩) 4 c1) ∧ W.cell? ⟨b1, o1, none⟩ = some (.int .u8 q0) ∧ W.cell? ⟨b1, o1 + 1, none⟩ = some (.int .u8 q1) ∧ W.cell? ⟨b1, o1 + 2, none⟩ = some (.int .u8 q2) ∧ W.cell? ⟨b1, o1 + 3, none⟩ = some (.int .u8 q3)) := Lib.hid (by
              rintro W rfl
              have hot : ∀ (p : Addr), p.block ≠ w.heap.size → ((W3.setCell ⟨w.heap.size, 4, none⟩ (.bool true)).drewN 1).cell? p = W3.cell? p := fun p hp => World.cell?_setCell_other _ _ _ _ (fun e => hp (by rw [← e]))
              exact ⟨hset.below (below_drewN (Below.refl _ _) 1), (hot _ (by simp; have := HNe.out; omega)).trans d2, (hot _ hne).trans y0, (hot _ hne).trans y1, (hot _ hne).trans y2, (hot _ hne).trans y3⟩)
            generalize numOf bd = nb at *
            have HOr := Lib.hid ((or4v q0 q1 q2 q3 hb0 hb1 hb2 hb3).trans HNum.out.symm)
            have u0 : IntKind.u32.wrap q0 = q0 := by rw [IntKind.wrap_u32]; omega
            have u1 : IntKind.u32.wrap q1 = q1 := by rw [IntKind.wrap_u32]; omega
            have u2 : IntKind.u32.wrap q2 = q2 := by rw [IntKind.wrap_u32]; omega
            have u3 : IntKind.u32.wrap q3 = q3 := by rw [IntKind.wrap_u32]; omega
            have v0 : IntKind.u32.wrap (q0 * 16777216) = q0 * 16777216 := by rw [IntKind.wrap_u32]; omega
            have v1 : IntKind.u32.wrap (q1 * 65536) = q1 * 65536 := by rw [IntKind.wrap_u32]; omega
            have v2 : IntKind.u32.wrap (q2 * 256) = q2 * 256 := by rw [IntKind.wrap_u32]; omega
            clear hset hcs y0 y1 y2 y3
            go_wp2_with fail
            refine still_tail_any 27 (by kernel_rfl) (by kernel_rfl) ?_
            intro W4 hW4
            obtain ⟨hS4, z2, y0, y1, y2, y3⟩ := HF.out W4 hW4
            have HS4 := Lib.hid hS4
            clear hS4 hW4 HF HS3 HV3 HB3 d1 d2 d4 f4
            simp only [List.take_succ_cons, List.take_zero, List.drop_succ_cons, List.drop_zero]
            repeat still_step
            refine wpStill_nil ?_
            simp only [u0, u1, u2, u3, v0, v1, v2, HOr.out]
            have z0 : W4.cell? ⟨w.heap.size, 0, none⟩ = some (.int .u32 h'.as_) := HS4.out.box.cell 0
            have f0 := HS4.out.box.frozen 0
            have HSet := Lib.hid (HS4.out.set (h' := { h' with wd := true, as_ := nb }) 0 (.int .u32 nb) rfl)
            clear u0 u1 u2 u3 v0 v1 v2
            go_wp2
            exact ⟨⟨m + 1, _, by omega, by go_num, cp_close HSet.out HC.out HSt.out ⟨HNb.out, HOk.out.hold, HOk.out.id_⟩⟩, by simp [intOf]; omega⟩
          · have e4 : ((n1 : Int) != 4) = true := by simp; omega
            have HSt : Hid (capsL h rs = none) := Lib.hid (by rw [HC.out, show capStep h' 65 bd = none by unfold capStep; rw [if_neg (by decide), if_neg (by decide), if_pos rfl, if_neg (fun e => h4 (by rw [← HNv.out, e]))]])
            have HE : Hid (capsR h l = none) := Lib.hid (by rw [HCR.out, HSt.out])
            obtain ⟨old, ho, hos⟩ := HS3.out.res
            have HRs := Lib.hid ho
            clear h4 ho
            go_wp2_with (first
              | (refine h_fetch rfl _ rfl w.heap.size h' 24 rfl HS3.out.box ?_)
              | (refine h_store rfl _ _ rfl (w.heap.size + 1) h' rfl rfl 24 old HRs.out hos ?_))
            try simp only [Exit.inBlock, Exit.then]
            refine bodyPost_ret (results_cell_slot rfl _ _ (w.heap.size + 1) 24 _ _ (.bool false) rfl rfl (Blk.setRow HRs.out _) Tryd.underlying24 rfl hsz) rfl ⟨HS3.out.low.trans (below_setRow _ _ _ (Nat.le_succ _)), h', HOk.out, ?_, ?_⟩
            · rw [HE.out]; rfl
            · intro h2 hh; rw [HE.out] at hh; cases hh
        · have HSt : Hid (capStep h' k bd = some h') := Lib.hid (by unfold capStep; rw [if_neg h1, if_neg h2, if_neg h6])
          have e6 : (k == 65) = false := by simpa using h6
          clear h1 h2 h6
          go_wp2
          exact ⟨⟨m + 1, _, by omega, by go_num, cp_close HS3.out HC.out HSt.out HOk.out⟩, by simp [intOf]; omega⟩
    · obtain rfl : N = m := by omega
      have HE : Hid (capsR h l = if okp then some h' else none) := Lib.hid (by rw [HCR.out, HCap.out, List.drop_of_length_le (by rw [← HN.out]; exact Nat.le_refl _)]; rfl)
      obtain ⟨old, ho, hos⟩ := HSr.out.res
      have HRs := Lib.hid ho
      clear ho
      go_wp2_with (first
        | (refine h_fetch rfl _ rfl w.heap.size h' 24 rfl HSr.out.box ?_)
        | (refine h_store rfl _ _ rfl (w.heap.size + 1) h' rfl rfl 24 old HRs.out hos ?_))
      try simp only [Exit.inBlock, Exit.then]
      refine bodyPost_ret (results_cell_slot rfl _ _ (w.heap.size + 1) 24 _ _ (.bool okp) rfl rfl (Blk.setRow HRs.out _) Tryd.underlying24 rfl hsz) rfl ⟨HSr.out.low.trans (below_setRow _ _ _ (Nat.le_succ _)), h', HOk.out, ?_, ?_⟩
      · rw [HE.out]; cases okp <;> rfl
      · intro h2 hh
        rw [HE.out] at hh
        cases okp with
        | true => simpa using hh
        | false => cases hh
end Go.Proofs.YtgfjjkckamppoaaDoor
