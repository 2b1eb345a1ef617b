/-
  The document's answer, layer 2: unpairs.
-/
import Derived.Test.YtfapmedlnaikiaaDoorCarB
import Derived.Deep.RegionHeld3
namespace Go.Proofs.YtfapmedlnaikiaaDoor
open Go.RowKit
set_option linter.unusedSimpArgs false
set_option linter.unusedVariables false

theorem info_u8' : (Tryd.prog.info? 5).map (fun i => (i.zero, i.size, i.bytes)) = some (some (.int .u8 0), 1, 1) := by kernel_rfl
theorem u8_made (w : World) (n : Nat) (t : TypeId) : Blk (w.alloc (.cells (madeCells #[.int .u8 0] n) t)) w.heap.size t (u8s (List.replicate n 0)).toArray := by
  unfold Blk
  show (w.heap.push _)[w.heap.size]? = _
  rw [Array.getElem?_push, if_pos rfl]
  congr 2
  apply Array.ext_getElem?
  intro i
  by_cases hi : i < n <;> simp [madeCells, hi, Nat.mod_one]
def Up (w : World) (n : Nat) (o : Option (List Int)) (e : Ending) (w' : World) : Prop :=
  Below w.heap.size w w' ∧ match o with
  | none => e = .returned (.tuple #[.slice none 0 0, .bool false])
  | some l => e = .returned (.tuple #[.slice (some ⟨w.heap.size, 0, none⟩) n n, .bool true]) ∧ Blk w' w.heap.size 5 (u8s l).toArray
set_option maxHeartbeats 4000000 in
set_option maxRecDepth 100000 in
theorem up_go (w : World) (s : ByteArray) (n : Nat) (hn : 1 ≤ n ∧ n ≤ 16) (hs : s.size + 1 = 3 * n) :
    Calls Tryd.prog 54 #[.string s, .int .i64 n] w (Up w n (prTo s n)) := by
  have HS := Lib.hid hs
  have hsz : (s.size : Int) = 3 * (n : Int) - 1 := by omega
  have hmk := run_make_row' (P := Tryd.prog) 75 5 (.int .u8 0) 1 Tryd.underlying75 info_u8' rfl .i64 .i64 n (by omega) (by omega) w
  have HB0 := Lib.hid (u8_made w n 5)
  have HL0 : Hid (Below w.heap.size w (w.alloc (.cells (madeCells #[.int .u8 0] n) 5))) := Lib.hid ((Below.refl w.heap.size w).alloc (Nat.le_refl _) _)
  clear hs
  go_enter Tryd.func54, Tryd.ntmps54
  go_wp2
  clear hmk hsz
  go_loopw [7, 8, 9] (fun i _ _ wr => ∃ (k : Nat) (ds : List Int), k ≤ n ∧ i = .int .i64 k ∧ prTo s k = some ds ∧ Blk wr w.heap.size 5 (u8s (ds ++ List.replicate (n - k) 0)).toArray ∧ Below w.heap.size w wr) (fun i _ _ _ => n - (intOf i).toNat)
  case atStart => exact ⟨0, [], by omega, rfl, rfl, HB0.out, HL0.out⟩
  case round =>
    obtain ⟨k, ds, hk, rfl, hds, hB, hL⟩ := hrel
    have HB := Lib.hid hB
    have HL := Lib.hid hL
    have HD := Lib.hid hds
    have hlen := prTo_len s k ds hds
    clear hB hL hds HL0
    by_cases hlt : k < n
    · have h3a : 3 * k < s.size := by have := HS.out; omega
      have h3b : 3 * k + 1 < s.size := by have := HS.out; omega
      have m1 : 3 * (k : Int) = ((3 * k : Nat) : Int) := by omega
      have m3 : ((3 * k : Nat) : Int) + 1 = ((3 * k + 1 : Nat) : Int) := by omega
      by_cases hc : 0 < k ∧ at8 s (3 * k - 1) ≠ 58
      · have HF : Hid (prTo s n = none) := Lib.hid (prTo_fail s k n hlt (by unfold pairAt; rw [if_pos hc]))
        obtain ⟨hk0, hne⟩ := hc
        have h3c : 3 * k - 1 < s.size := by omega
        have m2 : ((3 * k : Nat) : Int) - 1 = ((3 * k - 1 : Nat) : Int) := by omega
        rw [at8_get s (3 * k - 1) h3c] at hne
        have hbq : ((s[3 * k - 1].toNat : Int) != 58) = true := by simpa using hne
        clear hne m3 h3b
        have hp48 : 3 * k < 48 := by omega
        generalize 3 * k - 1 = c at *
        generalize 3 * k = a at *
        clear HB HD HB0
        go_wp2
        go_ret2
        exact ⟨HL.out, by rw [HF.out]; rfl⟩
      · have HNo : Hid (hexD (s[3 * k].toNat : Int) = none ∨ hexD (s[3 * k + 1].toNat : Int) = none → prTo s n = none) := Lib.hid (fun h => prTo_fail s k n hlt (by
          unfold pairAt
          rw [if_neg hc, at8_get s _ h3a, at8_get s _ h3b]
          rcases h with h | h
          · rw [h]; rfl
          · rw [h]; cases hexD (s[3 * k].toNat : Int) <;> rfl))
        have HYes : Hid (∀ x y, hexD (s[3 * k].toNat : Int) = some x → hexD (s[3 * k + 1].toNat : Int) = some y → prTo s (k + 1) = some (ds ++ [16 * x + y])) := Lib.hid (fun x y h1 h2 => by
          unfold prTo
          rw [HD.out]
          unfold pairAt
          rw [if_neg hc, at8_get s _ h3a, at8_get s _ h3b, h1, h2]
          rfl)
        have ha256 : (s[3 * k].toNat : Int) < 256 := by have := s[3 * k].toNat_lt; omega
        have hb256 : (s[3 * k + 1].toNat : Int) < 256 := by have := s[3 * k + 1].toNat_lt; omega
        have hp48 : 3 * k < 48 := by omega
        have w3k : IntKind.i64.wrap ((3 * k : Nat) : Int) = ((3 * k : Nat) : Int) := by rw [IntWalk.i64_in _ (by omega)]
        have w3k1 : IntKind.i64.wrap ((3 * k + 1 : Nat) : Int) = ((3 * k + 1 : Nat) : Int) := by rw [IntWalk.i64_in _ (by omega)]
        rcases Nat.eq_zero_or_pos k with hk0 | hk0
        · have hkz : ¬ (k : Int) > 0 := by omega
          clear hc hk0
          generalize 3 * k + 1 = b at *
          generalize 3 * k = a at *
          go_wp2
          refine wp_region_held_drew (S := fun w' => Blk w' w.heap.size 5 (u8s (ds ++ List.replicate (n - k) 0)).toArray ∧ Below w.heap.size w w') (by kernel_rfl) (⟨HB.out, below_drewN HL.out 1⟩) (fun hS => ?_)
          refine wpAnyH_take (i := 0) (oi := ⟨some 33, _, _, _, _, _⟩) (v := ?_) rfl (by kernel_rfl) (by kernel_rfl) (by kernel_rfl) (fun _ _ _ h => h) (Or.inl ⟨by rfl, ?_⟩) hS ?_
          rotate_left
          · intro wq hq
            first | (go_simp; done) | (go_simp; rfl)
          try simp only [Act.put, List.setIfInBounds_toArray, List.set_cons_zero, List.set_cons_succ]
          refine wpAnyH_take (i := 1) (oi := ⟨some 34, _, _, _, _, _⟩) (v := ?_) rfl (by kernel_rfl) (by kernel_rfl) (by kernel_rfl) (fun _ _ _ h => h) (Or.inl ⟨by rfl, ?_⟩) hS ?_
          rotate_left
          · intro wq hq
            first | (go_simp; done) | (go_simp; rfl)
          try simp only [Act.put, List.setIfInBounds_toArray, List.set_cons_zero, List.set_cons_succ]
          refine wpAnyH_take (i := 2) (oi := ⟨some 35, _, _, _, _, _⟩) (v := ?_) rfl (by kernel_rfl) (by kernel_rfl) (by kernel_rfl) (fun _ _ _ h => h) (Or.inl ⟨by rfl, ?_⟩) hS ?_
          rotate_left
          · intro wq hq
            first | (go_simp; done) | (go_simp; rfl)
          try simp only [Act.put, List.setIfInBounds_toArray, List.set_cons_zero, List.set_cons_succ]
          refine wpAnyH_take (i := 3) (oi := ⟨some 36, _, _, _, _, _⟩) (v := ?_) rfl (by kernel_rfl) (by kernel_rfl) (by kernel_rfl) (fun _ _ _ h => h) (Or.inl ⟨by rfl, ?_⟩) hS ?_
          rotate_left
          · intro wq hq
            first | (go_simp; done) | (go_simp; rfl)
          try simp only [Act.put, List.setIfInBounds_toArray, List.set_cons_zero, List.set_cons_succ]
          refine wpAnyH_take (i := 5) (oi := ⟨some 38, _, _, _, _, _⟩) (v := ?_) rfl (by kernel_rfl) (by kernel_rfl) (by kernel_rfl) (fun _ _ _ h => h) (Or.inl ⟨by rfl, ?_⟩) hS ?_
          rotate_left
          · intro wq hq
            first | (go_simp; done) | (go_simp; rfl)
          try simp only [Act.put, List.setIfInBounds_toArray, List.set_cons_zero, List.set_cons_succ]
          refine wpAnyH_take (i := 6) (oi := ⟨some 39, _, _, _, _, _⟩) (v := ?_) rfl (by kernel_rfl) (by kernel_rfl) (by kernel_rfl) (fun _ _ _ h => h) (Or.inl ⟨by rfl, ?_⟩) hS ?_
          rotate_left
          · intro wq hq
            first | (go_simp; done) | (go_simp; rfl)
          try simp only [Act.put, List.setIfInBounds_toArray, List.set_cons_zero, List.set_cons_succ]
          refine wpAnyH_take (i := 7) (oi := ⟨some 40, _, _, _, _, _⟩) (v := ?_) rfl (by kernel_rfl) (by kernel_rfl) (by kernel_rfl) (fun _ _ _ h => h) (Or.inl ⟨by rfl, ?_⟩) hS ?_
          rotate_left
          · intro wq hq
            first | (go_simp; done) | (go_simp; rfl)
          try simp only [Act.put, List.setIfInBounds_toArray, List.set_cons_zero, List.set_cons_succ]
          refine wpAnyH_take (i := 8) (oi := ⟨some 41, _, _, _, _, _⟩) (v := ?_) rfl (by kernel_rfl) (by kernel_rfl) (by kernel_rfl) (fun _ _ _ h => h) (Or.inl ⟨by rfl, ?_⟩) hS ?_
          rotate_left
          · intro wq hq
            first | (go_simp; done) | (go_simp; rfl)
          try simp only [Act.put, List.setIfInBounds_toArray, List.set_cons_zero, List.set_cons_succ]
          refine wpAnyH_take (i := 9) (oi := ⟨some 42, _, _, _, _, _⟩) (v := ?_) rfl (by kernel_rfl) (by kernel_rfl) (by kernel_rfl) (fun _ _ _ h => h) (Or.inl ⟨by rfl, ?_⟩) hS ?_
          rotate_left
          · intro wq hq
            first | (go_simp; done) | (go_simp; rfl)
          try simp only [Act.put, List.setIfInBounds_toArray, List.set_cons_zero, List.set_cons_succ]
          refine wpAnyH_ready (rs := [4]) (by kernel_rfl) (by simp) ?_
          refine AllReadyH.cons (o := ⟨some 37, _, _, _, _, _⟩) rfl (fun K hK => ?_) AllReadyH.nil
          rw [if_pos (by rfl)]
          go_wp2_with fail
          refine (digit_is _ (s[a].toNat : Int) (by omega) ha256).mono ?_
          rintro e w' ⟨rfl, rfl⟩
          have hS1 := hS
          refine hK.out _ _ (hS1) (fun hS => ?_)
          clear hK K
          try simp only [Act.put, List.setIfInBounds_toArray, List.set_cons_zero, List.set_cons_succ]
          refine wpAnyH_ready (rs := [10]) (by kernel_rfl) (by simp) ?_
          refine AllReadyH.cons (o := ⟨some 43, _, _, _, _, _⟩) rfl (fun K hK => ?_) AllReadyH.nil
          rw [if_pos (by rfl)]
          go_wp2_with fail
          refine (digit_is _ (s[b].toNat : Int) (by omega) hb256).mono ?_
          rintro e w' ⟨rfl, rfl⟩
          have hS2 := hS
          refine hK.out _ _ (hS2) (fun hS => ?_)
          clear hK K
          try simp only [Act.put, List.setIfInBounds_toArray, List.set_cons_zero, List.set_cons_succ]
          refine wpAnyH_take (i := 11) (oi := ⟨some 8, _, _, _, _, _⟩) (v := ?_) rfl (by kernel_rfl) (by kernel_rfl) (by kernel_rfl) (fun _ _ _ h => h) (Or.inl ⟨by rfl, ?_⟩) hS ?_
          rotate_left
          · intro wq hq
            first | (go_simp; done) | (go_simp; rfl)
          try simp only [Act.put, List.setIfInBounds_toArray, List.set_cons_zero, List.set_cons_succ]
          refine wpAnyH_take (i := 12) (oi := ⟨some 9, _, _, _, _, _⟩) (v := ?_) rfl (by kernel_rfl) (by kernel_rfl) (by kernel_rfl) (fun _ _ _ h => h) (Or.inl ⟨by rfl, ?_⟩) hS ?_
          rotate_left
          · intro wq hq
            first | (go_simp; done) | (go_simp; rfl)
          try simp only [Act.put, List.setIfInBounds_toArray, List.set_cons_zero, List.set_cons_succ]
          refine wpAnyH_done (by kernel_rfl) ?_ _
          have HB2 := Lib.hid hS.1
          have HL2 := Lib.hid hS.2
          clear hS hS1 hS2 HB HL
          have HB := HB2
          have HL := HL2
          clear HB2 HL2
          cases hd : hexD (s[a].toNat : Int) with
          | none =>
            have HF : Hid (prTo s n = none) := Lib.hid (HNo.out (.inl hd))
            clear hd HYes HNo
            generalize hv : (hexD (s[b].toNat : Int)).getD (-1) = v1
            clear hv
            simp only [Option.getD_none]
            go_wp2
            go_ret2
            exact ⟨HL.out, by rw [HF.out]; rfl⟩
          | some x =>
            have hx := hexD_bd hd
            have hx0 : ¬ x < 0 := by omega
            cases hd2 : hexD (s[b].toNat : Int) with
            | none =>
              have HF : Hid (prTo s n = none) := Lib.hid (HNo.out (.inr hd2))
              clear hd hd2 HYes HNo
              simp only [Option.getD_none, Option.getD_some]
              go_wp2
              go_ret2
              exact ⟨HL.out, by rw [HF.out]; rfl⟩
            | some y =>
              have hy := hexD_bd hd2
              have hy0 : ¬ y < 0 := by omega
              have HY := Lib.hid (HYes.out x y hd hd2)
              have hz : 0 ≤ 16 * x + y ∧ 16 * x + y < 256 := by omega
              have hc := HB.out.cell k
              rw [show (u8s (ds ++ List.replicate (n - k) 0)).toArray[k]? = some (.int .u8 0) from cell_mid ds n k hlen hlt] at hc
              have hf := HB.out.frozen k
              have hset := HB.out.set_ k (.int .u8 (16 * x + y))
              rw [set_mid ds n k (16 * x + y) hlen hlt] at hset
              have HSet := Lib.hid hset
              clear hset
              have HL2 := Lib.hid (HL.out.setCell (p := ⟨w.heap.size, k, none⟩) (Nat.le_refl _) (.int .u8 (16 * x + y)))
              have hw8 : IntKind.u8.wrap (16 * x + y) = 16 * x + y := by rw [IntKind.wrap_u8]; exact Int.emod_eq_of_lt hz.1 hz.2
              clear hd hd2 HYes HNo HB0
              simp only [Option.getD_some]
              go_wp2
              exact ⟨⟨k + 1, ds ++ [16 * x + y], by omega, by go_num, HY.out, HSet.out, HL2.out⟩, by simp [intOf]; omega⟩
        · have hq : at8 s (3 * k - 1) = 58 := Classical.byContradiction fun h => hc ⟨hk0, h⟩
          have h3c : 3 * k - 1 < s.size := by omega
          have m2 : ((3 * k : Nat) : Int) - 1 = ((3 * k - 1 : Nat) : Int) := by omega
          rw [at8_get s (3 * k - 1) h3c] at hq
          have hbq : ((s[3 * k - 1].toNat : Int) != 58) = false := by simpa using hq
          clear hq hc
          generalize 3 * k - 1 = c at *
          generalize 3 * k + 1 = b at *
          generalize 3 * k = a at *
          go_wp2
          refine wp_region_held_drew (S := fun w' => Blk w' w.heap.size 5 (u8s (ds ++ List.replicate (n - k) 0)).toArray ∧ Below w.heap.size w w') (by kernel_rfl) (⟨HB.out, below_drewN HL.out 1⟩) (fun hS => ?_)
          refine wpAnyH_take (i := 0) (oi := ⟨some 33, _, _, _, _, _⟩) (v := ?_) rfl (by kernel_rfl) (by kernel_rfl) (by kernel_rfl) (fun _ _ _ h => h) (Or.inl ⟨by rfl, ?_⟩) hS ?_
          rotate_left
          · intro wq hq
            first | (go_simp; done) | (go_simp; rfl)
          try simp only [Act.put, List.setIfInBounds_toArray, List.set_cons_zero, List.set_cons_succ]
          refine wpAnyH_take (i := 1) (oi := ⟨some 34, _, _, _, _, _⟩) (v := ?_) rfl (by kernel_rfl) (by kernel_rfl) (by kernel_rfl) (fun _ _ _ h => h) (Or.inl ⟨by rfl, ?_⟩) hS ?_
          rotate_left
          · intro wq hq
            first | (go_simp; done) | (go_simp; rfl)
          try simp only [Act.put, List.setIfInBounds_toArray, List.set_cons_zero, List.set_cons_succ]
          refine wpAnyH_take (i := 2) (oi := ⟨some 35, _, _, _, _, _⟩) (v := ?_) rfl (by kernel_rfl) (by kernel_rfl) (by kernel_rfl) (fun _ _ _ h => h) (Or.inl ⟨by rfl, ?_⟩) hS ?_
          rotate_left
          · intro wq hq
            first | (go_simp; done) | (go_simp; rfl)
          try simp only [Act.put, List.setIfInBounds_toArray, List.set_cons_zero, List.set_cons_succ]
          refine wpAnyH_take (i := 3) (oi := ⟨some 36, _, _, _, _, _⟩) (v := ?_) rfl (by kernel_rfl) (by kernel_rfl) (by kernel_rfl) (fun _ _ _ h => h) (Or.inl ⟨by rfl, ?_⟩) hS ?_
          rotate_left
          · intro wq hq
            first | (go_simp; done) | (go_simp; rfl)
          try simp only [Act.put, List.setIfInBounds_toArray, List.set_cons_zero, List.set_cons_succ]
          refine wpAnyH_take (i := 5) (oi := ⟨some 38, _, _, _, _, _⟩) (v := ?_) rfl (by kernel_rfl) (by kernel_rfl) (by kernel_rfl) (fun _ _ _ h => h) (Or.inl ⟨by rfl, ?_⟩) hS ?_
          rotate_left
          · intro wq hq
            first | (go_simp; done) | (go_simp; rfl)
          try simp only [Act.put, List.setIfInBounds_toArray, List.set_cons_zero, List.set_cons_succ]
          refine wpAnyH_take (i := 6) (oi := ⟨some 39, _, _, _, _, _⟩) (v := ?_) rfl (by kernel_rfl) (by kernel_rfl) (by kernel_rfl) (fun _ _ _ h => h) (Or.inl ⟨by rfl, ?_⟩) hS ?_
          rotate_left
          · intro wq hq
            first | (go_simp; done) | (go_simp; rfl)
          try simp only [Act.put, List.setIfInBounds_toArray, List.set_cons_zero, List.set_cons_succ]
          refine wpAnyH_take (i := 7) (oi := ⟨some 40, _, _, _, _, _⟩) (v := ?_) rfl (by kernel_rfl) (by kernel_rfl) (by kernel_rfl) (fun _ _ _ h => h) (Or.inl ⟨by rfl, ?_⟩) hS ?_
          rotate_left
          · intro wq hq
            first | (go_simp; done) | (go_simp; rfl)
          try simp only [Act.put, List.setIfInBounds_toArray, List.set_cons_zero, List.set_cons_succ]
          refine wpAnyH_take (i := 8) (oi := ⟨some 41, _, _, _, _, _⟩) (v := ?_) rfl (by kernel_rfl) (by kernel_rfl) (by kernel_rfl) (fun _ _ _ h => h) (Or.inl ⟨by rfl, ?_⟩) hS ?_
          rotate_left
          · intro wq hq
            first | (go_simp; done) | (go_simp; rfl)
          try simp only [Act.put, List.setIfInBounds_toArray, List.set_cons_zero, List.set_cons_succ]
          refine wpAnyH_take (i := 9) (oi := ⟨some 42, _, _, _, _, _⟩) (v := ?_) rfl (by kernel_rfl) (by kernel_rfl) (by kernel_rfl) (fun _ _ _ h => h) (Or.inl ⟨by rfl, ?_⟩) hS ?_
          rotate_left
          · intro wq hq
            first | (go_simp; done) | (go_simp; rfl)
          try simp only [Act.put, List.setIfInBounds_toArray, List.set_cons_zero, List.set_cons_succ]
          refine wpAnyH_ready (rs := [4]) (by kernel_rfl) (by simp) ?_
          refine AllReadyH.cons (o := ⟨some 37, _, _, _, _, _⟩) rfl (fun K hK => ?_) AllReadyH.nil
          rw [if_pos (by rfl)]
          go_wp2_with fail
          refine (digit_is _ (s[a].toNat : Int) (by omega) ha256).mono ?_
          rintro e w' ⟨rfl, rfl⟩
          have hS1 := hS
          refine hK.out _ _ (hS1) (fun hS => ?_)
          clear hK K
          try simp only [Act.put, List.setIfInBounds_toArray, List.set_cons_zero, List.set_cons_succ]
          refine wpAnyH_ready (rs := [10]) (by kernel_rfl) (by simp) ?_
          refine AllReadyH.cons (o := ⟨some 43, _, _, _, _, _⟩) rfl (fun K hK => ?_) AllReadyH.nil
          rw [if_pos (by rfl)]
          go_wp2_with fail
          refine (digit_is _ (s[b].toNat : Int) (by omega) hb256).mono ?_
          rintro e w' ⟨rfl, rfl⟩
          have hS2 := hS
          refine hK.out _ _ (hS2) (fun hS => ?_)
          clear hK K
          try simp only [Act.put, List.setIfInBounds_toArray, List.set_cons_zero, List.set_cons_succ]
          refine wpAnyH_take (i := 11) (oi := ⟨some 8, _, _, _, _, _⟩) (v := ?_) rfl (by kernel_rfl) (by kernel_rfl) (by kernel_rfl) (fun _ _ _ h => h) (Or.inl ⟨by rfl, ?_⟩) hS ?_
          rotate_left
          · intro wq hq
            first | (go_simp; done) | (go_simp; rfl)
          try simp only [Act.put, List.setIfInBounds_toArray, List.set_cons_zero, List.set_cons_succ]
          refine wpAnyH_take (i := 12) (oi := ⟨some 9, _, _, _, _, _⟩) (v := ?_) rfl (by kernel_rfl) (by kernel_rfl) (by kernel_rfl) (fun _ _ _ h => h) (Or.inl ⟨by rfl, ?_⟩) hS ?_
          rotate_left
          · intro wq hq
            first | (go_simp; done) | (go_simp; rfl)
          try simp only [Act.put, List.setIfInBounds_toArray, List.set_cons_zero, List.set_cons_succ]
          refine wpAnyH_done (by kernel_rfl) ?_ _
          have HB2 := Lib.hid hS.1
          have HL2 := Lib.hid hS.2
          clear hS hS1 hS2 HB HL
          have HB := HB2
          have HL := HL2
          clear HB2 HL2
          cases hd : hexD (s[a].toNat : Int) with
          | none =>
            have HF : Hid (prTo s n = none) := Lib.hid (HNo.out (.inl hd))
            clear hd HYes HNo
            generalize hv : (hexD (s[b].toNat : Int)).getD (-1) = v1
            clear hv
            simp only [Option.getD_none]
            go_wp2
            go_ret2
            exact ⟨HL.out, by rw [HF.out]; rfl⟩
          | some x =>
            have hx := hexD_bd hd
            have hx0 : ¬ x < 0 := by omega
            cases hd2 : hexD (s[b].toNat : Int) with
            | none =>
              have HF : Hid (prTo s n = none) := Lib.hid (HNo.out (.inr hd2))
              clear hd hd2 HYes HNo
              simp only [Option.getD_none, Option.getD_some]
              go_wp2
              go_ret2
              exact ⟨HL.out, by rw [HF.out]; rfl⟩
            | some y =>
              have hy := hexD_bd hd2
              have hy0 : ¬ y < 0 := by omega
              have HY := Lib.hid (HYes.out x y hd hd2)
              have hz : 0 ≤ 16 * x + y ∧ 16 * x + y < 256 := by omega
              have hc := HB.out.cell k
              rw [show (u8s (ds ++ List.replicate (n - k) 0)).toArray[k]? = some (.int .u8 0) from cell_mid ds n k hlen hlt] at hc
              have hf := HB.out.frozen k
              have hset := HB.out.set_ k (.int .u8 (16 * x + y))
              rw [set_mid ds n k (16 * x + y) hlen hlt] at hset
              have HSet := Lib.hid hset
              clear hset
              have HL2 := Lib.hid (HL.out.setCell (p := ⟨w.heap.size, k, none⟩) (Nat.le_refl _) (.int .u8 (16 * x + y)))
              have hw8 : IntKind.u8.wrap (16 * x + y) = 16 * x + y := by rw [IntKind.wrap_u8]; exact Int.emod_eq_of_lt hz.1 hz.2
              clear hd hd2 HYes HNo HB0
              simp only [Option.getD_some]
              go_wp2
              exact ⟨⟨k + 1, ds ++ [16 * x + y], by omega, by go_num, HY.out, HSet.out, HL2.out⟩, by simp [intOf]; omega⟩
    · obtain rfl : k = n := by omega
      have HDn : Hid (prTo s k = some ds) := HD
      rw [Nat.sub_self, List.replicate_zero, List.append_nil] at HB
      clear HD
      go_wp2
      go_ret2
      exact ⟨HL.out, by rw [HDn.out]; exact ⟨rfl, HB.out⟩⟩
end Go.Proofs.YtfapmedlnaikiaaDoor
