/-
  AddrOrder: the walk.
-/
import Derived.Test.YtoacmeijfipniaaDoorOrdA
import Derived.Deep.RegionHeld3
namespace Go.Proofs.YtoacmeijfipniaaDoor
open Go.RowKit
set_option linter.unusedSimpArgs false
set_option linter.unusedVariables false

set_option maxHeartbeats 16000000 in
set_option maxRecDepth 100000 in
theorem addrOrder_walk (w : World) (E : Env w) (va : Bool) (la : List Int) (vb : Bool) (lb : List Int) (vc : Bool) (lc : List Int) (n k : Int) (ha : la.length = 16) (oa : Oct la) (hb : lb.length = 16) (ob : Oct lb) (hc : lc.length = 16) (oc : Oct lc) (hn : 0 ≤ n ∧ n ≤ 4294967295) (hk : 0 ≤ k ∧ k ≤ 4294967295) :
    Calls Tryd.prog 9 #[.agg (ipc va la).toArray, .agg (ipc vb lb).toArray, .agg (ipc vc lc).toArray, .int .u32 n, .int .u32 k] w fun e w' => e = .returned (.bool true) ∧ Below w.heap.size w w' := by
  have hA := ((Blk.new w 37 (ipc va la).toArray).alloc (.cells (ipc vb lb).toArray 37)).alloc (.cells (ipc vc lc).toArray 37)
  have hB := (Blk.new (w.alloc (.cells (ipc va la).toArray 37)) 37 (ipc vb lb).toArray).alloc (.cells (ipc vc lc).toArray 37)
  have hC := Blk.new ((w.alloc (.cells (ipc va la).toArray 37)).alloc (.cells (ipc vb lb).toArray 37)) 37 (ipc vc lc).toArray
  rw [show (w.alloc (.cells (ipc va la).toArray 37)).heap.size = w.heap.size + 1 by simp] at hB
  rw [show ((w.alloc (.cells (ipc va la).toArray 37)).alloc (.cells (ipc vb lb).toArray 37)).heap.size = w.heap.size + 1 + 1 by simp] at hC
  have HA := Lib.hid hA
  have HB := Lib.hid hB
  have HC := Lib.hid hC
  clear hA hB hC
  go_enter Tryd.func9, Tryd.ntmps9
  go_wp2
  refine wp_region_held_drew (S := fun w' => Blk w' w.heap.size 37 (ipc va la).toArray ∧ Blk w' (w.heap.size + 1) 37 (ipc vb lb).toArray ∧ Blk w' (w.heap.size + 1 + 1) 37 (ipc vc lc).toArray ∧ Below w.heap.size w w') (by kernel_rfl) (⟨HA.out, HB.out, HC.out, below_drewN ((((Below.refl w.heap.size w).alloc (Nat.le_refl _) _).alloc (by simp) _).alloc (by simp; omega) _) 1⟩) (fun hS => ?_)
  clear HA HB HC
  refine wpAnyH_take (i := 0) (oi := ⟨some 15, _, _, _, _, _⟩) rfl (by kernel_rfl) (by kernel_rfl) (by kernel_rfl) (fun _ _ _ h => h) (yieldsIf_load_mid (by rfl) 37 _ rfl _ _ rfl (ipc va la) _ (fun wq hq => hq.1.range) Tryd.underlying37 rfl (ip_size va la ha)) hS ?_
  try simp only [Act.put, List.setIfInBounds_toArray, List.set_cons_zero, List.set_cons_succ]
  refine wpAnyH_take (i := 1) (oi := ⟨some 16, _, _, _, _, _⟩) rfl (by kernel_rfl) (by kernel_rfl) (by kernel_rfl) (fun _ _ _ h => h) (yieldsIf_load_mid (by rfl) 37 _ rfl _ _ rfl (ipc vb lb) _ (fun wq hq => hq.2.1.range) Tryd.underlying37 rfl (ip_size vb lb hb)) hS ?_
  try simp only [Act.put, List.setIfInBounds_toArray, List.set_cons_zero, List.set_cons_succ]
  refine wpAnyH_take (i := 3) (oi := ⟨some 18, _, _, _, _, _⟩) rfl (by kernel_rfl) (by kernel_rfl) (by kernel_rfl) (fun _ _ _ h => h) (yieldsIf_load_mid (by rfl) 37 _ rfl _ _ rfl (ipc vb lb) _ (fun wq hq => hq.2.1.range) Tryd.underlying37 rfl (ip_size vb lb hb)) hS ?_
  try simp only [Act.put, List.setIfInBounds_toArray, List.set_cons_zero, List.set_cons_succ]
  refine wpAnyH_take (i := 4) (oi := ⟨some 19, _, _, _, _, _⟩) rfl (by kernel_rfl) (by kernel_rfl) (by kernel_rfl) (fun _ _ _ h => h) (yieldsIf_load_mid (by rfl) 37 _ rfl _ _ rfl (ipc va la) _ (fun wq hq => hq.1.range) Tryd.underlying37 rfl (ip_size va la ha)) hS ?_
  try simp only [Act.put, List.setIfInBounds_toArray, List.set_cons_zero, List.set_cons_succ]
  refine wpAnyH_take (i := 6) (oi := ⟨some 21, _, _, _, _, _⟩) rfl (by kernel_rfl) (by kernel_rfl) (by kernel_rfl) (fun _ _ _ h => h) (yieldsIf_load_mid (by rfl) 37 _ rfl _ _ rfl (ipc vb lb) _ (fun wq hq => hq.2.1.range) Tryd.underlying37 rfl (ip_size vb lb hb)) hS ?_
  try simp only [Act.put, List.setIfInBounds_toArray, List.set_cons_zero, List.set_cons_succ]
  refine wpAnyH_take (i := 7) (oi := ⟨some 22, _, _, _, _, _⟩) rfl (by kernel_rfl) (by kernel_rfl) (by kernel_rfl) (fun _ _ _ h => h) (yieldsIf_load_mid (by rfl) 37 _ rfl _ _ rfl (ipc vc lc) _ (fun wq hq => hq.2.2.1.range) Tryd.underlying37 rfl (ip_size vc lc hc)) hS ?_
  try simp only [Act.put, List.setIfInBounds_toArray, List.set_cons_zero, List.set_cons_succ]
  refine wpAnyH_take (i := 9) (oi := ⟨some 24, _, _, _, _, _⟩) rfl (by kernel_rfl) (by kernel_rfl) (by kernel_rfl) (fun _ _ _ h => h) (yieldsIf_load_mid (by rfl) 37 _ rfl _ _ rfl (ipc va la) _ (fun wq hq => hq.1.range) Tryd.underlying37 rfl (ip_size va la ha)) hS ?_
  try simp only [Act.put, List.setIfInBounds_toArray, List.set_cons_zero, List.set_cons_succ]
  refine wpAnyH_take (i := 10) (oi := ⟨some 25, _, _, _, _, _⟩) rfl (by kernel_rfl) (by kernel_rfl) (by kernel_rfl) (fun _ _ _ h => h) (yieldsIf_load_mid (by rfl) 37 _ rfl _ _ rfl (ipc vc lc) _ (fun wq hq => hq.2.2.1.range) Tryd.underlying37 rfl (ip_size vc lc hc)) hS ?_
  try simp only [Act.put, List.setIfInBounds_toArray, List.set_cons_zero, List.set_cons_succ]
  refine wpAnyH_ready (rs := [2]) (by kernel_rfl) (by simp) ?_
  refine AllReadyH.cons (o := ⟨some 17, _, _, _, _, _⟩) rfl (fun K hK => ?_) AllReadyH.nil
  rw [if_pos (by rfl)]
  go_wp2_with fail
  refine (cmp_is _ va la vb lb ha oa hb ob).mono ?_
  rintro e w17 ⟨rfl, hB17⟩
  have hS17 := (⟨hS.1.below hB17 hS.1.lt, hS.2.1.below hB17 hS.2.1.lt, hS.2.2.1.below hB17 hS.2.2.1.lt, hS.2.2.2.trans (hB17.mono hS.2.2.2.size)⟩ : Blk w17 w.heap.size 37 (ipc va la).toArray ∧ Blk w17 (w.heap.size + 1) 37 (ipc vb lb).toArray ∧ Blk w17 (w.heap.size + 1 + 1) 37 (ipc vc lc).toArray ∧ Below w.heap.size w w17)
  clear hB17 hS
  refine hK.out _ _ (hS17) (fun hS => ?_)
  clear hK K
  try simp only [Act.put, List.setIfInBounds_toArray, List.set_cons_zero, List.set_cons_succ]
  clear hS17
  refine wpAnyH_ready (rs := [5]) (by kernel_rfl) (by simp) ?_
  refine AllReadyH.cons (o := ⟨some 20, _, _, _, _, _⟩) rfl (fun K hK => ?_) AllReadyH.nil
  rw [if_pos (by rfl)]
  go_wp2_with fail
  refine (cmp_is _ vb lb va la hb ob ha oa).mono ?_
  rintro e w20 ⟨rfl, hB20⟩
  have hS20 := (⟨hS.1.below hB20 hS.1.lt, hS.2.1.below hB20 hS.2.1.lt, hS.2.2.1.below hB20 hS.2.2.1.lt, hS.2.2.2.trans (hB20.mono hS.2.2.2.size)⟩ : Blk w20 w.heap.size 37 (ipc va la).toArray ∧ Blk w20 (w.heap.size + 1) 37 (ipc vb lb).toArray ∧ Blk w20 (w.heap.size + 1 + 1) 37 (ipc vc lc).toArray ∧ Below w.heap.size w w20)
  clear hB20 hS
  refine hK.out _ _ (hS20) (fun hS => ?_)
  clear hK K
  try simp only [Act.put, List.setIfInBounds_toArray, List.set_cons_zero, List.set_cons_succ]
  clear hS20
  refine wpAnyH_ready (rs := [8]) (by kernel_rfl) (by simp) ?_
  refine AllReadyH.cons (o := ⟨some 23, _, _, _, _, _⟩) rfl (fun K hK => ?_) AllReadyH.nil
  rw [if_pos (by rfl)]
  go_wp2_with fail
  refine (cmp_is _ vb lb vc lc hb ob hc oc).mono ?_
  rintro e w23 ⟨rfl, hB23⟩
  have hS23 := (⟨hS.1.below hB23 hS.1.lt, hS.2.1.below hB23 hS.2.1.lt, hS.2.2.1.below hB23 hS.2.2.1.lt, hS.2.2.2.trans (hB23.mono hS.2.2.2.size)⟩ : Blk w23 w.heap.size 37 (ipc va la).toArray ∧ Blk w23 (w.heap.size + 1) 37 (ipc vb lb).toArray ∧ Blk w23 (w.heap.size + 1 + 1) 37 (ipc vc lc).toArray ∧ Below w.heap.size w w23)
  clear hB23 hS
  refine hK.out _ _ (hS23) (fun hS => ?_)
  clear hK K
  try simp only [Act.put, List.setIfInBounds_toArray, List.set_cons_zero, List.set_cons_succ]
  clear hS23
  refine wpAnyH_ready (rs := [11]) (by kernel_rfl) (by simp) ?_
  refine AllReadyH.cons (o := ⟨some 26, _, _, _, _, _⟩) rfl (fun K hK => ?_) AllReadyH.nil
  rw [if_pos (by rfl)]
  go_wp2_with fail
  refine (cmp_is _ va la vc lc ha oa hc oc).mono ?_
  rintro e w26 ⟨rfl, hB26⟩
  have hS26 := (⟨hS.1.below hB26 hS.1.lt, hS.2.1.below hB26 hS.2.1.lt, hS.2.2.1.below hB26 hS.2.2.1.lt, hS.2.2.2.trans (hB26.mono hS.2.2.2.size)⟩ : Blk w26 w.heap.size 37 (ipc va la).toArray ∧ Blk w26 (w.heap.size + 1) 37 (ipc vb lb).toArray ∧ Blk w26 (w.heap.size + 1 + 1) 37 (ipc vc lc).toArray ∧ Below w.heap.size w w26)
  clear hB26 hS
  refine hK.out _ _ (hS26) (fun hS => ?_)
  clear hK K
  try simp only [Act.put, List.setIfInBounds_toArray, List.set_cons_zero, List.set_cons_succ]
  clear hS26
  refine wpAnyH_take (i := 12) (oi := ⟨some 11, _, _, _, _, _⟩) (v := ?_) rfl (by kernel_rfl) (by kernel_rfl) (by kernel_rfl) (fun _ _ _ h => h) (Or.inl ⟨by rfl, ?_⟩) hS ?_
  rotate_left
  · intro wq hq
    first | (go_simp; done) | (go_simp; rfl)
  try simp only [Act.put, List.setIfInBounds_toArray, List.set_cons_zero, List.set_cons_succ]
  refine wpAnyH_take (i := 13) (oi := ⟨some 12, _, _, _, _, _⟩) (v := ?_) rfl (by kernel_rfl) (by kernel_rfl) (by kernel_rfl) (fun _ _ _ h => h) (Or.inl ⟨by rfl, ?_⟩) hS ?_
  rotate_left
  · intro wq hq
    first | (go_simp; done) | (go_simp; rfl)
  try simp only [Act.put, List.setIfInBounds_toArray, List.set_cons_zero, List.set_cons_succ]
  refine wpAnyH_take (i := 14) (oi := ⟨some 13, _, _, _, _, _⟩) (v := ?_) rfl (by kernel_rfl) (by kernel_rfl) (by kernel_rfl) (fun _ _ _ h => h) (Or.inl ⟨by rfl, ?_⟩) hS ?_
  rotate_left
  · intro wq hq
    first | (go_simp; done) | (go_simp; rfl)
  try simp only [Act.put, List.setIfInBounds_toArray, List.set_cons_zero, List.set_cons_succ]
  refine wpAnyH_take (i := 15) (oi := ⟨some 14, _, _, _, _, _⟩) (v := ?_) rfl (by kernel_rfl) (by kernel_rfl) (by kernel_rfl) (fun _ _ _ h => h) (Or.inl ⟨by rfl, ?_⟩) hS ?_
  rotate_left
  · intro wq hq
    first | (go_simp; done) | (go_simp; rfl)
  try simp only [Act.put, List.setIfInBounds_toArray, List.set_cons_zero, List.set_cons_succ]
  refine wpAnyH_done (by kernel_rfl) ?_ _
  have HA := Lib.hid hS.1
  have HB := Lib.hid hS.2.1
  have HS := Lib.hid hS.2.2.2
  have HF := Lib.hid (ord_four n k hn hk)
  clear hS
  have hsw := ord_swap va la vb lb
  have hr := ord_range va la vb lb
  have hz := ord_zero va la vb lb
  have ht := ord_trans va la vb lb vc lc
  have hd := ord_down va la vb lb vc lc
  have he := fun b hb' => ip_eql va vb la lb ha hb oa ob b hb'
  generalize cmpIp va la vb lb = x at *
  generalize cmpIp vb lb va la = y at *
  generalize cmpIp vb lb vc lc = z at *
  generalize cmpIp va la vc lc = u at *
  subst hsw
  have hx3 : x = -1 ∨ x = 0 ∨ x = 1 := by omega
  rcases hx3 with rfl | rfl | rfl
  · have HE := he false (decide_eq_false (fun h => absurd (hz.2 h) (by decide)))
    clear he hz hr
    rcases Int.lt_trichotomy z 0 with hz0 | rfl | hz0
    · have z1 : z ≤ 0 := by omega
      have z2 : ¬ z ≥ 0 := by omega
      have u1 : ¬ u > 0 := Int.not_lt.2 (ht (by omega) (by omega))
      clear ht hd
      go_wp2_with (first
        | (refine ip_fetch rfl _ rfl w.heap.size 0 va la ha rfl HA.out.range ?_)
        | (refine ip_fetch rfl _ rfl (w.heap.size + 1) 0 vb lb hb rfl HB.out.range ?_))
      refine (four_is _ n hn.1 (by omega)).mono ?_
      rintro e w6 ⟨rfl, hB6⟩
      have HS6 := Lib.hid (HS.out.trans (hB6.mono HS.out.size))
      clear hB6
      go_wp2_with fail
      refine (four_is _ k hk.1 (by omega)).mono ?_
      rintro e w7 ⟨rfl, hB7⟩
      have HS7 := Lib.hid (HS6.out.trans (hB7.mono HS6.out.size))
      clear hB7 HS6
      go_wp2_with fail
      refine (cmp_is _ false (four n) false (four k) (four_len n) (four_oct n hn.1 (by omega)) (four_len k) (four_oct k hk.1 (by omega))).mono ?_
      rintro e w8 ⟨rfl, hB8⟩
      have HS8 := Lib.hid (HS7.out.trans (hB8.mono HS7.out.size))
      have HAl := Lib.hid (alive_is _ (E.below HS8.out))
      have hz8 := HS8.out.size
      clear hB8 HS7
      have hm := HF.out
      clear HF
      generalize cmpIp false (four n) false (four k) = m at *
      by_cases hlt : n < k
      · have hm2 : m < 0 := hm.2 hlt
        clear hm
        go_wp2_with fail
        refine HAl.out.mono ?_
        rintro e w9 ⟨rfl, hB9⟩
        go_wp2
        go_ret
        exact ⟨rfl, HS8.out.trans (hB9.mono hz8)⟩
      · have hm2 : ¬ m < 0 := fun h => hlt (hm.1 h)
        clear hm
        go_wp2_with fail
        refine HAl.out.mono ?_
        rintro e w9 ⟨rfl, hB9⟩
        go_wp2
        go_ret
        exact ⟨rfl, HS8.out.trans (hB9.mono hz8)⟩
    · have u1 : ¬ u > 0 := Int.not_lt.2 (ht (by omega) (by omega))
      clear ht hd
      go_wp2_with (first
        | (refine ip_fetch rfl _ rfl w.heap.size 0 va la ha rfl HA.out.range ?_)
        | (refine ip_fetch rfl _ rfl (w.heap.size + 1) 0 vb lb hb rfl HB.out.range ?_))
      refine (four_is _ n hn.1 (by omega)).mono ?_
      rintro e w6 ⟨rfl, hB6⟩
      have HS6 := Lib.hid (HS.out.trans (hB6.mono HS.out.size))
      clear hB6
      go_wp2_with fail
      refine (four_is _ k hk.1 (by omega)).mono ?_
      rintro e w7 ⟨rfl, hB7⟩
      have HS7 := Lib.hid (HS6.out.trans (hB7.mono HS6.out.size))
      clear hB7 HS6
      go_wp2_with fail
      refine (cmp_is _ false (four n) false (four k) (four_len n) (four_oct n hn.1 (by omega)) (four_len k) (four_oct k hk.1 (by omega))).mono ?_
      rintro e w8 ⟨rfl, hB8⟩
      have HS8 := Lib.hid (HS7.out.trans (hB8.mono HS7.out.size))
      have HAl := Lib.hid (alive_is _ (E.below HS8.out))
      have hz8 := HS8.out.size
      clear hB8 HS7
      have hm := HF.out
      clear HF
      generalize cmpIp false (four n) false (four k) = m at *
      by_cases hlt : n < k
      · have hm2 : m < 0 := hm.2 hlt
        clear hm
        go_wp2_with fail
        refine HAl.out.mono ?_
        rintro e w9 ⟨rfl, hB9⟩
        go_wp2
        go_ret
        exact ⟨rfl, HS8.out.trans (hB9.mono hz8)⟩
      · have hm2 : ¬ m < 0 := fun h => hlt (hm.1 h)
        clear hm
        go_wp2_with fail
        refine HAl.out.mono ?_
        rintro e w9 ⟨rfl, hB9⟩
        go_wp2
        go_ret
        exact ⟨rfl, HS8.out.trans (hB9.mono hz8)⟩
    · have z1 : ¬ z ≤ 0 := by omega
      have z2 : z ≥ 0 := by omega
      clear ht hd
      go_wp2_with (first
        | (refine ip_fetch rfl _ rfl w.heap.size 0 va la ha rfl HA.out.range ?_)
        | (refine ip_fetch rfl _ rfl (w.heap.size + 1) 0 vb lb hb rfl HB.out.range ?_))
      refine (four_is _ n hn.1 (by omega)).mono ?_
      rintro e w6 ⟨rfl, hB6⟩
      have HS6 := Lib.hid (HS.out.trans (hB6.mono HS.out.size))
      clear hB6
      go_wp2_with fail
      refine (four_is _ k hk.1 (by omega)).mono ?_
      rintro e w7 ⟨rfl, hB7⟩
      have HS7 := Lib.hid (HS6.out.trans (hB7.mono HS6.out.size))
      clear hB7 HS6
      go_wp2_with fail
      refine (cmp_is _ false (four n) false (four k) (four_len n) (four_oct n hn.1 (by omega)) (four_len k) (four_oct k hk.1 (by omega))).mono ?_
      rintro e w8 ⟨rfl, hB8⟩
      have HS8 := Lib.hid (HS7.out.trans (hB8.mono HS7.out.size))
      have HAl := Lib.hid (alive_is _ (E.below HS8.out))
      have hz8 := HS8.out.size
      clear hB8 HS7
      have hm := HF.out
      clear HF
      generalize cmpIp false (four n) false (four k) = m at *
      by_cases hlt : n < k
      · have hm2 : m < 0 := hm.2 hlt
        clear hm
        go_wp2_with fail
        refine HAl.out.mono ?_
        rintro e w9 ⟨rfl, hB9⟩
        go_wp2
        go_ret
        exact ⟨rfl, HS8.out.trans (hB9.mono hz8)⟩
      · have hm2 : ¬ m < 0 := fun h => hlt (hm.1 h)
        clear hm
        go_wp2_with fail
        refine HAl.out.mono ?_
        rintro e w9 ⟨rfl, hB9⟩
        go_wp2
        go_ret
        exact ⟨rfl, HS8.out.trans (hB9.mono hz8)⟩
  · have HE := he true (decide_eq_true (hz.1 rfl))
    clear he hz hr
    rcases Int.lt_trichotomy z 0 with hz0 | rfl | hz0
    · have z1 : z ≤ 0 := by omega
      have z2 : ¬ z ≥ 0 := by omega
      have u1 : ¬ u > 0 := Int.not_lt.2 (ht (by omega) (by omega))
      clear ht hd
      go_wp2_with (first
        | (refine ip_fetch rfl _ rfl w.heap.size 0 va la ha rfl HA.out.range ?_)
        | (refine ip_fetch rfl _ rfl (w.heap.size + 1) 0 vb lb hb rfl HB.out.range ?_))
      refine (four_is _ n hn.1 (by omega)).mono ?_
      rintro e w6 ⟨rfl, hB6⟩
      have HS6 := Lib.hid (HS.out.trans (hB6.mono HS.out.size))
      clear hB6
      go_wp2_with fail
      refine (four_is _ k hk.1 (by omega)).mono ?_
      rintro e w7 ⟨rfl, hB7⟩
      have HS7 := Lib.hid (HS6.out.trans (hB7.mono HS6.out.size))
      clear hB7 HS6
      go_wp2_with fail
      refine (cmp_is _ false (four n) false (four k) (four_len n) (four_oct n hn.1 (by omega)) (four_len k) (four_oct k hk.1 (by omega))).mono ?_
      rintro e w8 ⟨rfl, hB8⟩
      have HS8 := Lib.hid (HS7.out.trans (hB8.mono HS7.out.size))
      have HAl := Lib.hid (alive_is _ (E.below HS8.out))
      have hz8 := HS8.out.size
      clear hB8 HS7
      have hm := HF.out
      clear HF
      generalize cmpIp false (four n) false (four k) = m at *
      by_cases hlt : n < k
      · have hm2 : m < 0 := hm.2 hlt
        clear hm
        go_wp2_with fail
        refine HAl.out.mono ?_
        rintro e w9 ⟨rfl, hB9⟩
        go_wp2
        go_ret
        exact ⟨rfl, HS8.out.trans (hB9.mono hz8)⟩
      · have hm2 : ¬ m < 0 := fun h => hlt (hm.1 h)
        clear hm
        go_wp2_with fail
        refine HAl.out.mono ?_
        rintro e w9 ⟨rfl, hB9⟩
        go_wp2
        go_ret
        exact ⟨rfl, HS8.out.trans (hB9.mono hz8)⟩
    · have u1 : ¬ u > 0 := Int.not_lt.2 (ht (by omega) (by omega))
      have u2 : ¬ u < 0 := Int.not_lt.2 (hd (by omega) (by omega))
      clear ht hd
      go_wp2_with (first
        | (refine ip_fetch rfl _ rfl w.heap.size 0 va la ha rfl HA.out.range ?_)
        | (refine ip_fetch rfl _ rfl (w.heap.size + 1) 0 vb lb hb rfl HB.out.range ?_))
      refine (four_is _ n hn.1 (by omega)).mono ?_
      rintro e w6 ⟨rfl, hB6⟩
      have HS6 := Lib.hid (HS.out.trans (hB6.mono HS.out.size))
      clear hB6
      go_wp2_with fail
      refine (four_is _ k hk.1 (by omega)).mono ?_
      rintro e w7 ⟨rfl, hB7⟩
      have HS7 := Lib.hid (HS6.out.trans (hB7.mono HS6.out.size))
      clear hB7 HS6
      go_wp2_with fail
      refine (cmp_is _ false (four n) false (four k) (four_len n) (four_oct n hn.1 (by omega)) (four_len k) (four_oct k hk.1 (by omega))).mono ?_
      rintro e w8 ⟨rfl, hB8⟩
      have HS8 := Lib.hid (HS7.out.trans (hB8.mono HS7.out.size))
      have HAl := Lib.hid (alive_is _ (E.below HS8.out))
      have hz8 := HS8.out.size
      clear hB8 HS7
      have hm := HF.out
      clear HF
      generalize cmpIp false (four n) false (four k) = m at *
      by_cases hlt : n < k
      · have hm2 : m < 0 := hm.2 hlt
        clear hm
        go_wp2_with fail
        refine HAl.out.mono ?_
        rintro e w9 ⟨rfl, hB9⟩
        go_wp2
        go_ret
        exact ⟨rfl, HS8.out.trans (hB9.mono hz8)⟩
      · have hm2 : ¬ m < 0 := fun h => hlt (hm.1 h)
        clear hm
        go_wp2_with fail
        refine HAl.out.mono ?_
        rintro e w9 ⟨rfl, hB9⟩
        go_wp2
        go_ret
        exact ⟨rfl, HS8.out.trans (hB9.mono hz8)⟩
    · have z1 : ¬ z ≤ 0 := by omega
      have z2 : z ≥ 0 := by omega
      have u2 : ¬ u < 0 := Int.not_lt.2 (hd (by omega) (by omega))
      clear ht hd
      go_wp2_with (first
        | (refine ip_fetch rfl _ rfl w.heap.size 0 va la ha rfl HA.out.range ?_)
        | (refine ip_fetch rfl _ rfl (w.heap.size + 1) 0 vb lb hb rfl HB.out.range ?_))
      refine (four_is _ n hn.1 (by omega)).mono ?_
      rintro e w6 ⟨rfl, hB6⟩
      have HS6 := Lib.hid (HS.out.trans (hB6.mono HS.out.size))
      clear hB6
      go_wp2_with fail
      refine (four_is _ k hk.1 (by omega)).mono ?_
      rintro e w7 ⟨rfl, hB7⟩
      have HS7 := Lib.hid (HS6.out.trans (hB7.mono HS6.out.size))
      clear hB7 HS6
      go_wp2_with fail
      refine (cmp_is _ false (four n) false (four k) (four_len n) (four_oct n hn.1 (by omega)) (four_len k) (four_oct k hk.1 (by omega))).mono ?_
      rintro e w8 ⟨rfl, hB8⟩
      have HS8 := Lib.hid (HS7.out.trans (hB8.mono HS7.out.size))
      have HAl := Lib.hid (alive_is _ (E.below HS8.out))
      have hz8 := HS8.out.size
      clear hB8 HS7
      have hm := HF.out
      clear HF
      generalize cmpIp false (four n) false (four k) = m at *
      by_cases hlt : n < k
      · have hm2 : m < 0 := hm.2 hlt
        clear hm
        go_wp2_with fail
        refine HAl.out.mono ?_
        rintro e w9 ⟨rfl, hB9⟩
        go_wp2
        go_ret
        exact ⟨rfl, HS8.out.trans (hB9.mono hz8)⟩
      · have hm2 : ¬ m < 0 := fun h => hlt (hm.1 h)
        clear hm
        go_wp2_with fail
        refine HAl.out.mono ?_
        rintro e w9 ⟨rfl, hB9⟩
        go_wp2
        go_ret
        exact ⟨rfl, HS8.out.trans (hB9.mono hz8)⟩
  · have HE := he false (decide_eq_false (fun h => absurd (hz.2 h) (by decide)))
    clear he hz hr
    rcases Int.lt_trichotomy z 0 with hz0 | rfl | hz0
    · have z1 : z ≤ 0 := by omega
      have z2 : ¬ z ≥ 0 := by omega
      clear ht hd
      go_wp2_with (first
        | (refine ip_fetch rfl _ rfl w.heap.size 0 va la ha rfl HA.out.range ?_)
        | (refine ip_fetch rfl _ rfl (w.heap.size + 1) 0 vb lb hb rfl HB.out.range ?_))
      refine (four_is _ n hn.1 (by omega)).mono ?_
      rintro e w6 ⟨rfl, hB6⟩
      have HS6 := Lib.hid (HS.out.trans (hB6.mono HS.out.size))
      clear hB6
      go_wp2_with fail
      refine (four_is _ k hk.1 (by omega)).mono ?_
      rintro e w7 ⟨rfl, hB7⟩
      have HS7 := Lib.hid (HS6.out.trans (hB7.mono HS6.out.size))
      clear hB7 HS6
      go_wp2_with fail
      refine (cmp_is _ false (four n) false (four k) (four_len n) (four_oct n hn.1 (by omega)) (four_len k) (four_oct k hk.1 (by omega))).mono ?_
      rintro e w8 ⟨rfl, hB8⟩
      have HS8 := Lib.hid (HS7.out.trans (hB8.mono HS7.out.size))
      have HAl := Lib.hid (alive_is _ (E.below HS8.out))
      have hz8 := HS8.out.size
      clear hB8 HS7
      have hm := HF.out
      clear HF
      generalize cmpIp false (four n) false (four k) = m at *
      by_cases hlt : n < k
      · have hm2 : m < 0 := hm.2 hlt
        clear hm
        go_wp2_with fail
        refine HAl.out.mono ?_
        rintro e w9 ⟨rfl, hB9⟩
        go_wp2
        go_ret
        exact ⟨rfl, HS8.out.trans (hB9.mono hz8)⟩
      · have hm2 : ¬ m < 0 := fun h => hlt (hm.1 h)
        clear hm
        go_wp2_with fail
        refine HAl.out.mono ?_
        rintro e w9 ⟨rfl, hB9⟩
        go_wp2
        go_ret
        exact ⟨rfl, HS8.out.trans (hB9.mono hz8)⟩
    · have u2 : ¬ u < 0 := Int.not_lt.2 (hd (by omega) (by omega))
      clear ht hd
      go_wp2_with (first
        | (refine ip_fetch rfl _ rfl w.heap.size 0 va la ha rfl HA.out.range ?_)
        | (refine ip_fetch rfl _ rfl (w.heap.size + 1) 0 vb lb hb rfl HB.out.range ?_))
      refine (four_is _ n hn.1 (by omega)).mono ?_
      rintro e w6 ⟨rfl, hB6⟩
      have HS6 := Lib.hid (HS.out.trans (hB6.mono HS.out.size))
      clear hB6
      go_wp2_with fail
      refine (four_is _ k hk.1 (by omega)).mono ?_
      rintro e w7 ⟨rfl, hB7⟩
      have HS7 := Lib.hid (HS6.out.trans (hB7.mono HS6.out.size))
      clear hB7 HS6
      go_wp2_with fail
      refine (cmp_is _ false (four n) false (four k) (four_len n) (four_oct n hn.1 (by omega)) (four_len k) (four_oct k hk.1 (by omega))).mono ?_
      rintro e w8 ⟨rfl, hB8⟩
      have HS8 := Lib.hid (HS7.out.trans (hB8.mono HS7.out.size))
      have HAl := Lib.hid (alive_is _ (E.below HS8.out))
      have hz8 := HS8.out.size
      clear hB8 HS7
      have hm := HF.out
      clear HF
      generalize cmpIp false (four n) false (four k) = m at *
      by_cases hlt : n < k
      · have hm2 : m < 0 := hm.2 hlt
        clear hm
        go_wp2_with fail
        refine HAl.out.mono ?_
        rintro e w9 ⟨rfl, hB9⟩
        go_wp2
        go_ret
        exact ⟨rfl, HS8.out.trans (hB9.mono hz8)⟩
      · have hm2 : ¬ m < 0 := fun h => hlt (hm.1 h)
        clear hm
        go_wp2_with fail
        refine HAl.out.mono ?_
        rintro e w9 ⟨rfl, hB9⟩
        go_wp2
        go_ret
        exact ⟨rfl, HS8.out.trans (hB9.mono hz8)⟩
    · have z1 : ¬ z ≤ 0 := by omega
      have z2 : z ≥ 0 := by omega
      have u2 : ¬ u < 0 := Int.not_lt.2 (hd (by omega) (by omega))
      clear ht hd
      go_wp2_with (first
        | (refine ip_fetch rfl _ rfl w.heap.size 0 va la ha rfl HA.out.range ?_)
        | (refine ip_fetch rfl _ rfl (w.heap.size + 1) 0 vb lb hb rfl HB.out.range ?_))
      refine (four_is _ n hn.1 (by omega)).mono ?_
      rintro e w6 ⟨rfl, hB6⟩
      have HS6 := Lib.hid (HS.out.trans (hB6.mono HS.out.size))
      clear hB6
      go_wp2_with fail
      refine (four_is _ k hk.1 (by omega)).mono ?_
      rintro e w7 ⟨rfl, hB7⟩
      have HS7 := Lib.hid (HS6.out.trans (hB7.mono HS6.out.size))
      clear hB7 HS6
      go_wp2_with fail
      refine (cmp_is _ false (four n) false (four k) (four_len n) (four_oct n hn.1 (by omega)) (four_len k) (four_oct k hk.1 (by omega))).mono ?_
      rintro e w8 ⟨rfl, hB8⟩
      have HS8 := Lib.hid (HS7.out.trans (hB8.mono HS7.out.size))
      have HAl := Lib.hid (alive_is _ (E.below HS8.out))
      have hz8 := HS8.out.size
      clear hB8 HS7
      have hm := HF.out
      clear HF
      generalize cmpIp false (four n) false (four k) = m at *
      by_cases hlt : n < k
      · have hm2 : m < 0 := hm.2 hlt
        clear hm
        go_wp2_with fail
        refine HAl.out.mono ?_
        rintro e w9 ⟨rfl, hB9⟩
        go_wp2
        go_ret
        exact ⟨rfl, HS8.out.trans (hB9.mono hz8)⟩
      · have hm2 : ¬ m < 0 := fun h => hlt (hm.1 h)
        clear hm
        go_wp2_with fail
        refine HAl.out.mono ?_
        rintro e w9 ⟨rfl, hB9⟩
        go_wp2
        go_ret
        exact ⟨rfl, HS8.out.trans (hB9.mono hz8)⟩
end Go.Proofs.YtoacmeijfipniaaDoor
