/-
  Layer 2 (addr): texts of addresses.
-/
import Derived.Test.YtkaimdcepnhkdaaDoorAdJ
import Derived.Test.YtkaimdcepnhkdaaDoorAdH
import Derived.IntWalk
namespace Go.Proofs.YtkaimdcepnhkdaaDoor
open Go.RowKit
set_option linter.unusedSimpArgs false
set_option linter.unusedVariables false

theorem slice_arr_tail {P : Program} {t e : TypeId} {n : Nat} (hu : P.underlying t = some (.array n e)) (hi0 : (P.info? e).map (·.size) = some 1) (g o l : Nat) (h3 : l ≤ n) (a : Int) (ha : a = l) :
    ∃ A : Option Addr, (0 < n - l → A = some ⟨g, o + l, none⟩) ∧ ∀ W : World, (Instr.sliceAt t (.pointer (some ⟨g, o, none⟩)) (some (.int .i64 a)) none none).run P W = .ok (.slice A (n - l) (n - l)) W := by
  subst ha
  have hal : P.arrayLen t = n := by simp [Program.arrayLen, hu]
  have hel : P.elem t = e := by simp [Program.elem, hu]
  obtain ⟨i, hi, hs⟩ := Option.map_eq_some_iff.1 hi0
  refine ⟨some (if n = l then ⟨g, o, none⟩ else ⟨g, o + l, none⟩), fun h => by rw [if_neg (by omega)], fun W => ?_⟩
  rw [run_sliceAt_array_l W t ⟨g, o, none⟩ (by rw [hu, hal, hel]) .i64 (l : Int) (by omega) (by rw [hal]; omega), hal, hel]
  simp only [sizeOf, typeInfo, Sem.run_bind]
  simp [Result.andThen, slicedAt, hi, hs, Addr.add]
  by_cases h0 : l = 0
  · subst h0; simp
  · simp [h0]

theorem r16_of (w : World) (g B : Nat) (l : List Int) (hb : Blk w g 130 (u16s l).toArray) (hbd : ∀ x ∈ l, 0 ≤ x ∧ x < 65536) (o m : Nat) (hm : o + m ≤ l.length) (hB : g < B) (A : Option Addr) (hA : 0 < m → A = some ⟨g, o, none⟩) : R16 w B A m ((l.drop o).take m) := by
  refine ⟨by simp; omega, fun x hx => hbd x (List.mem_of_mem_drop (List.mem_of_mem_take hx)), fun hn => ⟨g, o, hA hn, hB, fun i hi => ?_⟩⟩
  rw [hb.cell]
  simp [List.getD, hi, show o + i < l.length by omega]

theorem joinS_size (xs : List ByteArray) (sep : List UInt8) (m : Nat) (h : ∀ x ∈ xs, x.size ≤ m) : (joinS xs sep).size ≤ xs.length * (m + sep.length) := by
  have h1 := join_le sep m (xs.map (·.data.toList)) (by
    intro x hx
    obtain ⟨y, hy, rfl⟩ := List.mem_map.1 hx
    rw [Array.length_toList]; exact h y hy)
  rw [List.length_map] at h1
  show (Lib.join (xs.map (·.data.toList)) sep).toArray.size ≤ _
  rwa [List.size_toArray]
theorem groupsS_size (l : List Int) : (groupsS l).size ≤ l.length * 5 := by
  have := joinS_size (l.map hexS) [58] 4 (by
    intro x hx
    obtain ⟨y, hy, rfl⟩ := List.mem_map.1 hx
    exact hexS_size y)
  simpa [groupsS] using this
def sixS (l : List Int) : ByteArray :=
  if (lzTo (grp l) 8).2 < 2 then groupsS (grp l)
  else groupsS ((grp l).take (lzTo (grp l) 8).1) ++ ⟨#[58, 58]⟩ ++ groupsS ((grp l).drop ((lzTo (grp l) 8).1 + (lzTo (grp l) 8).2))

set_option maxHeartbeats 1000000 in
set_option maxRecDepth 100000 in
theorem six_is (w : World) (E : Env w) (v : Bool) (l : List Int) (hl : l.length = 16) (ho : Oct l) :
    Calls Tryd.prog 68 #[.agg (ipc v l).toArray] w fun e w' => e = .returned (.string (sixS l)) ∧ Below w.heap.size w w' := by
  have HR := Lib.hid (range_new w 24 (ipc v l))
  have HG := Lib.hid (grp_bd l ho)
  have HL := Lib.hid (grp_len l)
  have HZ := Lib.hid (lz_le (grp l) 8 (by rw [grp_len]; omega))
  go_enter Tryd.func68, Tryd.ntmps68
  go_wp2_with (refine ip_fetch rfl _ rfl w.heap.size 0 v l hl rfl HR.out ?_)
  refine (gof_is _ v l hl ho).mono ?_
  rintro e w1 ⟨rfl, hB1⟩
  have HB1 : Hid (Below w.heap.size w w1) := Lib.hid (((Below.refl w.heap.size w).alloc (Nat.le_refl _) _).trans (hB1.mono (by simp)))
  have hs1 : w.heap.size < w1.heap.size := by have := hB1.size; simp at this; omega
  have HK := Lib.hid (Blk.setRow (Blk.new w1 130 zg) (u16s (grp l)).toArray)
  have HB2 : Hid (Below w.heap.size w ((w1.alloc (.cells zg 130)).setRow w1.heap.size (u16s (grp l)).toArray)) := Lib.hid ((HB1.out.alloc (Nat.le_of_lt hs1) _).trans (below_setRow _ _ _ (Nat.le_of_lt hs1)))
  clear hB1
  go_wp2_with (first
    | (refine grp_store rfl _ _ rfl w1.heap.size (grp l) (grp_len l) rfl rfl 130 zg (Blk.new w1 130 zg) rfl ?_)
    | (refine grp_fetch rfl _ rfl w1.heap.size (grp l) (grp_len l) rfl HK.out.range ?_))
  refine (lz_is _ (grp l) (grp_len l)).mono ?_
  rintro e w2 ⟨rfl, hB3⟩
  have hsz : ((w1.alloc (.cells zg 130)).setRow w1.heap.size (u16s (grp l)).toArray).heap.size = w1.heap.size + 1 := by simp [World.setRow]
  have HK2 := Lib.hid (HK.out.below hB3 (by rw [hsz]; omega))
  have HB3 := Lib.hid (HB2.out.trans (hB3.mono (by rw [hsz]; omega)))
  have hs2 : w1.heap.size < w2.heap.size := by have := hB3.size; rw [hsz] at this; omega
  have HE := Lib.hid (E.below HB3.out)
  have HS : Hid (sixS l = if (lzTo (grp l) 8).2 < 2 then groupsS (grp l) else groupsS ((grp l).take (lzTo (grp l) 8).1) ++ ⟨#[58, 58]⟩ ++ groupsS ((grp l).drop ((lzTo (grp l) 8).1 + (lzTo (grp l) 8).2))) := Lib.hid rfl
  clear hB3 hsz HK HB2 HB1 HR
  generalize hO : sixS l = out at *
  have HO := Lib.hid hO
  clear hO
  generalize grp l = gs at *
  generalize lzTo gs 8 = z at *
  obtain ⟨f, c⟩ := z
  simp only at HZ HS
  by_cases hc : c < 2
  · have HS1 : Hid (out = groupsS gs) := Lib.hid (by rw [HS.out, if_pos hc])
    have hcd : ((c : Int) < 2) := by omega
    go_wp2_with fail
    refine (groups_text w2 HE.out w2.heap.size (some ⟨w1.heap.size, 0, none⟩) 8 8 gs ?_ (Nat.le_refl _) (by omega)).mono ?_
    · have h := r16_of w2 w1.heap.size w2.heap.size gs HK2.out HG.out 0 8 (by rw [HL.out]; omega) hs2 (some ⟨w1.heap.size, 0, none⟩) (fun _ => rfl)
      rwa [List.drop_zero, List.take_of_length_le (by rw [HL.out]; omega)] at h
    rintro e w3 ⟨rfl, hB4⟩
    have HB4 := Lib.hid hB4
    clear hB4
    go_wp2
    go_ret
    exact ⟨by rw [HO.out, HS1.out]; rfl, HB3.out.trans (HB4.out.mono HB3.out.size)⟩
  · have HS1 : Hid (out = groupsS (gs.take f) ++ ⟨#[58, 58]⟩ ++ groupsS (gs.drop (f + c))) := Lib.hid (by rw [HS.out, if_neg hc])
    have hcd : ¬ ((c : Int) < 2) := by omega
    have hf8 : f + c ≤ 8 := by have := HZ.out; have := HL.out; omega
    have hsl1 := slice_arr_h (P := Tryd.prog) (t := 130) (e := 50) (n := 8) Tryd.underlying130 (by kernel_rfl) w1.heap.size 0 f (by omega) (by omega) (f : Int) rfl
    obtain ⟨A, hA, hsl2⟩ := slice_arr_tail (P := Tryd.prog) (t := 130) (e := 50) (n := 8) Tryd.underlying130 (by kernel_rfl) w1.heap.size 0 (f + c) (by omega) ((f : Int) + (c : Int)) (by omega)
    rw [Nat.zero_add] at hA
    have HA := Lib.hid hA
    have H1 : Hid (R16 w2 w2.heap.size (some ⟨w1.heap.size, 0, none⟩) f (gs.take f)) := Lib.hid (r16_of w2 w1.heap.size w2.heap.size gs HK2.out HG.out 0 f (by rw [HL.out]; omega) hs2 _ (fun _ => rfl))
    have hwr : IntKind.i64.wrap ((f : Int) + (c : Int)) = (f : Int) + (c : Int) := IntWalk.i64_in _ (by omega)
    have hz1 : ¬ 9223372036854775807 < (groupsS (gs.take f)).size + 2 := by
      have := groupsS_size (gs.take f)
      have : (gs.take f).length ≤ 8 := by simp; have := HL.out; omega
      omega
    have hz2 : ¬ 9223372036854775807 < (groupsS (gs.take f)).size + 2 + (groupsS (gs.drop (f + c))).size := by
      have := groupsS_size (gs.take f)
      have := groupsS_size (gs.drop (f + c))
      have : (gs.take f).length ≤ 8 := by simp; have := HL.out; omega
      have : (gs.drop (f + c)).length ≤ 8 := by simp; have := HL.out; omega
      omega
    clear hA HS hc
    go_wp2_with fail
    refine wp_region_held_drew (S := fun w' => w2.heap.size ≤ w'.heap.size) (by kernel_rfl) (Nat.le_refl _) (fun hS => ?_)
    refine wpAnyH_take (i := 0) (oi := ⟨some 17, _, _, _, _, _⟩) (v := ?_) rfl (by kernel_rfl) (by kernel_rfl) (by kernel_rfl) (fun _ _ _ h => h) (Or.inl ⟨by rfl, ?_⟩) hS ?_
    rotate_left
    · intro wq hq
      first | (go_simp; done) | (go_simp; rfl)
    try simp only [Act.put, List.setIfInBounds_toArray, List.set_cons_zero, List.set_cons_succ]
    refine wpAnyH_take (i := 1) (oi := ⟨some 18, _, _, _, _, _⟩) (v := ?_) rfl (by kernel_rfl) (by kernel_rfl) (by kernel_rfl) (fun _ _ _ h => h) (Or.inl ⟨by rfl, ?_⟩) hS ?_
    rotate_left
    · intro wq hq
      first | (go_simp; done) | (go_simp; rfl)
    try simp only [Act.put, List.setIfInBounds_toArray, List.set_cons_zero, List.set_cons_succ]
    refine wpAnyH_take (i := 4) (oi := ⟨some 21, _, _, _, _, _⟩) (v := ?_) rfl (by kernel_rfl) (by kernel_rfl) (by kernel_rfl) (fun _ _ _ h => h) (Or.inl ⟨by rfl, ?_⟩) hS ?_
    rotate_left
    · intro wq hq
      first | (go_simp; done) | (go_simp; rfl)
    try simp only [Act.put, List.setIfInBounds_toArray, List.set_cons_zero, List.set_cons_succ]
    refine wpAnyH_take (i := 5) (oi := ⟨some 22, _, _, _, _, _⟩) (v := ?_) rfl (by kernel_rfl) (by kernel_rfl) (by kernel_rfl) (fun _ _ _ h => h) (Or.inl ⟨by rfl, ?_⟩) hS ?_
    rotate_left
    · intro wq hq
      first | (go_simp; done) | (go_simp; rfl)
    try simp only [Act.put, List.setIfInBounds_toArray, List.set_cons_zero, List.set_cons_succ]
    refine wpAnyH_take (i := 6) (oi := ⟨some 23, _, _, _, _, _⟩) (v := ?_) rfl (by kernel_rfl) (by kernel_rfl) (by kernel_rfl) (fun _ _ _ h => h) (Or.inl ⟨by rfl, ?_⟩) hS ?_
    rotate_left
    · intro wq hq
      first | (go_simp; done) | (go_simp; rfl)
    try simp only [Act.put, List.setIfInBounds_toArray, List.set_cons_zero, List.set_cons_succ]
    refine wpAnyH_take (i := 7) (oi := ⟨some 24, _, _, _, _, _⟩) (v := ?_) rfl (by kernel_rfl) (by kernel_rfl) (by kernel_rfl) (fun _ _ _ h => h) (Or.inl ⟨by rfl, ?_⟩) hS ?_
    rotate_left
    · intro wq hq
      first | (go_simp; done) | (go_simp; rfl)
    try simp only [Act.put, List.setIfInBounds_toArray, List.set_cons_zero, List.set_cons_succ]
    refine wpAnyH_ready (rs := [2]) (by kernel_rfl) (by simp) ?_
    refine AllReadyH.cons (o := ⟨some 19, _, _, _, _, _⟩) rfl (fun K hK => ?_) AllReadyH.nil
    rw [if_pos (by rfl)]
    go_wp2_with fail
    refine (groups_text _ (Env.drewN HE.out 1) w2.heap.size (some ⟨w1.heap.size, 0, none⟩) f 8 (gs.take f) ⟨H1.out.len, H1.out.bd, H1.out.at_⟩ (Nat.le_refl _) (by omega)).mono ?_
    rintro e w3 ⟨rfl, hB4⟩
    have hs3 : w2.heap.size ≤ w3.heap.size := hB4.size
    have HK3 := Lib.hid ((Blk.below HK2.out (B := w2.heap.size) ⟨hB4.os, hB4.tape, hB4.output, hB4.size, hB4.block⟩ hs2))
    have HB4 : Hid (Below w2.heap.size w2 w3) := Lib.hid ((below_drewN (Below.refl _ _) 1).trans hB4)
    have HE3 := Lib.hid (HE.out.below HB4.out)
    clear hB4
    refine hK.out _ _ (hs3) (fun hS => ?_)
    clear hK K
    try simp only [Act.put, List.setIfInBounds_toArray, List.set_cons_zero, List.set_cons_succ]
    refine wpAnyH_take (i := 3) (oi := ⟨some 20, _, _, _, _, _⟩) (v := ?_) rfl (by kernel_rfl) (by kernel_rfl) (by kernel_rfl) (fun _ _ _ h => h) (Or.inl ⟨by rfl, ?_⟩) hS ?_
    rotate_left
    · intro wq hq
      first | (go_simp; done) | (go_simp; rfl)
    try simp only [Act.put, List.setIfInBounds_toArray, List.set_cons_zero, List.set_cons_succ]
    refine wpAnyH_ready (rs := [8]) (by kernel_rfl) (by simp) ?_
    refine AllReadyH.cons (o := ⟨some 25, _, _, _, _, _⟩) rfl (fun K hK => ?_) AllReadyH.nil
    rw [if_pos (by rfl)]
    go_wp2_with fail
    have H2 := Lib.hid (r16_of w3 w1.heap.size w3.heap.size gs HK3.out HG.out (f + c) (8 - (f + c)) (by rw [HL.out]; omega) (by omega) A HA.out)
    rw [List.take_of_length_le (by simp [HL.out])] at H2
    refine (groups_text w3 HE3.out w3.heap.size A (8 - (f + c)) (8 - (f + c)) (gs.drop (f + c)) H2.out (Nat.le_refl _) (by omega)).mono ?_
    rintro e w4 ⟨rfl, hB5⟩
    have hs4 : w2.heap.size ≤ w4.heap.size := Nat.le_trans hs3 hB5.size
    have HB5 := Lib.hid hB5
    clear hB5
    refine hK.out _ _ (hs4) (fun hS => ?_)
    clear hK K
    try simp only [Act.put, List.setIfInBounds_toArray, List.set_cons_zero, List.set_cons_succ]
    refine wpAnyH_take (i := 9) (oi := ⟨some 26, _, _, _, _, _⟩) (v := ?_) rfl (by kernel_rfl) (by kernel_rfl) (by kernel_rfl) (fun _ _ _ h => h) (Or.inl ⟨by rfl, ?_⟩) hS ?_
    rotate_left
    · intro wq hq
      first | (go_simp; done) | (go_simp; rfl)
    try simp only [Act.put, List.setIfInBounds_toArray, List.set_cons_zero, List.set_cons_succ]
    refine wpAnyH_take (i := 10) (oi := ⟨some 2, _, _, _, _, _⟩) (v := ?_) rfl (by kernel_rfl) (by kernel_rfl) (by kernel_rfl) (fun _ _ _ h => h) (Or.inl ⟨by rfl, ?_⟩) hS ?_
    rotate_left
    · intro wq hq
      first | (go_simp; done) | (go_simp; rfl)
    try simp only [Act.put, List.setIfInBounds_toArray, List.set_cons_zero, List.set_cons_succ]
    refine wpAnyH_done (by kernel_rfl) ?_ _
    go_wp2
    go_ret
    exact ⟨by rw [HO.out, HS1.out]; rfl, (HB3.out.trans (HB4.out.mono HB3.out.size)).trans (HB5.out.mono (Nat.le_trans HB3.out.size hs3))⟩

def ipS (v : Bool) (l : List Int) : ByteArray := if v then sixS l else fourS (l.take 4)
def IpT (w : World) (v : Bool) (l : List Int) (e : Ending) (w' : World) : Prop :=
  Below w.heap.size w w' ∧ e = .returned (if rightB v l then .tuple #[.string (ipS v l), .int .i64 0] else .tuple #[.string ⟨#[]⟩, .int .i64 2])
set_option maxHeartbeats 1000000 in
set_option maxRecDepth 100000 in
theorem iptext_is (w : World) (E : Env w) (v : Bool) (l : List Int) (hl : l.length = 16) (ho : Oct l) :
    Calls Tryd.prog 11 #[.agg (ipc v l).toArray] w (IpT w v l) := by
  have hr0 := range_new w 24 (ipc v l)
  have HR := Lib.hid hr0
  clear hr0
  go_enter Tryd.func11, Tryd.ntmps11
  go_wp2_with (refine ip_fetch rfl _ rfl w.heap.size 0 v l hl rfl HR.out ?_)
  refine (right_is _ v l hl ho).mono ?_
  rintro e w1 ⟨rfl, hB1⟩
  have HB1 : Hid (Below w.heap.size w w1) := Lib.hid (((Below.refl w.heap.size w).alloc (Nat.le_refl _) _).trans (hB1.mono (by simp)))
  have hs1 : w.heap.size < w1.heap.size := by have := hB1.size; simp at this; omega
  have HR1 := Lib.hid (range_below HR.out hB1 (by simp))
  have hv := HR1.out 0 _ rfl
  have HE := Lib.hid (E.below HB1.out)
  clear hB1 HR
  cases hrt : rightB v l
  · have HC := Lib.hid hrt
    clear hrt
    go_wp2
    go_ret2
    exact ⟨HB1.out, by rw [HC.out]; rfl⟩
  · have HC := Lib.hid hrt
    clear hrt
    cases v
    · have hsl := slice_arr_h (P := Tryd.prog) (t := 22) (e := 5) (n := 16) Tryd.underlying22 (by kernel_rfl) w.heap.size 1 4 (by omega) (by omega) 4 rfl
      have hrd : Rd w1 w1.heap.size (some ⟨w.heap.size, 1, none⟩) 4 ((l.drop 0).take 4) := rd_range (pre := [.bool false]) (post := []) (by simpa using HR1.out) ho 0 4 (by omega) hs1
      have HRd := Lib.hid hrd
      clear hrd
      go_wp2_with fail
      refine (four_text w1 HE.out w1.heap.size _ 4 16 (l.take 4) HRd.out (Nat.le_refl _) (by omega)).mono ?_
      rintro e w2 ⟨rfl, hB2⟩
      have HB2 := Lib.hid hB2
      clear hB2
      go_wp2
      go_ret2
      exact ⟨HB1.out.trans (HB2.out.mono HB1.out.size), by rw [HC.out]; rfl⟩
    · go_wp2_with (refine ip_fetch rfl _ rfl w.heap.size 0 true l hl rfl HR1.out ?_)
      refine (six_is w1 HE.out true l hl ho).mono ?_
      rintro e w2 ⟨rfl, hB2⟩
      have HB2 := Lib.hid hB2
      clear hB2
      go_wp2
      go_ret2
      exact ⟨HB1.out.trans (HB2.out.mono HB1.out.size), by rw [HC.out]; rfl⟩
end Go.Proofs.YtkaimdcepnhkdaaDoor
