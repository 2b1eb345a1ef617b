/-
  OctetReads: its walk: for every input the law returns true, and nothing that was there has turned.
-/
import Derived.Test.YtplnlhbbleppmaaOctI
import Derived.Test.YtplnlhbbleppmaaOctH
import Derived.Test.YtplnlhbbleppmaaOctF
import Derived.Deep.RegionHeld3
namespace Go.Proofs.Ytplnlhbbleppmaa
open Go.RowKit

/-- A block of bytes is no cursor's block. -/
theorem Rd.ne_cur {w : World} {B : Nat} {A : Option Addr} {n : Nat} {l : List Int} {T : TypeId} {g : Nat} {A' : Option Addr} {n' c' : Nat} {at_ err : Int} (hr : Rd w B A n l) (hn : 0 < n) (hc : CurT T w g A' n' c' at_ err)
    {b off : Nat} (hA : A = some ⟨b, off, none⟩) : b ≠ g := by
  rintro rfl
  obtain ⟨b', off', e, _, hcell⟩ := hr.at_ hn
  rw [hA] at e
  injection e with e
  injection e with e1 e2
  subst e1 e2
  have h0 := hcell 0 hn
  rw [Nat.add_zero, Blk.cell hc] at h0
  match off, h0 with
  | 0, h => simp at h
  | 1, h => simp at h
  | 2, h => simp at h
  | k + 3, h => simp at h

theorem IsCurT.apart {T T' : TypeId} {w w' : World} {g g' : Nat} {l l' : List Int} {at_ at' : Nat} {err err' : Int} (h : IsCurT T w g l at_ err) (h' : IsCurT T' w g' l' at' err') (hne : g ≠ g') (hg : w.grownBy w' (some g')) : IsCurT T w' g l at_ err := by
  obtain ⟨A, c, h0, h1, h2⟩ := h.ex
  obtain ⟨A', c', h0', _, _⟩ := h'.ex
  refine ⟨⟨A, c, Blk.grown h0 hg (fun e => hne (by injection e)), ⟨h1.len, h1.oct, fun hn => ?_⟩, h2⟩, h.le, h.sm⟩
  obtain ⟨b, off, e, hb, hc⟩ := h1.at_ hn
  have hbg := h1.ne_cur hn h0' e
  exact ⟨b, off, e, hb, fun i hi => (World.cell?_of_block (hg.block b (by have := h.lt; omega) (fun e' => hbg (by injection e')))).trans (hc i hi)⟩

theorem IsCurT.old {T : TypeId} {w w' : World} {g gx : Nat} {l : List Int} {at_ : Nat} {err : Int} (h : IsCurT T w g l at_ err) (hg : w.grownBy w' (some gx)) (hlt : g < gx) : IsCurT T w' g l at_ err :=
  h.keep ⟨hg.os, hg.tape, hg.output, hg.size, fun k hk => hg.block k (by have := h.lt; omega) (fun e => by injection e with e; omega)⟩

/-- A new cursor keeps nothing of what was there: whatever becomes of older blocks, it stays. -/
theorem isCurT_own {T : TypeId} {w w1 w2 : World} {A : Option Addr} {n : Nat} {l : List Int} (hn : New 5 w w1 A n l) (hs : w.heap.size ≤ w1.heap.size) (hm : n ≤ 281474976710656)
    (h2 : ∀ k, w.heap.size ≤ k → k ≤ w1.heap.size → w2.heap[k]? = (w1.alloc (.cells #[.slice A n n, .int .i64 0, .int .i64 0] T)).heap[k]?) : IsCurT T w2 w1.heap.size l 0 0 := by
  obtain ⟨ho, rfl, hx⟩ := hn
  refine ⟨⟨A, l.length, (h2 _ hs (Nat.le_refl _)).trans (Blk.new w1 T _), ⟨rfl, ho, fun hpos => ?_⟩, Nat.le_refl _⟩, Nat.zero_le _, hm⟩
  rcases hx with h0 | ⟨g, rfl, hg, hb⟩
  · omega
  · refine ⟨g, 0, rfl, hb.lt, fun i hi => ?_⟩
    have hb2 : Byt w2 g 5 l := (h2 g hg (Nat.le_of_lt hb.lt)).trans ((Below.heap_alloc w1 _ g hb.lt).trans hb)
    rw [Nat.zero_add]
    exact hb2.cell hi

def NewOwn (T : TypeId) (w : World) (l : List Int) (e : Ending) (w' : World) : Prop :=
  ∃ g, e = .returned (.pointer (some ⟨g, 0, none⟩)) ∧ w.heap.size ≤ g ∧ g < w'.heap.size ∧ Below w.heap.size w w' ∧ ∀ w2 : World, (∀ k, w.heap.size ≤ k → k ≤ g → w2.heap[k]? = w'.heap[k]?) → IsCurT T w2 g l 0 0

set_option maxHeartbeats 400000 in
theorem new_own (w : World) (A : Option Addr) (n c : Nat) (l : List Int) (hr : Rd w w.heap.size A n l) (hm : n ≤ 281474976710656) :
    Calls Try.prog 15 #[.slice A n c] w (NewOwn 55 w l) := by
  have H := Lib.hid hr
  clear hr
  go_enter Try.func15, Try.ntmps15
  go_wp2_with fail
  refine (copied_is w A n c l H.out hm).mono ?_
  rintro e w1 ⟨A1, rfl, hn, hb⟩
  have H1 := Lib.hid hn
  have H2 := Lib.hid hb
  clear hn hb
  go_wp2
  go_ret
  exact ⟨w1.heap.size, rfl, H2.out.size, by simp, H2.out.alloc H2.out.size _, fun w2 h2 => isCurT_own H1.out H2.out.size hm h2⟩

set_option maxHeartbeats 400000 in
theorem rnew_own (w : World) (A : Option Addr) (n c : Nat) (l : List Int) (hr : Rd w w.heap.size A n l) (hm : n ≤ 281474976710656) :
    Calls Try.prog 16 #[.slice A n c] w (NewOwn 44 w l) := by
  have H := Lib.hid hr
  clear hr
  go_enter Try.func16, Try.ntmps16
  go_wp2_with fail
  refine (copy_is w A n c l H.out hm).mono ?_
  rintro e w1 ⟨A1, rfl, hn, hb⟩
  have H1 := Lib.hid hn
  have H2 := Lib.hid hb
  clear hn hb
  go_wp2
  go_ret
  exact ⟨w1.heap.size, rfl, H2.out.size, by simp, H2.out.alloc H2.out.size _, fun w2 h2 => isCurT_own H1.out H2.out.size hm h2⟩

section
variable {w : World} {g : Nat} {l : List Int} {at_ : Nat} {err : Int}
theorem at_q (h : IsCur w g l at_ err) (n : Nat) : Calls Try.prog 22 #[.pointer (some ⟨g, 0, none⟩)] (w.drewN n) fun e w'' => e = .returned (.int .i64 at_) ∧ ∃ m, w'' = w.drewN m :=
  (at_is (w.drewN n) g l at_ err (h.drewN n)).mono fun _ _ ⟨he, hw⟩ => ⟨he, n, hw.symm⟩
theorem err_q (h : IsCur w g l at_ err) (n : Nat) : Calls Try.prog 25 #[.pointer (some ⟨g, 0, none⟩)] (w.drewN n) fun e w'' => e = .returned (.int .i64 err) ∧ ∃ m, w'' = w.drewN m :=
  (err_is (w.drewN n) g l at_ err (h.drewN n)).mono fun _ _ ⟨he, hw⟩ => ⟨he, n, hw.symm⟩
theorem left_q (h : IsCur w g l at_ err) (n : Nat) : Calls Try.prog 23 #[.pointer (some ⟨g, 0, none⟩)] (w.drewN n) fun e w'' => e = .returned (.int .i64 ((l.length : Int) - at_)) ∧ ∃ m, w'' = w.drewN m :=
  (leftC_is (w.drewN n) g l at_ err (h.drewN n)).mono fun _ _ ⟨he, k, hw⟩ => ⟨he, n + k, by rw [hw, World.drewN_drewN]⟩
theorem rleft_q (h : IsRef w g l at_ err) (n : Nat) : Calls Try.prog 24 #[.pointer (some ⟨g, 0, none⟩)] (w.drewN n) fun e w'' => e = .returned (.int .i64 ((l.length : Int) - at_)) ∧ ∃ m, w'' = w.drewN m :=
  (rleft_is (w.drewN n) g l at_ err (h.drewN n)).mono fun _ _ ⟨he, k, hw⟩ => ⟨he, n + k, by rw [hw, World.drewN_drewN]⟩
theorem ref_cell1 (h : IsRef w g l at_ err) : w.cell? ⟨g, 1, none⟩ = some (.int .i64 at_) := by
  obtain ⟨_, _, q, _, _⟩ := h.ex
  exact Blk.cell q 1
theorem ref_cell2 (h : IsRef w g l at_ err) : w.cell? ⟨g, 2, none⟩ = some (.int .i64 err) := by
  obtain ⟨_, _, q, _, _⟩ := h.ex
  exact Blk.cell q 2
end

set_option maxRecDepth 100000 in
set_option maxHeartbeats 2000000 in
theorem octetReads_walk (w : World) (A : Option Addr) (m c : Nat) (l : List Int) (A3 : Option Addr) (n3 c3 : Nat) (xs : List (Int × Int)) (hr : Rd w w.heap.size A m l) (hm : m ≤ 140737488351232)
    (hx : Rec2 w w.heap.size A3 n3 xs) (hn3 : n3 * 16 ≤ 140737488351232) :
    Calls Try.prog 4 #[.slice A m c, .slice A3 n3 c3] w fun e w' => e = .returned (.bool true) ∧ Below w.heap.size w w' := by
  have Hx := Lib.hid hx
  have Hr := Lib.hid hr
  have HL := Lib.hid hr.len
  obtain rfl := hx.len
  clear hx hr
  go_enter Try.func4, Try.ntmps4
  go_wp2_with fail
  refine (lent_is w A m c l Hr.out (by omega)).mono ?_
  rintro e w1 ⟨rfl, hb1, hB1⟩
  have Hb1 := Lib.hid hb1
  have HB1 := Lib.hid hB1
  clear hb1 hB1
  have hr1 : Rd w1 w1.heap.size (some ⟨w.heap.size, 0, none⟩) m l := by
    have hoct := Hr.out.oct
    have := Hb1.out.rd (B := w1.heap.size) (k := m) (by
      intro x hx
      rcases List.mem_append.1 hx with hx | hx
      · exact hoct x hx
      · simp at hx; omega) (by simp [HL.out]) Hb1.out.lt
    rwa [← HL.out, List.take_left, HL.out] at this
  have Hr1 := Lib.hid hr1
  clear hr1
  go_wp2_with fail
  refine (new_own w1 _ m (m + 2) l Hr1.out (by omega)).mono ?_
  rintro e w2 ⟨g, rfl, hg, hgl, hB2, hst⟩
  have Hg := Lib.hid hg
  have Hgl := Lib.hid hgl
  have HB2 := Lib.hid hB2
  have Hst := Lib.hid hst
  clear hg hgl hB2 hst
  have hB02 : Below w.heap.size w w2 := HB1.out.trans (HB2.out.mono HB1.out.size)
  have HB02 := Lib.hid hB02
  clear hB02
  go_wp2_with fail
  refine (rnew_own w2 A m c l ((Hr.out.below HB02.out).more HB02.out.size) (by omega)).mono ?_
  rintro e w3 ⟨g2, rfl, hg, hgl, hB3, hst⟩
  have Hg2 := Lib.hid hg
  have Hgl2 := Lib.hid hgl
  have HB3 := Lib.hid hB3
  have Hst2 := Lib.hid hst
  clear hg hgl hB3 hst
  go_wp2_with fail
  have hb3 : Byt w3 w.heap.size 5 (l ++ [165, 90]) := (Hb1.out.below HB2.out Hb1.out.lt).below HB3.out (Nat.lt_of_lt_of_le Hb1.out.lt HB2.out.size)
  have hrow : Row w3 w.heap.size (m + 2) := ⟨_, hb3, by
      have hoct := Hr.out.oct
      intro x hx
      rcases List.mem_append.1 hx with hx | hx
      · exact hoct x hx
      · simp at hx; omega, by simp [HL.out]⟩
  have Hrow := Lib.hid hrow
  clear hb3 hrow
  refine (spoil_row w3 w.heap.size m (m + 2) (m + 2) Hrow.out (by omega) (by omega)).mono ?_
  rintro e w4 ⟨rfl, _, hg4⟩
  have hB03 : Below w.heap.size w w3 := HB02.out.trans (HB3.out.mono HB02.out.size)
  have hB04 : Below w.heap.size w w4 := below_only hB03 hg4 hB03.size (fun k hk => by cases hk; exact Nat.le_refl _)
  have hgg : g < g2 := Nat.lt_of_lt_of_le Hgl.out Hg2.out
  have hk4 : ∀ k, w1.heap.size ≤ k → k ≤ g2 → w4.heap[k]? = w3.heap[k]? := fun k h1 h2 => hg4.block k (Nat.lt_of_le_of_lt h2 Hgl2.out) (fun e => by injection e with e; have := Hb1.out.lt; omega)
  have hcur : IsCur w4 g l 0 0 := Hst.out w4 (fun k h1 h2 => (hk4 k h1 (by omega)).trans (HB3.out.block k (by have := Hgl.out; omega)))
  have href : IsRef w4 g2 l 0 0 := Hst2.out w4 (fun k h1 h2 => hk4 k (by have := HB2.out.size; omega) h2)
  have Hcur := Lib.hid hcur
  have Href := Lib.hid href
  have HB4 := Lib.hid hB04
  have Hgg := Lib.hid hgg
  have Hgw : Hid (w.heap.size ≤ g) := Nat.le_trans HB1.out.size Hg.out
  clear hB03 hB04 hgg hk4 hcur href hg4 Hb1 HB1 Hr1 Hg Hgl HB2 Hst HB02 Hg2 Hgl2 HB3 Hst2 Hrow Hr HL
  go_wp2
  go_loopw [9, 10, 23] (fun _ _ i wr => ∃ (k at_ : Nat) (err : Int), k ≤ xs.length ∧ i = .int .i64 k ∧ IsCur wr g l at_ err ∧ IsRef wr g2 l at_ err ∧ Below w.heap.size w wr) (fun _ _ i _ => xs.length - (intOf i).toNat)
  case atStart => exact ⟨0, 0, 0, Nat.zero_le _, rfl, Hcur.out, Href.out, HB4.out⟩
  case round =>
    obtain ⟨k, at_, err, hk, rfl, hcur, href, hB⟩ := hrel
    have HC := Lib.hid hcur
    have HR := Lib.hid href
    have HD := Lib.hid hB
    clear hcur href hB Hcur Href HB4
    by_cases hlt : k < xs.length
    · obtain ⟨b, off, rfl, hb, hc⟩ := (Hx.out.below HD.out).at_ (by omega)
      obtain ⟨hc0, hc1⟩ := hc k hlt
      generalize xs[k].1 = q0 at *
      generalize xs[k].2 = q1 at *
      clear hc
      have Hk : Hid (IsCur (wr.alloc (.cells #[.int .i64 q0, .int .i64 q1] 38)) g l at_ err) := HC.out.keep ((Below.refl _ _).alloc HC.out.lt _)
      have Hj : Hid (IsRef (wr.alloc (.cells #[.int .i64 q0, .int .i64 q1] 38)) g2 l at_ err) := HR.out.keep ((Below.refl _ _).alloc HR.out.lt _)
      have Hl : Hid (Below w.heap.size w (wr.alloc (.cells #[.int .i64 q0, .int .i64 q1] 38))) := HD.out.alloc HD.out.size _
      have Ho : Hid (Blk (wr.alloc (.cells #[.int .i64 q0, .int .i64 q1] 38)) wr.heap.size 38 #[.int .i64 q0, .int .i64 q1]) := Blk.new wr 38 _
      have Hgo : Hid (g2 < wr.heap.size) := HR.out.lt
      clear HC HR HD
      by_cases h1 : q0 = 1
      · subst h1
        go_wp2_with fail
        generalize wr.alloc (.cells #[.int .i64 1, .int .i64 q1] 38) = wr1 at *
        have o1 : wr1.cell? ⟨wr.heap.size, 1, none⟩ = some (.int .i64 q1) := Ho.out.cell 1
        have Hne : Hid (g ≠ g2) := by have := Hgg.out; exact fun e => by omega
        have Kd : Hid (IsCur wr1.drew g l at_ err) := Hk.out.drewN 1
        have Jd : Hid (IsRef wr1.drew g2 l at_ err) := Hj.out.drewN 1
        have Ld : Hid (Below w.heap.size w wr1.drew) := below_drewN Hl.out 1
        have Od : Hid (Blk wr1.drew wr.heap.size 38 #[.int .i64 1, .int .i64 q1]) := Ho.out
        have N1 : Hid (some wr.heap.size ≠ some g) := by have h1 := Hgo.out; have h2 := Hgg.out; exact fun e => by injection e with e; omega
        have N2 : Hid (some wr.heap.size ≠ some g2) := by have h1 := Hgo.out; exact fun e => by injection e with e; omega
        clear Hk Hj Hl Ho
        go_region_held3 (fun w' => w'.cell? ⟨wr.heap.size, 1, none⟩ = some (.int .i64 q1)) (first | exact o1 | assumption)
          (first
            | (go_at_call 17; refine (num_is _ g l at_ err q1 Kd.out).mono ?_; rintro e w6 ⟨rfl, hcur, hon⟩
               have O6 := Lib.hid (Od.out.grown hon N1.out)
               have o6 : w6.cell? ⟨wr.heap.size, 1, none⟩ = some (.int .i64 q1) := O6.out.cell 1
               have C6 := Lib.hid hcur
               have R6 := Lib.hid (Jd.out.apart Kd.out (fun e => Hne.out e.symm) hon)
               have B6 := Lib.hid (below_only Ld.out hon Ld.out.size (fun k hk => by cases hk; exact Hgw.out))
               clear hcur hon)
            | (go_at_call 18; refine (rnum_is _ g2 l at_ err q1 R6.out).mono ?_; rintro e w7 ⟨rfl, href, hon⟩
               have o7 : w7.cell? ⟨wr.heap.size, 1, none⟩ = some (.int .i64 q1) := (O6.out.grown hon N2.out).cell 1
               have R7 := Lib.hid href
               have C7 := Lib.hid (C6.out.old hon Hgg.out)
               have B7 := Lib.hid (below_only B6.out hon B6.out.size (fun k hk => by cases hk; exact Nat.le_trans Hgw.out (Nat.le_of_lt Hgg.out)))
               clear href hon))
        generalize numAt l at_ err q1 = at1 at *
        generalize numErr l at_ err q1 = err1 at *
        clear o1 o6 o7 O6 C6 R6 B6 Kd Jd Ld Od
        have r1 := ref_cell1 R7.out
        have r2 := ref_cell2 R7.out
        go_wp2_with fail
        go_quiet ((first | (go_at_call 22; exact at_q C7.out _) | (go_at_call 23; exact left_q C7.out _) | (go_at_call 24; exact rleft_q R7.out _) | (go_at_call 25; exact err_q C7.out _)))
        go_wp2
        exact ⟨⟨k + 1, _, _, by omega, by go_num, C7.out.drewN nq, R7.out.drewN nq, below_drewN B7.out nq⟩, by simp [intOf]; omega⟩
      · have h1' : (q0 == 1) = false := by simpa using h1
        have Hne : Hid (g ≠ g2) := by have := Hgg.out; exact fun e => by omega
        have N1 : Hid (some wr.heap.size ≠ some g) := by have h1 := Hgo.out; have h2 := Hgg.out; exact fun e => by injection e with e; omega
        clear h1
        by_cases h2 : q0 = 2
        · subst h2
          go_wp2_with fail
          refine (take_is _ g l at_ err q1 Hk.out).mono ?_
          generalize wr.alloc (.cells #[.int .i64 2, .int .i64 q1] 38) = wr1 at *
          rintro e w6 ⟨A6, rfl, hn6, hcur, hon⟩
          have hsm := stepTook_len l at_ err q1
          have hsm2 := Hk.out.sm
          have O6 := Lib.hid (Ho.out.grown hon N1.out)
          have o6 : w6.cell? ⟨wr.heap.size, 1, none⟩ = some (.int .i64 q1) := O6.out.cell 1
          have C6 := Lib.hid hcur
          have R6 := Lib.hid (Hj.out.apart Hk.out (fun e => Hne.out e.symm) hon)
          have B6 := Lib.hid (below_only Hl.out hon Hl.out.size (fun k hk => by cases hk; exact Hgw.out))
          have X6 := Lib.hid hn6
          have S6 : Hid (wr1.heap.size ≤ w6.heap.size) := hon.size
          have G6 : Hid (g2 < wr1.heap.size) := Hj.out.lt
          have Z6 : Hid (w.heap.size ≤ wr1.heap.size) := Hl.out.size
          clear hcur hon hn6 Hk Hj Hl Ho
          go_wp2_with fail
          refine (rtake_is w6 g2 l at_ err q1 R6.out).mono ?_
          rintro e w7 ⟨A7, c7, rfl, hn7, href, hon⟩
          generalize stepTook l at_ err q1 = ys at *
          generalize stepAt l at_ err q1 = at1 at *
          generalize stepErr l at_ err q1 = err1 at *
          have R7 := Lib.hid href
          have C7 := Lib.hid (C6.out.old hon Hgg.out)
          have B7 := Lib.hid (below_only B6.out hon B6.out.size (fun k hk => by cases hk; exact Nat.le_trans Hgw.out (Nat.le_of_lt Hgg.out)))
          have X7 : Hid (New 5 wr1 w7 A6 ys.length ys) := ⟨X6.out.1, X6.out.2.1, X6.out.2.2.imp id fun ⟨gx, a, b, c⟩ => ⟨gx, a, b, c.grown hon (fun e => by injection e with e; have := G6.out; omega)⟩⟩
          have Y7 := Lib.hid hn7.rd
          clear href hon hn7 o6 O6 C6 R6 B6 X6
          go_wp2_with fail
          refine (same_is w7 w7.heap.size A6 A7 _ _ _ c7 ys ys X7.out.rd Y7.out true (by simp)).mono ?_
          rintro e w8 ⟨rfl, rfl⟩
          obtain ⟨hoct, _, hX⟩ := X7.out
          rcases hX with h0 | ⟨gx, rfl, hgx, hbx⟩
          · have Hnil : Hid (ys = []) := List.eq_nil_of_length_eq_zero h0
            have C8 := C7
            have R8 := R7
            rw [h0] at *
            clear h0 hoct Y7 X7
            go_wp2_with fail
            refine (spoil_none w7 A6 0).mono ?_
            rintro e w8 ⟨rfl, rfl⟩
            have r1 := ref_cell1 R8.out
            have r2 := ref_cell2 R8.out
            go_wp2_with fail
            go_quiet ((first | (go_at_call 22; exact at_q C8.out _) | (go_at_call 23; exact left_q C8.out _) | (go_at_call 24; exact rleft_q R8.out _) | (go_at_call 25; exact err_q C8.out _)))
            go_wp2
            exact ⟨⟨k + 1, _, _, by omega, by go_num, C8.out.drewN nq, R8.out.drewN nq, below_drewN B7.out nq⟩, by simp [intOf]; omega⟩
          · have Hrow : Hid (Row w7 gx ys.length) := ⟨ys, hbx, hoct, rfl⟩
            have Hgx : Hid (g2 < gx) := Nat.lt_of_lt_of_le G6.out hgx
            have Hgx2 : Hid (w.heap.size ≤ gx) := Nat.le_trans Z6.out hgx
            clear hoct hgx hbx Y7 X7
            go_wp2_with fail
            refine (spoil_row w7 gx ys.length ys.length ys.length Hrow.out (Nat.le_refl _) (by omega)).mono ?_
            rintro e w8 ⟨rfl, _, hon⟩
            have C8 := Lib.hid (C7.out.old hon (Nat.lt_trans Hgg.out Hgx.out))
            have R8 := Lib.hid (R7.out.old hon Hgx.out)
            have B8 := Lib.hid (below_only B7.out hon B7.out.size (fun k hk => by cases hk; exact Hgx2.out))
            clear hon C7 R7 B7
            have r1 := ref_cell1 R8.out
            have r2 := ref_cell2 R8.out
            go_wp2_with fail
            go_quiet ((first | (go_at_call 22; exact at_q C8.out _) | (go_at_call 23; exact left_q C8.out _) | (go_at_call 24; exact rleft_q R8.out _) | (go_at_call 25; exact err_q C8.out _)))
            go_wp2
            exact ⟨⟨k + 1, _, _, by omega, by go_num, C8.out.drewN nq, R8.out.drewN nq, below_drewN B8.out nq⟩, by simp [intOf]; omega⟩
        · have h2' : (q0 == 2) = false := by simpa using h2
          clear h2
          by_cases h3 : q0 = 3
          · subst h3
            go_wp2_with fail
            refine (skip_is _ g l at_ err q1 Hk.out).mono ?_
            generalize wr.alloc (.cells #[.int .i64 3, .int .i64 q1] 38) = wr1 at *
            rintro e w6 ⟨rfl, hcur, hon⟩
            have O6 := Lib.hid (Ho.out.grown hon N1.out)
            have o6 : w6.cell? ⟨wr.heap.size, 1, none⟩ = some (.int .i64 q1) := O6.out.cell 1
            have C6 := Lib.hid hcur
            have R6 := Lib.hid (Hj.out.apart Hk.out (fun e => Hne.out e.symm) hon)
            have B6 := Lib.hid (below_only Hl.out hon Hl.out.size (fun k hk => by cases hk; exact Hgw.out))
            clear hcur hon Hk Hj Hl Ho
            go_wp2_with fail
            refine (rtake_is w6 g2 l at_ err q1 R6.out).mono ?_
            rintro e w7 ⟨A7, c7, rfl, hn7, href, hon⟩
            generalize stepTook l at_ err q1 = ys at *
            generalize stepAt l at_ err q1 = at1 at *
            generalize stepErr l at_ err q1 = err1 at *
            have R7 := Lib.hid href
            have C7 := Lib.hid (C6.out.old hon Hgg.out)
            have B7 := Lib.hid (below_only B6.out hon B6.out.size (fun k hk => by cases hk; exact Nat.le_trans Hgw.out (Nat.le_of_lt Hgg.out)))
            clear href hon hn7 o6 O6 C6 R6 B6
            have r1 := ref_cell1 R7.out
            have r2 := ref_cell2 R7.out
            go_wp2_with fail
            go_quiet ((first | (go_at_call 22; exact at_q C7.out _) | (go_at_call 23; exact left_q C7.out _) | (go_at_call 24; exact rleft_q R7.out _) | (go_at_call 25; exact err_q C7.out _)))
            go_wp2
            exact ⟨⟨k + 1, _, _, by omega, by go_num, C7.out.drewN nq, R7.out.drewN nq, below_drewN B7.out nq⟩, by simp [intOf]; omega⟩
          · have h3' : (q0 == 3) = false := by simpa using h3
            clear h3
            go_wp2_with fail
            generalize wr.alloc (.cells #[.int .i64 q0, .int .i64 q1] 38) = wr1 at *
            have r1 := ref_cell1 Hj.out
            have r2 := ref_cell2 Hj.out
            go_quiet ((first | (go_at_call 22; exact at_q Hk.out _) | (go_at_call 23; exact left_q Hk.out _) | (go_at_call 24; exact rleft_q Hj.out _) | (go_at_call 25; exact err_q Hk.out _)))
            go_wp2
            exact ⟨⟨k + 1, _, _, by omega, by go_num, Hk.out.drewN nq, Hj.out.drewN nq, below_drewN Hl.out nq⟩, by simp [intOf]; omega⟩
    · go_wp2_with fail
      refine (alive_is wr).mono ?_
      rintro e w6 ⟨rfl, hB6⟩
      have HB6 := Lib.hid hB6
      clear hB6
      go_wp2
      go_ret
      exact ⟨rfl, HD.out.trans (HB6.out.mono HD.out.size)⟩
end Go.Proofs.Ytplnlhbbleppmaa
