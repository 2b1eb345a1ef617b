/-
  CommOrders: for every input the law returns true, and each argument reads behind the call as it read before; the library's variables as the program's text lays them.
-/
import Derived.Test.YtkaimdcepnhkdaaDoorMS
import Derived.Test.YtkaimdcepnhkdaaDoorTie
import Derived.Test.YtkaimdcepnhkdaaDoorCards
import Derived.Test.YtkaimdcepnhkdaaDoorMX
import Derived.Test.YtkaimdcepnhkdaaDoorML
import Derived.WalkKit
import Derived.OpenShut
import Derived.ShutString
import Derived.ChangeOld
import Derived.Below
import Derived.LaidOnce
import Derived.SevenTiedAt
namespace Go.Proofs.YtkaimdcepnhkdaaDoor
open Go.RowKit
set_option linter.unusedSimpArgs false
set_option linter.unusedVariables false

theorem RowC.keep {w w' : World} {g : Nat} {cs : List (List Int)} (h : RowC w g cs) (hk : w'.heap[g]? = w.heap[g]?) : RowC w' g cs :=
  ⟨h.ok, fun i hi => range_keep (h.at_ i hi) (fun p hp => World.cell?_of_block (by rw [hp]; exact hk)), fun i hi j hj => by
    have h1 := h.there i hi j hj
    exact ⟨by rw [World.cell?_of_block (w := w) (w' := w') (a := ⟨g, i * 8 + j, none⟩) hk]; exact h1.1, by rw [World.frozen?_of_block (w := w) (w' := w') (a := ⟨g, i * 8 + j, none⟩) hk]; exact h1.2⟩⟩
/-- The list, its set in block g, what lies below lo. -/
structure OS (w0 w : World) (lo g : Nat) (A : Option Addr) (n : Nat) (ls ss : List (List Int)) : Prop where
  l : RdC w w0.heap.size A n ls
  s : RowC w g ss
  gl : g < lo
  lo0 : w0.heap.size ≤ lo
  lo1 : lo ≤ w.heap.size
  low : Below w0.heap.size w0 w
  env : Env w
theorem OS.below {w0 w w' : World} {lo g n : Nat} {A : Option Addr} {ls ss : List (List Int)} (h : OS w0 w lo g A n ls ss) (hB : Below w.heap.size w w') : OS w0 w' lo g A n ls ss := by
  have h1 := h.lo1
  have h2 := h.gl
  exact ⟨h.l.below (hB.mono h.low.size), h.s.keep (hB.block g (by omega)), h.gl, h.lo0, Nat.le_trans h1 hB.size, h.low.trans (hB.mono h.low.size), h.env.below hB⟩
theorem OS.l' {w0 w : World} {lo g n : Nat} {A : Option Addr} {ls ss : List (List Int)} (h : OS w0 w lo g A n ls ss) : RdC w w.heap.size A n ls := h.l.mono h.low.size
theorem OS.s' {w0 w : World} {lo g n : Nat} {A : Option Addr} {ls ss : List (List Int)} (h : OS w0 w lo g A n ls ss) : RdC w w.heap.size (some ⟨g, 0, none⟩) ss.length ss := h.s.rd (Nat.lt_of_lt_of_le h.gl h.lo1)
theorem OS.drew {w0 w : World} {lo g n : Nat} {A : Option Addr} {ls ss : List (List Int)} (h : OS w0 w lo g A n ls ss) : OS w0 w.drew lo g A n ls ss := h.below (below_drewN (Below.refl _ _) 1)
theorem OS.belowlo {w0 w w' : World} {lo g n : Nat} {A : Option Addr} {ls ss : List (List Int)} (h : OS w0 w lo g A n ls ss) (E : Env w0) (hB : Below lo w w') : OS w0 w' lo g A n ls ss := by
  have hl := h.low.trans (hB.mono h.lo0)
  exact ⟨h.l.below (hB.mono h.lo0), h.s.keep (hB.block g h.gl), h.gl, h.lo0, Nat.le_trans h.lo1 hB.size, hl, E.below hl⟩
theorem setL_steps (ls : List (List Int)) (i : Nat) (x y : List Int) (hx : (setL ls)[i]? = some x) (hy : (setL ls)[i + 1]? = some y) : cmpI x y < 0 := by
  obtain ⟨h1, rfl⟩ := List.getElem?_eq_some_iff.1 hx
  obtain ⟨h2, rfl⟩ := List.getElem?_eq_some_iff.1 hy
  exact setL_step ls i h2
set_option maxHeartbeats 2000000 in
set_option maxRecDepth 100000 in
theorem commOrders_walk (w : World) (E : Env w) (A : Option Addr) (n c : Nat) (ls : List (List Int)) (ha : RdC w w.heap.size A n ls) (h1 : n ≤ 140737488351232) :
    Calls Tryd.prog 9 #[.slice A n c] w fun e w' => e = .returned (.bool true) ∧ Below w.heap.size w w' := by
  have HA := Lib.hid ha
  have hlA := ha.len
  have HE := Lib.hid E
  clear ha E
  by_cases b1 : 2000 < n
  · have t1 : (2000 : Int) < n := by omega
    go_enter Tryd.func9, Tryd.ntmps9
    go_wp2_with fail
    refine (alive4_is _ HE.out).mono ?_
    rintro e w9 ⟨rfl, hB⟩
    go_wp2
    go_ret
    exact ⟨rfl, hB⟩
  have t1 : ¬ (2000 : Int) < n := by omega
  go_enter Tryd.func9, Tryd.ntmps9
  go_wp2_with fail
  refine (set_is _ A n c ls HA.out (by omega)).mono ?_
  rintro e w1 ⟨g, rfl, hrow, hg0, hg1, hB⟩
  have HO : Hid (OS w w1 w1.heap.size g A n ls (setL ls)) := Lib.hid ⟨HA.out.below hB, hrow, hg1, hB.size, Nat.le_refl _, hB, HE.out.below hB⟩
  have HStep := Lib.hid (setL_steps ls)
  have HIn := Lib.hid (setL_has ls HA.out.ok)
  have hsl := setL_len ls
  have HRev := Lib.hid (setL_rev ls HA.out.ok)
  have HSet := Lib.hid (setL_set ls HA.out.ok)
  generalize hlo : w1.heap.size = lo at *
  clear hlo hrow hg0 hg1 hB HA
  generalize setL ls = ss at *
  go_wp2
  go_loopw [4] (fun i wr => ∃ j : Nat, (j + 1 ≤ ss.length ∨ j = 0) ∧ i = .int .i64 ((j : Int) + 1) ∧ OS w wr lo g A n ls ss) (fun i _ => ss.length - (intOf i).toNat)
  case atStart => exact ⟨0, Or.inr rfl, rfl, HO.out⟩
  case round =>
    obtain ⟨j, hj, rfl, hO⟩ := hrel
    clear HO
    by_cases hlt : j + 1 < ss.length
    · have hj' : j < ss.length := by omega
      have hx := HStep.out j ss[j] ss[j + 1] (List.getElem?_eq_getElem hj') (List.getElem?_eq_getElem hlt)
      have ok := hO.s.ok.at_ j hj'
      have ok' := hO.s.ok.at_ (j + 1) hlt
      have HR0 : Hid (∀ wq, OS w wq lo g A n ls ss → wq.rangeAt g (j * 8) (u8s ss[j])) := Lib.hid fun wq hq => hq.s.at_ j hj'
      have HR1 : Hid (∀ wq, OS w wq lo g A n ls ss → wq.rangeAt g ((j + 1) * 8) (u8s ss[j + 1])) := Lib.hid fun wq hq => hq.s.at_ (j + 1) hlt
      generalize ss[j] = x at *
      generalize ss[j + 1] = y at *
      have HX := Lib.hid hx
      have HO1 := Lib.hid hO
      have i0 : (0 : Int) ≤ (j : Int) + 1 := by omega
      have i1 : (j : Int) + 1 < (ss.length : Int) := by omega
      have i2 : (0 : Int) ≤ (j : Int) := by omega
      have i3 : (j : Int) < (ss.length : Int) := by omega
      have hwj : IntKind.i64.wrap (j : Int) = (j : Int) := by simp [IntKind.wrap, IntKind.bits, IntKind.signed]; omega
      clear hx hO
      go_wp2
      refine wp_region_held_drew (S := fun w' => OS w w' lo g A n ls ss) (by kernel_rfl) (HO1.out.drew) (fun hS => ?_)
      refine wpAnyH_take (i := 0) (oi := ⟨some 21, _, _, _, _, _⟩) (v := ?_) rfl (by kernel_rfl) (by kernel_rfl) (by kernel_rfl) (fun _ _ _ h => h) (Or.inl ⟨by rfl, ?_⟩) hS ?_
      rotate_left
      · intro wq hq
        first | (go_simp; done) | (go_simp; rfl)
      try simp only [Act.put, List.setIfInBounds_toArray, List.set_cons_zero, List.set_cons_succ]
      refine wpAnyH_take (i := 1) (oi := ⟨some 22, _, _, _, _, _⟩) (v := ?_) rfl (by kernel_rfl) (by kernel_rfl) (by kernel_rfl) (fun _ _ _ h => h) (Or.inl ⟨by rfl, ?_⟩) hS ?_
      rotate_left
      · intro wq hq
        first | (go_simp; done) | (go_simp; rfl)
      try simp only [Act.put, List.setIfInBounds_toArray, List.set_cons_zero, List.set_cons_succ]
      refine wpAnyH_take (i := 2) (oi := ⟨some 23, _, _, _, _, _⟩) (v := ?_) rfl (by kernel_rfl) (by kernel_rfl) (by kernel_rfl) (fun _ _ _ h => h) (Or.inl ⟨by rfl, ?_⟩) hS ?_
      rotate_left
      · intro wq hq
        first | (go_simp; done) | (go_simp; rfl)
      try simp only [Act.put, List.setIfInBounds_toArray, List.set_cons_zero, List.set_cons_succ]
      refine wpAnyH_take (i := 5) (oi := ⟨some 26, _, _, _, _, _⟩) (v := ?_) rfl (by kernel_rfl) (by kernel_rfl) (by kernel_rfl) (fun _ _ _ h => h) (Or.inl ⟨by rfl, ?_⟩) hS ?_
      rotate_left
      · intro wq hq
        first | (go_simp; done) | (go_simp; rfl)
      try simp only [Act.put, List.setIfInBounds_toArray, List.set_cons_zero, List.set_cons_succ]
      refine wpAnyH_take (i := 6) (oi := ⟨some 27, _, _, _, _, _⟩) (v := ?_) rfl (by kernel_rfl) (by kernel_rfl) (by kernel_rfl) (fun _ _ _ h => h) (Or.inl ⟨by rfl, ?_⟩) hS ?_
      rotate_left
      · intro wq hq
        first | (go_simp; done) | (go_simp; rfl)
      try simp only [Act.put, List.setIfInBounds_toArray, List.set_cons_zero, List.set_cons_succ]
      refine wpAnyH_take (i := 3) (oi := ⟨some 24, _, _, _, _, _⟩) (v := ?_) rfl (by kernel_rfl) (by kernel_rfl) (by kernel_rfl) (fun _ _ _ h => h) (Or.inl ⟨by rfl, ?_⟩) hS ?_
      rotate_left
      · intro wq hq
        first | (go_simp; done) | (go_simp; rfl)
      try simp only [Act.put, List.setIfInBounds_toArray, List.set_cons_zero, List.set_cons_succ]
      refine wpAnyH_take (i := 7) (oi := ⟨some 28, _, _, _, _, _⟩) (v := ?_) rfl (by kernel_rfl) (by kernel_rfl) (by kernel_rfl) (fun _ _ _ h => h) (Or.inl ⟨by rfl, ?_⟩) hS ?_
      rotate_left
      · intro wq hq
        first | (go_simp; done) | (go_simp; rfl)
      try simp only [Act.put, List.setIfInBounds_toArray, List.set_cons_zero, List.set_cons_succ]
      refine wpAnyH_take (i := 4) (oi := ⟨some 25, _, _, _, _, _⟩) rfl (by kernel_rfl) (by kernel_rfl) (by kernel_rfl) (fun _ _ _ h => h) (yieldsIf_load_mid (by rfl) 52 _ rfl _ _ rfl (u8s x) _ (fun wq hq => HR0.out wq hq) Tryd.underlying52 rfl (by simpa using comm_size x ok.1)) hS ?_
      try simp only [Act.put, List.setIfInBounds_toArray, List.set_cons_zero, List.set_cons_succ]
      refine wpAnyH_take (i := 8) (oi := ⟨some 29, _, _, _, _, _⟩) rfl (by kernel_rfl) (by kernel_rfl) (by kernel_rfl) (fun _ _ _ h => h) (yieldsIf_load_mid (by rfl) 52 _ rfl _ _ rfl (u8s y) _ (fun wq hq => HR1.out wq hq) Tryd.underlying52 rfl (by simpa using comm_size y ok'.1)) hS ?_
      try simp only [Act.put, List.setIfInBounds_toArray, List.set_cons_zero, List.set_cons_succ]
      refine wpAnyH_ready (rs := [9]) (by kernel_rfl) (by simp) ?_
      refine AllReadyH.cons (o := ⟨some 30, _, _, _, _, _⟩) rfl (fun K hK => ?_) AllReadyH.nil
      rw [if_pos (by rfl)]
      go_wp2_with fail
      refine (ccmp_is _ x y ok.1 ok'.1 ok.2 ok'.2).mono ?_
      rintro e u1 ⟨rfl, hB⟩
      have hS1 := hS.below hB
      clear hB
      refine hK.out _ _ (hS1) (fun hS => ?_)
      clear hK K
      try simp only [Act.put, List.setIfInBounds_toArray, List.set_cons_zero, List.set_cons_succ]
      obtain ⟨cv, hcv⟩ : ∃ cv, cmpI x y = cv := ⟨_, rfl⟩
      rw [hcv] at HX
      rw [hcv]
      have hneg : cv < 0 := HX.out
      clear hcv
      have hge : ¬ cv ≥ 0 := by omega
      refine wpAnyH_take (i := 10) (oi := ⟨some 31, _, _, _, _, _⟩) (v := ?_) rfl (by kernel_rfl) (by kernel_rfl) (by kernel_rfl) (fun _ _ _ h => h) (Or.inl ⟨by rfl, ?_⟩) hS ?_
      rotate_left
      · intro wq hq
        first | (go_simp; done) | (go_simp; rfl)
      try simp only [Act.put, List.setIfInBounds_toArray, List.set_cons_zero, List.set_cons_succ]
      refine wpAnyH_done (by kernel_rfl) ?_ _
      have HO2 := Lib.hid hS1
      clear hS hS1 HR0 HR1 HO1
      go_wp2
      exact ⟨⟨j + 1, Or.inl (by omega), by push_cast; rfl, HO2.out⟩, by simp [intOf]; omega⟩
    · have HO1 := Lib.hid hO
      have hge : ¬ ((j : Int) + 1 < (ss.length : Int)) := by omega
      clear hO
      go_wp2
      go_loopw [5, 6] (fun v i wr => ∃ (k : Nat) (z : Int), z = (k : Int) - 1 ∧ k ≤ n ∧ i = .int .i64 z ∧ OwnC lo wr v (ls.drop k).reverse ∧ OS w wr lo g A n ls ss) (fun _ i _ => (intOf i + 1).toNat)
      case atStart =>
        refine ⟨n, (n : Int) - 1, rfl, Nat.le_refl _, by first | rfl | (congr 1; omega), ?_, HO1.out⟩
        rw [← hlA, List.drop_length]
        exact ⟨World.ownsRow_nil _ _ _ _, All8.nil_⟩
      case round =>
        obtain ⟨k, z, hz, hk, rfl, hown, hO⟩ := hrel
        clear HO1
        by_cases hk0 : k = 0
        · subst hk0
          obtain rfl : z = -1 := by omega
          rw [List.drop_zero] at hown
          have HOwn := Lib.hid hown
          have HO2 := Lib.hid hO
          clear hown hO hz
          go_wp2
          generalize hwv : wr = wv at *
          clear hwv
          go_loopw [8, 55] (fun _ i wr => ∃ m : Nat, m ≤ ss.length ∧ i = .int .i64 m ∧ OwnC lo wr u5 ls.reverse ∧ OS w wr lo g A n ls ss) (fun _ i _ => ss.length - (intOf i).toNat)
          case atStart => exact ⟨0, Nat.zero_le _, rfl, HOwn.out, HO2.out⟩
          case round =>
            obtain ⟨m, hm, rfl, hown, hO⟩ := hrel
            clear HOwn HO2
            by_cases hlt : m < ss.length
            · have ok := hO.s.ok.at_ m hlt
              have HC := Lib.hid (hO.s.at_ m hlt)
              have HMem := Lib.hid ((HIn.out ss[m]).1 (List.getElem_mem hlt))
              generalize ss[m] = y at *
              obtain ⟨nb, s0, s1⟩ := new_comm hO.low y
              have HN := Lib.hid (Blk.new wr 52 zc8)
              have HB1 := Lib.hid nb
              have HO3 := Lib.hid (hO.below s1)
              have HOwn2 := Lib.hid (hown.below s1)
              clear nb s0 s1 hO hown
              go_wp2_with (first
                | (refine comm_store rfl _ _ rfl wr.heap.size y ok.1 rfl rfl 52 zc8 HN.out rfl ?_)
                | (refine comm_fetch rfl _ rfl g (m * 8) y ok.1 rfl HC.out ?_)
                | (refine comm_fetch rfl _ rfl wr.heap.size 0 y ok.1 rfl HB1.out.range ?_))
              refine (in_is _ A n c ls y HO3.out.l' (by omega) ok.1 ok.2).mono ?_
              rintro e w3 ⟨rfl, hB⟩
              have hin : decide (y ∈ ls) = true := by simpa using HMem.out
              rw [hin]
              have HO4 := Lib.hid (HO3.out.below hB)
              have HOwn3 := Lib.hid (HOwn2.out.below hB)
              clear hB hin HO3 HOwn2 HB1 HN HC
              go_wp2
              exact ⟨⟨m + 1, by omega, by go_num, HOwn3.out, HO4.out⟩, by simp [intOf]; omega⟩
            · obtain rfl : m = ss.length := by omega
              obtain ⟨B1, d1, rfl, hr1⟩ := hown.rd
              rw [show ls.reverse.length = n by rw [List.length_reverse]; exact hlA] at hr1
              have HR1 := Lib.hid hr1
              have HO3 := Lib.hid hO
              clear hown hO hr1
              go_wp2_with fail
              refine (set_is _ B1 n d1 ls.reverse HR1.out (by omega)).mono ?_
              rw [HRev.out]
              rintro e w3 ⟨g3, rfl, hrow, hg0, hg1, hB⟩
              have HO4 := Lib.hid (HO3.out.below hB)
              have HRd := Lib.hid (hrow.rd hg1)
              clear hB hrow hg0 hg1 HR1 HO3
              go_wp2_with fail
              refine (same_is _ (some ⟨g3, 0, none⟩) (some ⟨g, 0, none⟩) ss.length _ _ ss HRd.out HO4.out.s' (by omega)).mono ?_
              rintro e w4 ⟨rfl, hB⟩
              have HO5 := Lib.hid (HO4.out.below hB)
              clear hB HRd HO4
              go_wp2_with fail
              refine (set_is _ (some ⟨g, 0, none⟩) ss.length n ss HO5.out.s' (by omega)).mono ?_
              rw [HSet.out]
              rintro e w5 ⟨g5, rfl, hrow, hg0, hg1, hB⟩
              have HO6 := Lib.hid (HO5.out.below hB)
              have HRd := Lib.hid (hrow.rd hg1)
              clear hB hrow hg0 hg1 HO5
              go_wp2_with fail
              refine (same_is _ (some ⟨g5, 0, none⟩) (some ⟨g, 0, none⟩) ss.length _ _ ss HRd.out HO6.out.s' (by omega)).mono ?_
              rintro e w6 ⟨rfl, hB⟩
              have HO7 := Lib.hid (HO6.out.below hB)
              clear hB HRd HO6
              go_wp2_with fail
              refine (alive4_is _ HO7.out.env).mono ?_
              rintro e w7 ⟨rfl, hB⟩
              have HO8 := Lib.hid (HO7.out.below hB)
              clear hB HO7
              go_wp2
              go_ret
              exact ⟨rfl, HO8.out.low⟩
        · obtain ⟨m, rfl⟩ : ∃ m, k = m + 1 := ⟨k - 1, by omega⟩
          obtain rfl : z = (m : Int) := by omega
          have hml : m < ls.length := by omega
          have ok := hO.l.ok.at_ m hml
          obtain ⟨b, off, rfl, hbl, hcell⟩ := hO.l.at_ (by omega)
          have HRm : Hid (∀ wq, OS w wq lo g (some ⟨b, off, none⟩) n ls ss → wq.rangeAt b (off + m * 8) (u8s ls[m])) := Lib.hid fun wq hq => by
            obtain ⟨b', off', e, _, hc⟩ := hq.l.at_ (by omega)
            cases e
            exact hc m hml
          have HD : Hid ((ls.drop m).reverse = (ls.drop (m + 1)).reverse ++ [ls[m]]) := Lib.hid (by rw [List.drop_eq_getElem_cons hml, List.reverse_cons])
          have HMem := Lib.hid ((HIn.out ls[m]).2 (List.getElem_mem hml))
          have HLen : Hid ((ls.drop (m + 1)).reverse.length ≤ 1000000) := Lib.hid (by rw [List.length_reverse, List.length_drop]; omega)
          clear hcell hz
          generalize ls[m] = y at *
          have HOwn := Lib.hid hown
          have HO2 := Lib.hid hO
          have HR0 := Lib.hid (HRm.out _ hO)
          have hf8 := fold8 y ok.1
          have i0 : (0 : Int) ≤ (m : Int) := by omega
          have i1 : (m : Int) < (n : Int) := by omega
          clear hown hO
          go_wp2_with (first
            | (refine comm_fetch rfl _ rfl b (off + m * 8) y ok.1 rfl HR0.out ?_)
            | (at_builtin; refine app_comm rfl _ _ rfl HOwn.out HO2.out.lo1 HLen.out y ok.1 ok.2 rfl rfl ?_))
          intro v' w2 ho2 hb2
          rw [← HD.out] at ho2
          have HOwn2 := Lib.hid ho2
          have hO2 := HO2.out.belowlo HE.out hb2
          have HO3 := Lib.hid hO2
          have HR1 := Lib.hid (HRm.out _ hO2)
          clear ho2 hb2 hO2 HOwn HO2 HR0 hf8
          go_wp2_with (refine comm_fetch rfl _ rfl b (off + m * 8) y ok.1 rfl HR1.out ?_)
          refine (in_is _ (some ⟨g, 0, none⟩) ss.length n ss y HO3.out.s' (by omega) ok.1 ok.2).mono ?_
          rintro e w3 ⟨rfl, hB⟩
          have hin : decide (y ∈ ss) = true := by simpa using HMem.out
          rw [hin]
          have HO4 := Lib.hid (HO3.out.below hB)
          have HOwn3 := Lib.hid (HOwn2.out.below hB)
          clear hB hin HO3 HOwn2 HR1
          go_wp2
          exact ⟨⟨m, (m : Int) - 1, rfl, by omega, by first | rfl | (congr 1; omega), HOwn3.out, HO4.out⟩, by first | (simp [intOf]; done) | (simp [intOf]; omega)⟩
end Go.Proofs.YtkaimdcepnhkdaaDoor
namespace Go.Proofs.YtkaimdcepnhkdaaDoor.commOrders
open Go.ChangeShapes Go.WideShapes Go.ChangeAt Go.RowKit
open Go.ChangeMaps (open_string shut_string)
set_option linter.unusedVariables false

theorem own : ownKnob Tryd.prog.godebug = none := by kernel_rfl
theorem laidOut : laidOutB Tryd.prog = true := by kernel_rfl

set_option maxRecDepth 100000 in
theorem lifted (os : Os) (started : os.Started) (H : Type) (enc : TypeId × Value → H) :
    ReturnsInHanded {} Tryd.checked os 9 .any (fun w args => (Rows.commOrdersSpec.pre enc Tryd.prog Tryd.f9 [] false w args ∧ laidMetH Tryd.prog laidL3 w) ∧ sizedMet enc Tryd.prog Tryd.f9 (OpenSpec.ofChange Rows.commOrdersSpec) false w args)
      (Rows.commOrdersSpec.post enc Tryd.prog Tryd.f9 false true false false) := by
  refine wrap_rows (C := Tryd.checked) (X := fun w _ => laidMetH Tryd.prog laidL3 w) (fun _ _ _ hh h => h.of_heap hh) own started (by kernel_rfl) Tryd.func9
    (ChangeSpec.witness_shaped (enc := enc) (C := Tryd.checked) (os := os) (X := fun w _ => laidMetH Tryd.prog laidL3 w) false (World.laidAll Tryd.prog os laidL3) #[.slice none 0 0] 8 (World.laidAll_os _ _ _)
      (World.shaped_of_ZipB (by kernel_rfl) (by kernel_rfl)) (by kernel_rfl) (by kernel_rfl) (by kernel_rfl)
      (by rw [MakeChecks.laidMetH_plain _ _ _ (by kernel_rfl)]; exact laidMet_laidAll _ (by kernel_rfl) (by kernel_rfl))) ?_
  intro W base args ds gs before hval0 hW hsz0 hL0 hshape
  have hval : ∀ (j : Nat) t v, Tryd.f9.params[j]? = some t → args[j]? = some v → Value.okWide Tryd.prog W .any base t v := hval0
  have hsz : (DataW.weightsEach Tryd.prog (Tryd.f9.params.toList ++ Rows.commOrdersSpec.plain.varTypes Tryd.prog) (ds ++ gs)).all (· ≤ reachBytes) = true := hsz0
  have hL : laidMetH Tryd.prog laidL3 W := hL0
  rw [MakeChecks.laidMetH_plain _ _ _ (by kernel_rfl)] at hL
  have E : Env W := env_of3 hshape hL
  have hW' := hW
  obtain ⟨p, q, hA0, hV, rfl, hfz, hnd⟩ := hW
  have hA : DataW.TrodAll enc Tryd.prog W 0 (fun _ => true) true Tryd.f9.params.toList args.toList ds p := hA0
  rw [Tryd.params9] at hA hval hsz
  obtain ⟨v0, vs0, d0, ds0, p0, q0, hargs, rfl, rfl, h0, r0⟩ := trodAll_cons hA
  obtain ⟨rfl, rfl, rfl⟩ := trodAll_nil r0
  obtain rfl : args = #[v0] := by cases args; simp_all
  obtain ⟨rfl, rfl⟩ := trodVars_none hV
  obtain ⟨a0, len0, cap0, rfl⟩ := okWide_slice Tryd.underlying69 (hval 0 69 v0 rfl rfl)
  have lt0 : ∀ x ∈ p0, x.block < W.heap.size := by obtain ⟨m, hm⟩ := h0; exact DataW.trod_lt m _ _ _ hm
  obtain ⟨l0, rd0, sz0⟩ := open_comms Tryd.underlying69 Tryd.underlying52 Tryd.underlying5 (by kernel_rfl) (by kernel_rfl) (by kernel_rfl) h0 hsz (j := 0) rfl rfl
  clear hA0 hval0 hsz hsz0
  refine (commOrders_walk W E a0 len0 cap0 l0 rd0 sz0).mono fun e W' ⟨he, bel⟩ => ?_
  subst he
  exact ⟨_, rfl, _, _, _, [], _, [], hW', trodAll_mk1 (shut_bool Tryd.underlying4 _), (trodAll_cons_mk (Below.trod laidOut (by kernel_rfl) (of_decide_eq_true (by kernel_rfl)) h0 bel lt0) trodAll_mk0), rfl, bel.frame _, fun h => by cases h⟩

theorem over : Rows.commOrdersRow.holds Tryd.pinned (OpenSpec.ofChange Rows.commOrdersSpec) :=
  OpenClaim.holds_of_wide 9 Tryd.f9 rfl rfl rfl rfl rfl rfl rfl ⟨rfl, rfl, rfl, rfl, rfl⟩ rfl rfl rfl rfl rfl (by kernel_rfl) Tryd.func9 (by kernel_rfl)
    (of_decide_eq_true (by kernel_rfl)) (by unfold Func.isWrapper; first | (rw [if_pos (by decide +kernel)]; kernel_rfl) | (rw [if_neg (by decide +kernel)]; exact ⟨rfl, rfl⟩))
    (fun os started H enc _ => lifted os started H enc)

theorem proved : Rows.CommOrdersCardSaid :=
  Claim7.holds_tied_plain_at .later [] [.data, .data, .data] true Rows.commOrdersCard.stood.harness false
    over (fun _ h => by cases h) (by kernel_rfl) (fun _ h => by cases h) commOrders_row_tie rfl ⟨rfl, rfl⟩ (by kernel_rfl) rfl
    (fun f fn hf hfn => by
      obtain rfl : f = 9 := Option.some.inj ((show Tryd.prog.funcNamed "weft/weftlaw04.CommOrders" = some 9 by kernel_rfl).symm.trans hf) |>.symm
      obtain rfl : fn = Tryd.f9 := (Option.some.inj (Tryd.func9.symm.trans hfn)).symm
      exact ⟨by kernel_rfl, fun j t ht => by
        rw [Tryd.params9] at ht
        have hm : t ∈ [69] := by simpa using Array.mem_of_getElem? ht
        have hall : ([69].all fun u => !Tryd.prog.wantsStandIn u) = true := by kernel_rfl
        exact (show Tryd.prog.wantsStandIn t = false by simpa using List.all_eq_true.1 hall t hm)⟩)
    (by kernel_rfl)
#print axioms proved
end Go.Proofs.YtkaimdcepnhkdaaDoor.commOrders
