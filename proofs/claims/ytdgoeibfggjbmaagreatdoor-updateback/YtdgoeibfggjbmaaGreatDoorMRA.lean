/-
  Put together: UrA UrB UrC.
-/
import Derived.Test.YtdgoeibfggjbmaaGreatDoorMPA
import Derived.Test.YtdgoeibfggjbmaaGreatDoorMQA
import Derived.Test.YtdgoeibfggjbmaaGreatDoorMNG
import Derived.Test.YtdgoeibfggjbmaaGreatDoorMNM
namespace Go.Proofs.YtdgoeibfggjbmaaGreatDoor
open Go.RowKit
set_option maxRecDepth 100000
set_option linter.unusedSimpArgs false
set_option linter.unusedVariables false

theorem pl1_is (w : World) (f k2 : Int) (A : Option Addr) (n c : Nat) (b : Nat) (k : Int) (hb : w.cell? ⟨b, 0, none⟩ = some (.int .i64 k)) (hlt : b < w.heap.size) :
    Calls Tryz.prog 174 #[.agg #[.int .i64 f, .int .i64 k2, .slice A n c], .pointer (some ⟨b, 0, none⟩)] w fun e w' => e = .returned (.bool (decide (k2 = k))) ∧ Below w.heap.size w w' := by
  have hal := bl_one w (.cells #[.int .i64 f, .int .i64 k2, .slice A n c] 67)
  have HB := Lib.hid hal
  have h1 : (w.alloc (.cells #[.int .i64 f, .int .i64 k2, .slice A n c] 67)).cell? ⟨b, 0, none⟩ = some (.int .i64 k) := (hal.cell (p := ⟨b, 0, none⟩) hlt).trans hb
  have h2 : (w.alloc (.cells #[.int .i64 f, .int .i64 k2, .slice A n c] 67)).cell? ⟨w.heap.size, 1, none⟩ = some (.int .i64 k2) := (Blk.new w 67 #[.int .i64 f, .int .i64 k2, .slice A n c]).cell 1
  clear hal
  by_cases e : k2 = k
  · have e0 : (k2 == k) = true := by simpa using e
    have HE : Hid (decide (k2 = k) = true) := Lib.hid (by simpa using e)
    clear e
    go_enter Tryz.func174, Tryz.ntmps174
    go_wp2
    go_ret
    exact ⟨by rw [HE.out]; rfl, HB.out⟩
  · have e0 : (k2 == k) = false := by simpa using e
    have HE : Hid (decide (k2 = k) = false) := Lib.hid (by simpa using e)
    clear e
    go_enter Tryz.func174, Tryz.ntmps174
    go_wp2
    go_ret
    exact ⟨by rw [HE.out]; rfl, HB.out⟩
set_option maxHeartbeats 1000000 in
theorem idxRaw_is (w : World) (A : Option Addr) (n c : Nat) (rs : List Raw) (hr : RdR w w.heap.size A n rs) (hn : n ≤ 1048576) (b : Nat) (k : Int) (hb : w.cell? ⟨b, 0, none⟩ = some (.int .i64 k)) (hlt : b < w.heap.size) :
    Calls Tryz.prog 173 #[.slice A n c, .func (.func 174) #[] #[.pointer (some ⟨b, 0, none⟩)]] w fun e w' => e = .returned (.int .i64 (plc rs k)) ∧ Below w.heap.size w w' := by
  have HR := Lib.hid hr
  have HLen := Lib.hid hr.len
  have HBk := Lib.hid hb
  clear hr hb
  go_enter Tryz.func173, Tryz.ntmps173
  go_wp2
  go_loopw [5, 8] (fun _ i wr => ∃ m : Nat, m ≤ n ∧ i = .int .i64 m ∧ (Below w.heap.size w wr ∧ ∀ j (hj : j < rs.length), j < m → rs[j].2.1 ≠ k)) (fun _ i _ => n - (intOf i).toNat)
  case atStart => exact ⟨0, Nat.zero_le _, rfl, Below.refl _ _, fun j hj h => by omega⟩
  case round =>
    obtain ⟨m, hm, rfl, hrel⟩ := hrel
    have HRel := Lib.hid hrel
    clear hrel
    by_cases hlt2 : m < n
    · have hml : m < rs.length := by have := HLen.out; omega
      obtain ⟨b2, off, A1, n1, c1, rfl, hb2, x0, x1, x2, _⟩ := (HR.out.below HRel.out.1).get hml
      have HX0 := Lib.hid x0
      have HX1 := Lib.hid x1
      have HX2 := Lib.hid x2
      have HYes := Lib.hid (fun (h : rs[m].2.1 = k) => plc_at hml HRel.out.2 h)
      have HNo := Lib.hid (fun (h : ¬ rs[m].2.1 = k) j (hj : j < rs.length) (hjm : j < m + 1) => (show rs[j].2.1 ≠ k from by
        rcases Nat.lt_or_ge j m with h1 | h1
        · exact HRel.out.2 j hj h1
        · obtain rfl : j = m := by omega
          exact h))
      generalize rs[m].1 = f1 at *
      generalize rs[m].2.1 = k1 at *
      have HP := Lib.hid (pl1_is wr f1 k1 A1 n1 c1 b k ((HRel.out.1.cell (p := ⟨b, 0, none⟩) hlt).trans HBk.out) (Nat.lt_of_lt_of_le hlt HRel.out.1.size))
      have hi0 : (0 : Int) ≤ (m : Int) := by omega
      have hi1 : (m : Int) < (n : Int) := by omega
      clear x0 x1 x2
      by_cases e : k1 = k
      · rw [decide_eq_true e] at HP
        have HY := Lib.hid (HYes.out e)
        clear e HYes HNo
        go_wp2_with (first | (refine raw_fetch rfl _ rfl b2 (off + m * 3) f1 k1 A1 n1 c1 rfl HX0.out HX1.out HX2.out ?_) | (go_at_call 174; refine HP.out.mono ?_; rintro e w2 ⟨rfl, hB⟩; have HB2 := Lib.hid (HRel.out.1.trans (hB.mono HRel.out.1.size)); clear hB) | fail)
        go_ret
        exact ⟨by rw [HY.out]; rfl, HB2.out⟩
      · rw [decide_eq_false e] at HP
        have HY := Lib.hid (HNo.out e)
        clear e HYes HNo
        go_wp2_with (first | (refine raw_fetch rfl _ rfl b2 (off + m * 3) f1 k1 A1 n1 c1 rfl HX0.out HX1.out HX2.out ?_) | (go_at_call 174; refine HP.out.mono ?_; rintro e w2 ⟨rfl, hB⟩; have HB2 := Lib.hid (HRel.out.1.trans (hB.mono HRel.out.1.size)); clear hB) | fail)
        exact ⟨⟨m + 1, by omega, by go_num, HB2.out, HY.out⟩, by simp [intOf]; omega⟩
    · obtain rfl : m = n := by omega
      have HY : Hid (plc rs k = -1) := Lib.hid (plc_no fun j hj => HRel.out.2 j hj (by have := HLen.out; omega))
      go_wp2
      go_ret
      exact ⟨by rw [HY.out]; rfl, HRel.out.1⟩
theorem place7_is (w : World) (A : Option Addr) (n c : Nat) (rs : List Raw) (k : Int) (hr : RdR w w.heap.size A n rs) (hn : n ≤ 1048576) :
    Calls Tryz.prog 118 #[.slice A n c, .int .i64 k] w fun e w' => e = .returned (.int .i64 (plc rs k)) ∧ Below w.heap.size w w' := by
  have hal := bl_one w (.cells #[.int .i64 k] 3)
  have HP := Lib.hid (idxRaw_is (w.alloc (.cells #[.int .i64 k] 3)) A n c rs ((hr.below hal).more hal.size) hn w.heap.size k ((Blk.new w 3 #[.int .i64 k]).cell 0) (by simp))
  have HB := Lib.hid hal
  have hmf : ∀ (fn : Fn) (first cap : Array Value) (w : World), (Instr.makeFunc fn first cap).run Tryz.prog w = .ok (.func fn first cap) w := fun _ _ _ _ => rfl
  clear hr hal
  go_enter Tryz.func118, Tryz.ntmps118
  go_wp2_with fail
  refine HP.out.mono ?_
  rintro e w2 ⟨rfl, hB⟩
  have HB2 := Lib.hid (HB.out.trans (hB.mono HB.out.size))
  clear hB
  go_wp2
  go_ret
  exact ⟨rfl, HB2.out⟩

/-! standAll. -/
theorem sa1_is (w : World) (b : Nat) (A : Option Addr) (n c : Nat) (rs : List Raw) (hr : RdR w w.heap.size A n rs) (hn : n ≤ 1048576) (hb : w.cell? ⟨b, 0, none⟩ = some (.slice A n c)) (k : Int) :
    Calls Tryz.prog 178 #[.int .i64 k, .pointer (some ⟨b, 0, none⟩)] w fun e w' => e = .returned (.bool (!hasK rs k)) ∧ Below w.heap.size w w' := by
  have HP := Lib.hid (place7_is w A n c rs k hr hn)
  have HK : Hid (hasK rs k = decide (0 ≤ plc rs k)) := Lib.hid rfl
  clear hr
  generalize plc rs k = p at *
  by_cases e : p < 0
  · have HE : Hid (decide (0 ≤ p) = false) := Lib.hid (decide_eq_false (by omega))
    go_enter Tryz.func178, Tryz.ntmps178
    go_wp2_with fail
    refine HP.out.mono ?_
    rintro e w2 ⟨rfl, hB⟩
    have HB := Lib.hid hB
    clear hB
    go_wp2
    go_ret
    exact ⟨by rw [HK.out, HE.out]; rfl, HB.out⟩
  · have HE : Hid (decide (0 ≤ p) = true) := Lib.hid (decide_eq_true (by omega))
    have e3 : decide (p < 0) = false := decide_eq_false e
    go_enter Tryz.func178, Tryz.ntmps178
    go_wp2_with fail
    refine HP.out.mono ?_
    rintro e w2 ⟨rfl, hB⟩
    have HB := Lib.hid hB
    clear hB
    go_wp2
    go_ret
    exact ⟨by rw [HK.out, HE.out]; rfl, HB.out⟩
def IdxI (w : World) (P : Bool) (e : Ending) (w' : World) : Prop := ∃ i : Int, e = .returned (.int .i64 i) ∧ (decide (0 ≤ i) = !P) ∧ Below w.heap.size w w'
theorem all_no {ks : List Int} {p : Int → Bool} {m : Nat} (hm : m < ks.length) (h : p ks[m] = false) : ks.all p = false := by
  rw [List.all_eq_false]
  exact ⟨ks[m], List.getElem_mem hm, by rw [h]; decide⟩
theorem all_yes {ks : List Int} {p : Int → Bool} (h : ∀ j (hj : j < ks.length), p ks[j] = true) : ks.all p = true := by
  rw [List.all_eq_true]
  intro r hr
  obtain ⟨j, hj, rfl⟩ := List.getElem_of_mem hr
  exact h j hj
set_option maxHeartbeats 1000000 in
theorem idxInt_is (w : World) (b : Nat) (A : Option Addr) (n c : Nat) (rs : List Raw) (hr : RdR w w.heap.size A n rs) (hn : n ≤ 1048576) (hb : w.cell? ⟨b, 0, none⟩ = some (.slice A n c)) (hlt : b < w.heap.size) (q : Nat) (ks : List Int) (hq : q < w.heap.size) (hk : ∀ j (hj : j < ks.length), w.cell? ⟨q, 0 + j, none⟩ = some (.int .i64 ks[j])) (hkn : ks.length ≤ 1000) (kc : Nat) :
    Calls Tryz.prog 215 #[.slice (some ⟨q, 0, none⟩) ks.length kc, .func (.func 178) #[] #[.pointer (some ⟨b, 0, none⟩)]] w (IdxI w (ks.all (hasK rs))) := by
  have HR := Lib.hid hr
  have HBk := Lib.hid hb
  have HK := Lib.hid hk
  have hnn : ∃ N, N = ks.length := ⟨_, rfl⟩
  obtain ⟨N, hN⟩ := hnn
  rw [← hN]
  have HN := Lib.hid hN
  rw [← hN] at hkn
  clear hr hb hk hN
  go_enter Tryz.func215, Tryz.ntmps215
  go_wp2
  go_loopw [5, 8] (fun _ i wr => ∃ m : Nat, m ≤ N ∧ i = .int .i64 m ∧ (Below w.heap.size w wr ∧ ∀ j (hj : j < ks.length), j < m → hasK rs ks[j] = true)) (fun _ i _ => N - (intOf i).toNat)
  case atStart => exact ⟨0, Nat.zero_le _, rfl, Below.refl _ _, fun j hj h => by omega⟩
  case round =>
    obtain ⟨m, hm, rfl, hrel⟩ := hrel
    have HRel := Lib.hid hrel
    clear hrel
    by_cases hlt2 : m < N
    · have hml : m < ks.length := by have := HN.out; omega
      have hx : wr.cell? ⟨q, 0 + m, none⟩ = some (.int .i64 ks[m]) := (HRel.out.1.cell (p := ⟨q, 0 + m, none⟩) hq).trans (HK.out m hml)
      rw [Nat.zero_add] at hx
      have HNo := Lib.hid (fun (h : hasK rs ks[m] = false) => all_no (p := hasK rs) hml h)
      have HYes := Lib.hid (fun (h : hasK rs ks[m] = true) j (hj : j < ks.length) (hjm : j < m + 1) => (show hasK rs ks[j] = true from by
        rcases Nat.lt_or_ge j m with h1 | h1
        · exact HRel.out.2 j hj h1
        · obtain rfl : j = m := by omega
          exact h))
      generalize ks[m] = k1 at *
      have HP := Lib.hid (sa1_is wr b A n c rs ((HR.out.below HRel.out.1).more HRel.out.1.size) hn ((HRel.out.1.cell (p := ⟨b, 0, none⟩) hlt).trans HBk.out) k1)
      have hi0 : (0 : Int) ≤ (m : Int) := by omega
      have hi1 : (m : Int) < (N : Int) := by omega
      cases e : hasK rs k1
      · rw [e] at HP
        have HY := Lib.hid (HNo.out e)
        clear e HYes HNo
        go_wp2_with (first | (go_at_call 178; refine HP.out.mono ?_; rintro e w2 ⟨rfl, hB⟩; have HB2 := Lib.hid (HRel.out.1.trans (hB.mono HRel.out.1.size)); clear hB) | fail)
        go_ret
        exact ⟨m, rfl, by rw [HY.out]; simp, HB2.out⟩
      · rw [e] at HP
        have HY := Lib.hid (HYes.out e)
        clear e HYes HNo
        go_wp2_with (first | (go_at_call 178; refine HP.out.mono ?_; rintro e w2 ⟨rfl, hB⟩; have HB2 := Lib.hid (HRel.out.1.trans (hB.mono HRel.out.1.size)); clear hB) | fail)
        exact ⟨⟨m + 1, by omega, by go_num, HB2.out, HY.out⟩, by simp [intOf]; omega⟩
    · obtain rfl : m = N := by omega
      have HY : Hid (ks.all (hasK rs) = true) := Lib.hid (all_yes fun j hj => HRel.out.2 j hj (by have := HN.out; omega))
      go_wp2
      go_ret
      exact ⟨-1, rfl, by rw [HY.out]; rfl, HRel.out.1⟩
theorem standAll_is (w : World) (A : Option Addr) (n c : Nat) (rs : List Raw) (hr : RdR w w.heap.size A n rs) (hn : n ≤ 1048576) (q : Nat) (ks : List Int) (hq : q < w.heap.size) (hk : ∀ j (hj : j < ks.length), w.cell? ⟨q, 0 + j, none⟩ = some (.int .i64 ks[j])) (hkn : ks.length ≤ 1000) (kc : Nat) :
    Calls Tryz.prog 123 #[.slice A n c, .slice (some ⟨q, 0, none⟩) ks.length kc] w fun e w' => e = .returned (.bool (ks.all (hasK rs))) ∧ Below w.heap.size w w' := by
  have hal := bl_one w (.cells #[.slice A n c] 64)
  have HI := Lib.hid (idxInt_is (w.alloc (.cells #[.slice A n c] 64)) w.heap.size A n c rs ((hr.below hal).more hal.size) hn ((Blk.new w 64 #[.slice A n c]).cell 0) (by simp) q ks (by simp; omega) (fun j hj => (hal.cell (p := ⟨q, 0 + j, none⟩) hq).trans (hk j hj)) hkn kc)
  have HB := Lib.hid hal
  have hmf : ∀ (fn : Fn) (first cap : Array Value) (w : World), (Instr.makeFunc fn first cap).run Tryz.prog w = .ok (.func fn first cap) w := fun _ _ _ _ => rfl
  have HC : Calls Tryz.prog 177 #[.slice (some ⟨q, 0, none⟩) ks.length kc, .func (.func 178) #[] #[.pointer (some ⟨w.heap.size, 0, none⟩)]] (w.alloc (.cells #[.slice A n c] 64)) fun e w' => e = .returned (.bool (!ks.all (hasK rs))) ∧ Below (w.alloc (.cells #[.slice A n c] 64)).heap.size (w.alloc (.cells #[.slice A n c] 64)) w' := by
    clear hr hk hal hmf
    generalize ks.all (hasK rs) = P at *
    generalize ks.length = N at *
    go_enter Tryz.func177, Tryz.ntmps177
    go_wp2_with fail
    refine HI.out.mono ?_
    rintro e w2 ⟨i, rfl, hi, hB⟩
    have HB := Lib.hid hB
    have HIi := Lib.hid hi
    clear hB hi
    go_wp2
    go_ret
    exact ⟨by rw [← HIi.out]; rfl, HB.out⟩
  have HCC := Lib.hid HC
  clear HC hr HI hk hal
  generalize ks.all (hasK rs) = P at *
  generalize ks.length = N at *
  cases P
  · go_enter Tryz.func123, Tryz.ntmps123
    go_wp2_with fail
    refine HCC.out.mono ?_
    rintro e w2 ⟨rfl, hB⟩
    have HB2 := Lib.hid (HB.out.trans (hB.mono HB.out.size))
    clear hB
    go_wp2
    go_ret
    exact ⟨rfl, HB2.out⟩
  · go_enter Tryz.func123, Tryz.ntmps123
    go_wp2_with fail
    refine HCC.out.mono ?_
    rintro e w2 ⟨rfl, hB⟩
    have HB2 := Lib.hid (HB.out.trans (hB.mono HB.out.size))
    clear hB
    go_wp2
    go_ret
    exact ⟨rfl, HB2.out⟩

/-! A body's attributes. -/
section
variable {A0 : Option Addr} {c0 : Nat}
theorem skipS (w : World) (g : Nat) (l : List Int) (s : CS) (k : Int) (h : CurS A0 c0 w g l s) :
    Calls Tryz.prog 112 #[.pointer (some ⟨g, 0, none⟩), .int .i64 k] w fun e w' => e = .returned (.tuple #[]) ∧ CurS A0 c0 w' g l (tS l s k) ∧ w.grownBy w' (some g) := by
  have H := Lib.hid h
  clear h
  go_enter Tryz.func112, Tryz.ntmps112
  go_wp2_with fail
  refine (pass_isX w g l s.1 s.2 k H.out).mono ?_
  rintro e w' ⟨A, c, rfl, hr, hc, ho⟩
  have H2 := Lib.hid hc
  have H3 := Lib.hid ho
  clear hr hc ho
  go_wp2
  go_end0
  exact ⟨rfl, H2.out, H3.out⟩
end
def SplitP (w : World) (l : List Int) (e : Ending) (w' : World) : Prop := Below w.heap.size w w' ∧ match rawsB l with
  | none => e = .returned (.tuple #[.slice none 0 0, .bool false])
  | some rs => ∃ v, e = .returned (.tuple #[v, .bool true]) ∧ OwnR w.heap.size w' v rs
theorem u16_bd {l : List Int} (ho : Oct l) (s : CS) : 0 ≤ nV l s 2 ∧ nV l s 2 < 65536 := nV_bd ho s 2
set_option maxHeartbeats 2000000 in
theorem split7_is (w : World) (A : Option Addr) (n c : Nat) (l : List Int) (hr : Rd w w.heap.size A n l) (hm : n ≤ 1000000000000) : Calls Tryz.prog 61 #[.slice A n c] w (SplitP w l) := by
  have HR := Lib.hid hr
  have HO := Lib.hid hr.oct
  have hln : l.length = n := hr.len
  have HCur := Lib.hid (rawsB_cur l hr.oct)
  have HD : Hid (sq1 l = nS l (0, 0) 2 ∧ sq2 l = tS l (sq1 l) (nV l (0, 0) 2) ∧ sq3 l = nS l (sq2 l) 2 ∧ spV7 l = tV l (sq3 l) (nV l (sq2 l) 2) ∧ sq4 l = tS l (sq3 l) (nV l (sq2 l) 2)) := Lib.hid ⟨rfl, rfl, rfl, rfl, rfl⟩
  clear hr
  go_enter Tryz.func61, Tryz.ntmps61
  go_wp2_with fail
  refine (new_isX _ A n c l HR.out (by omega)).mono ?_
  rintro e w1 ⟨g, A0, c0, rfl, hg, hcx, _, hB1⟩
  have H1 : Hid (CurS A0 c0 w1 g l (0, 0)) := Lib.hid hcx
  have HB1 := Lib.hid hB1
  clear hcx hB1 HR
  go_wp2_with fail
  refine (numS w1 g l (0, 0) 2 H1.out).mono ?_
  rintro e w2 ⟨rfl, hC, hG⟩
  have H2 := Lib.hid hC
  have HG2 := Lib.hid hG
  obtain ⟨b0, b1⟩ := u16_bd HO.out (0, 0)
  rw [← HD.out.1] at H2
  have HD2 := Lib.hid HD.out.2.1
  generalize nV l (0, 0) 2 = x1 at *
  generalize hs1 : sq1 l = s1 at *
  clear hC hG H1 hs1
  go_wp2_with fail
  refine (skipS w2 g l s1 x1 H2.out).mono ?_
  rintro e w3 ⟨rfl, hC, hG⟩
  have H3 := Lib.hid hC
  have HG3 := Lib.hid (only_trans HG2.out hG)
  rw [← HD2.out] at H3
  have HD3 := Lib.hid HD.out.2.2.1
  have HD4 := Lib.hid HD.out.2.2.2
  generalize hs2 : sq2 l = s2 at *
  clear hC hG H2 HG2 HD2 hs2 b0 b1 HD
  go_wp2_with fail
  refine (numS w3 g l s2 2 H3.out).mono ?_
  rintro e w4 ⟨rfl, hC, hG⟩
  have H4 := Lib.hid hC
  have HG4 := Lib.hid (only_trans HG3.out hG)
  obtain ⟨b0, b1⟩ := u16_bd HO.out s2
  rw [← HD3.out] at H4
  generalize nV l s2 2 = x2 at *
  generalize hs3 : sq3 l = s3 at *
  clear hC hG H3 HG3 hs3 HD3
  go_wp2_with fail
  refine (takeS w4 g l s3 x2 H4.out).mono ?_
  rintro e w5 ⟨A5, rfl, hN5, hC, hG⟩
  have H5 := Lib.hid hC
  have HG5 := Lib.hid (only_trans HG4.out hG)
  have HR5 := Lib.hid hN5.rd
  have hl5 : (tV l s3 x2).length ≤ l.length := stepTook_len _ _ _ _
  rw [← HD4.out.2] at H5
  rw [← HD4.out.1] at HR5 hl5
  rw [← HD4.out.1]
  have hB5 : Below w.heap.size w w5 := below_only HB1.out HG5.out HB1.out.size (fun j e => by injection e with e; omega)
  have HB5 := Lib.hid hB5
  generalize hv5 : spV7 l = v5 at *
  generalize hs4 : sq4 l = s4 at *
  clear hC hG H4 HG4 hN5 hB5 HG5 HD4 hs4 hv5
  go_wp2_with fail
  refine (err_is _ g l _ _ H5.out.toIsCurT).mono ?_
  rintro e w6 ⟨rfl, rfl⟩
  rcases HCur.out with ⟨e1, he, hne, hno⟩ | ⟨he, hsp⟩
  · have HEnd : Hid (SplitP w l (.returned (.tuple #[.slice none 0 0, .bool false])) w5) := Lib.hid ⟨HB5.out, by rw [hno]⟩
    rw [he]
    have e0 : (e1 != 0) = true := by simpa using hne
    clear he hne hno HCur
    go_wp2
    go_ret2
    exact HEnd.out
  · have HSp := Lib.hid hsp
    rw [he]
    clear he hsp HCur
    go_wp2_with fail
    refine (split_is w5 A5 _ _ v5 HR5.out (by omega)).mono ?_
    rintro e w7 ⟨hB7, hp⟩
    have HB7 := Lib.hid (HB5.out.trans (hB7.mono HB5.out.size))
    have hs7 := HB5.out.size
    cases hsv : split v5 with
    | none =>
      rw [hsv] at hp
      simp only at hp
      subst hp
      have HEnd : Hid (SplitP w l (.returned (.tuple #[.slice none 0 0, .bool false])) w7) := Lib.hid ⟨HB7.out, by rw [HSp.out, hsv]⟩
      clear hB7 hsv
      go_wp2
      go_ret2
      exact HEnd.out
    | some rs =>
      rw [hsv] at hp
      simp only at hp
      obtain ⟨v, rfl, ho⟩ := hp
      have HEnd : Hid (SplitP w l (.returned (.tuple #[v, .bool true])) w7) := Lib.hid ⟨HB7.out, by rw [HSp.out, hsv]; exact ⟨v, rfl, ho.low hs7⟩⟩
      clear hB7 hsv ho
      go_wp2
      go_ret2
      exact HEnd.out
end Go.Proofs.YtdgoeibfggjbmaaGreatDoor
namespace Go.Proofs.YtdgoeibfggjbmaaGreatDoor
open Go.RowKit
set_option maxRecDepth 100000
set_option linter.unusedSimpArgs false
set_option linter.unusedVariables false

section
variable {A0 : Option Addr} {c0 : Nat}
theorem rfam_is (w : World) (g : Nat) (l : List Int) (s : CS) (h : CurS A0 c0 w g l s) :
    Calls Tryz.prog 119 #[.pointer (some ⟨g, 0, none⟩)] w fun e w' => e = .returned (.bool (decide (nV l s 2 = 25) && decide (nV l (nS l s 2) 1 = 70))) ∧ CurS A0 c0 w' g l (nS l (nS l s 2) 1) ∧ w.grownBy w' (some g) := by
  have H := Lib.hid h
  have HN1 := Lib.hid (numS w g l s 2 h)
  have HN2 := Lib.hid (fun W (h : CurS A0 c0 W g l (nS l s 2)) => numS W g l (nS l s 2) 1 h)
  clear h
  generalize nV l s 2 = k1 at *
  generalize nS l s 2 = s1 at *
  generalize nV l s1 1 = k2 at *
  generalize nS l s1 1 = s2 at *
  by_cases e1 : k1 = 25
  · by_cases e2 : k2 = 70
    · have q1 : (k1 == 25) = true := by simpa using e1
      have q2 : (k2 == 70) = true := by simpa using e2
      have HE : Hid ((decide (k1 = 25) && decide (k2 = 70)) = true) := Lib.hid (by rw [decide_eq_true e1, decide_eq_true e2]; rfl)
      clear e1 e2
      go_enter Tryz.func119, Tryz.ntmps119
      go_wp2_with fail
      refine HN1.out.mono ?_
      rintro e w1 ⟨rfl, hC, hG⟩
      have H1 := Lib.hid hC
      have HG1 := Lib.hid hG
      clear hC hG
      go_wp2_with fail
      refine (HN2.out w1 H1.out).mono ?_
      rintro e w2 ⟨rfl, hC, hG⟩
      have H2 := Lib.hid hC
      have HG2 := Lib.hid (only_trans HG1.out hG)
      clear hC hG
      go_wp2
      go_ret
      exact ⟨by rw [HE.out]; rfl, H2.out, HG2.out⟩
    · have q1 : (k1 == 25) = true := by simpa using e1
      have q2 : (k2 == 70) = false := by simpa using e2
      have HE : Hid ((decide (k1 = 25) && decide (k2 = 70)) = false) := Lib.hid (by rw [decide_eq_true e1, decide_eq_false e2]; rfl)
      clear e1 e2
      go_enter Tryz.func119, Tryz.ntmps119
      go_wp2_with fail
      refine HN1.out.mono ?_
      rintro e w1 ⟨rfl, hC, hG⟩
      have H1 := Lib.hid hC
      have HG1 := Lib.hid hG
      clear hC hG
      go_wp2_with fail
      refine (HN2.out w1 H1.out).mono ?_
      rintro e w2 ⟨rfl, hC, hG⟩
      have H2 := Lib.hid hC
      have HG2 := Lib.hid (only_trans HG1.out hG)
      clear hC hG
      go_wp2
      go_ret
      exact ⟨by rw [HE.out]; rfl, H2.out, HG2.out⟩
  · have q1 : (k1 == 25) = false := by simpa using e1
    have HE : Hid ((decide (k1 = 25) && decide (k2 = 70)) = false) := Lib.hid (by rw [decide_eq_false e1]; rfl)
    clear e1
    go_enter Tryz.func119, Tryz.ntmps119
    go_wp2_with fail
    refine HN1.out.mono ?_
    rintro e w1 ⟨rfl, hC, hG⟩
    have H1 := Lib.hid hC
    have HG1 := Lib.hid hG
    clear hC hG
    go_wp2_with fail
    refine (HN2.out w1 H1.out).mono ?_
    rintro e w2 ⟨rfl, hC, hG⟩
    have H2 := Lib.hid hC
    have HG2 := Lib.hid (only_trans HG1.out hG)
    clear hC hG
    go_wp2
    go_ret
    exact ⟨by rw [HE.out]; rfl, H2.out, HG2.out⟩
end

/-! The next hop. -/
def nxM (l : List Int) (s : CS) : (Bool × List Int) × Bool × CS :=
  if nV l s 1 = 4 then ((false, four (nV l (nS l s 1) 4)), decide ((tS l (nS l (nS l s 1) 4) 1).2 = 0), tS l (nS l (nS l s 1) 4) 1)
  else if nV l s 1 = 16 then ((true, pad (tV l (nS l s 1) 16)), decide ((tS l (tS l (nS l s 1) 16) 1).2 = 0), tS l (tS l (nS l s 1) 16) 1)
  else ((false, z16), false, nS l s 1)
def NextP (A0 : Option Addr) (c0 : Nat) (w : World) (g : Nat) (l : List Int) (m : (Bool × List Int) × Bool × CS) (e : Ending) (w' : World) : Prop :=
  e = .returned (.tuple #[.agg (ipc m.1.1 m.1.2).toArray, .bool m.2.1]) ∧ CurS A0 c0 w' g l m.2.2 ∧ w.grownBy w' (some g)
theorem ip17 : (Tryz.prog.info? 27).map (·.size) = some 17 := by kernel_rfl
theorem next_end {A0 : Option Addr} {c0 : Nat} {w W : World} {g : Nat} {l : List Int} {s : CS} {v : Bool} {xs : List Int} (h : IpW A0 c0 w W g l s v xs) (hx : xs.length = 16) (b : Bool) (hb : decide (s.2 = 0) = b) :
    NextP A0 c0 w g l ((v, xs), decide (s.2 = 0), s) (.returned (.tuple #[.agg (ipc v xs).toArray, .bool b])) (W.setRow w.heap.size (ipc v xs).toArray) := by
  subst hb
  have hl := h.lt
  refine ⟨rfl, h.cu.above (below_setRow _ _ _ (Nat.le_refl _)) hl, ?_⟩
  exact only_then h.gr (below_setRow W w.heap.size _ (Nat.le_refl _)) (Nat.le_refl _)
-- BEGIN GENERATED
theorem Blk.setRow_otherN {w : World} {g g' : Nat} {t : TypeId} {cs : Array Value} (h : Blk w g t cs) (hne : g ≠ g') (cs' : Array Value) : Blk (w.setRow g' cs') g t cs := (setRow_other w g' g _ hne).trans h
theorem four16 (n : Int) : (four n).length = 16 := by simp [four]
section
variable {A0 : Option Addr} {c0 : Nat}
theorem ipw_new (w : World) (g : Nat) (l : List Int) (s : CS) (h : CurS A0 c0 w g l s) : IpW A0 c0 w ((w.alloc (.cells (ipc false z16).toArray 27)).alloc (.cells (ipc false z16).toArray 27)) g l s false z16 := by
  have hlt := h.toIsCurT.lt
  have b1 : Blk ((w.alloc (.cells (ipc false z16).toArray 27)).alloc (.cells (ipc false z16).toArray 27)) (w.heap.size + 1) 27 (ipc false z16).toArray := by simpa using Blk.new (w.alloc (.cells (ipc false z16).toArray 27)) 27 (ipc false z16).toArray
  have hb : Below w.heap.size w ((w.alloc (.cells (ipc false z16).toArray 27)).alloc (.cells (ipc false z16).toArray 27)) := ((Below.refl w.heap.size w).alloc (Nat.le_refl _) _).alloc (by simp) _
  exact ⟨⟨_, (Blk.new w 27 _).alloc _, by rfl⟩, b1, h.above hb hlt, only_of_below hb _, hlt⟩
theorem IpW.put {w W : World} {g : Nat} {l : List Int} {s : CS} {v v2 : Bool} {xs ys : List Int} (h : IpW A0 c0 w W g l s v xs) : IpW A0 c0 w (W.setRow (w.heap.size + 1) (ipc v2 ys).toArray) g l s v2 ys := by
  obtain ⟨Z, hZ, hZs⟩ := h.res
  have hl := h.lt
  have hb := below_setRow W (w.heap.size + 1) (ipc v2 ys).toArray (B := w.heap.size) (by omega)
  exact ⟨⟨Z, hZ.setRow_otherN (by omega) _, hZs⟩, h.a.setRow _, h.cu.above hb hl, only_then h.gr hb (Nat.le_refl _), hl⟩
theorem IpW.flag {w W : World} {g : Nat} {l : List Int} {s : CS} {v : Bool} {xs : List Int} (h : IpW A0 c0 w W g l s v xs) : IpW A0 c0 w (W.setCell ⟨w.heap.size + 1, 0, none⟩ (.bool true)) g l s true xs := by
  obtain ⟨Z, hZ, hZs⟩ := h.res
  have hl := h.lt
  have hb : Below w.heap.size W (W.setCell ⟨w.heap.size + 1, 0, none⟩ (.bool true)) := (Below.refl _ _).setCell (by show w.heap.size ≤ w.heap.size + 1; omega) _
  have ha := h.a.set_ 0 (.bool true)
  rw [show (ipc v xs).toArray.setIfInBounds 0 (.bool true) = (ipc true xs).toArray from rfl] at ha
  exact ⟨⟨Z, hZ.far (p := ⟨w.heap.size + 1, 0, none⟩) (by show w.heap.size ≠ w.heap.size + 1; omega) _, hZs⟩, ha, h.cu.above hb hl, only_then h.gr hb (Nat.le_refl _), hl⟩
set_option maxHeartbeats 4000000 in
theorem rnext_is (w : World) (g : Nat) (l : List Int) (s : CS) (h : CurS A0 c0 w g l s) : Calls Tryz.prog 120 #[.pointer (some ⟨g, 0, none⟩)] w (NextP A0 c0 w g l (nxM l s)) := by
  have HI0 := Lib.hid (ipw_new w g l s h)
  have HOct := Lib.hid h.oct
  have HZ16 : Hid (z16.length = 16) := Lib.hid rfl
  have HM : Hid (nxM l s = if nV l s 1 = 4 then ((false, four (nV l (nS l s 1) 4)), decide ((tS l (nS l (nS l s 1) 4) 1).2 = 0), tS l (nS l (nS l s 1) 4) 1)
    else if nV l s 1 = 16 then ((true, pad (tV l (nS l s 1) 16)), decide ((tS l (tS l (nS l s 1) 16) 1).2 = 0), tS l (tS l (nS l s 1) 16) 1)
    else ((false, z16), false, nS l s 1)) := Lib.hid rfl
  have HN1 := Lib.hid (fun W (h : CurS A0 c0 W g l s) => numS W g l s 1 h)
  have hs16 : ∀ W, (Instr.sliceAt 25 (.pointer (some ⟨w.heap.size + 1, 1, none⟩)) none none none).run Tryz.prog W = .ok (.slice (some ⟨w.heap.size + 1, 1, none⟩) 16 16) W := fun W => by go_simp
  clear h
  generalize nxM l s = M at *
  generalize nV l s 1 = k at *
  generalize nS l s 1 = s1 at *
  rcases (show k = 4 ∨ ((¬ k = 4 ∧ k = 16) ∨ (¬ k = 4 ∧ ¬ k = 16)) by omega) with e | ⟨e, e2⟩ | ⟨e, e2⟩
  · have q1 : (k == 4) = true := by simpa using e
    rw [if_pos e] at HM
    have HMM := HM.out
    subst HMM
    clear e HM
    go_enter Tryz.func120, Tryz.ntmps120
    go_wp2_with fail
    refine (HN1.out _ HI0.out.cu).mono ?_
    rintro e W1 ⟨rfl, hC, hG⟩
    have HI1 := Lib.hid (HI0.out.step hC hG)
    clear hC hG HI0
    go_wp2_with fail
    refine (numS W1 g l s1 4 HI1.out.cu).mono ?_
    rintro e W2 ⟨rfl, hC, hG⟩
    have HI2 := Lib.hid (HI1.out.step hC hG)
    have hb := nV_bd HOct.out s1 4
    have hb : 0 ≤ nV l s1 4 ∧ nV l s1 4 < 4294967296 := hb
    clear hC hG HI1
    generalize nV l s1 4 = n4 at *
    generalize nS l s1 4 = s2 at *
    obtain ⟨b0, b1⟩ := hb
    have hw4 : n4 % 4294967296 = n4 := Int.emod_eq_of_lt b0 b1
    go_wp2_with fail
    refine (four_is W2 n4 b0 b1).mono ?_
    rintro e W3 ⟨rfl, hB⟩
    have HI2 := Lib.hid (HI2.out.below hB)
    have HXl : Hid ((four n4).length = 16) := Lib.hid (four16 n4)
    clear hB hw4
    go_wp2_with (first
      | (refine ip_store_to rfl _ _ rfl (w.heap.size + 1) false (four n4) HXl.out rfl rfl 27 _ HI2.out.a rfl (fun W => IpW A0 c0 w W g l s2 false (four n4)) (HI2.out.put) ?_; intro W3 hW3; have HI3 := Lib.hid hW3; clear hW3)
      | fail)
    go_wp2_with fail
    refine (skipS _ g l s2 1 HI3.out.cu).mono ?_
    rintro e W4 ⟨rfl, hC, hG⟩
    have HI4 := Lib.hid (HI3.out.step hC hG)
    clear hC hG HI3
    generalize tS l s2 1 = s9 at *
    go_wp2_with fail
    refine wp_region_held_drew (S := fun W => IpW A0 c0 w W g l s9 false (four n4)) (by kernel_rfl) (HI4.out.below (bl_drew _)) (fun hS => ?_)
    refine wpAnyH_take (i := 0) (oi := ⟨some 24, _, _, _, _, _⟩) rfl (by kernel_rfl) (by kernel_rfl) (by kernel_rfl) (fun _ _ _ h => h) (yieldsIf_load_mid (by rfl) 27 _ rfl _ _ rfl (ipc false (four n4)) _ (fun wq hq => blk_range hq.a) Tryz.underlying27 rfl (by rw [ip17, ipc_len, HXl.out])) hS ?_
    try simp only [Act.put, zP, zQ, zR]
    refine wpAnyH_take (i := 1) (oi := ⟨some 25, _, _, _, _, _⟩) (v := ?_) rfl (by kernel_rfl) (by kernel_rfl) (by kernel_rfl) (fun _ _ _ h => h) (Or.inl ⟨by rfl, ?_⟩) hS ?_
    rotate_left
    · intro wq hq
      first | (go_simp; done) | (go_simp; rfl)
    try simp only [Act.put, zP, zQ, zR]
    generalize W4.drew = W5 at *
    clear HI4
    refine wpAnyH_ready (rs := [2]) (by kernel_rfl) (by simp) ?_
    refine AllReadyH.cons (o := ⟨some 26, _, _, _, _, _⟩) rfl (fun K hK => ?_) AllReadyH.nil
    rw [if_pos (by rfl)]
    go_wp2_with fail
    refine (err_is W5 g l _ _ hS.cu.toIsCurT).mono ?_
    rintro e W6 ⟨rfl, rfl⟩
    refine hK.out _ _ (hS) (fun hS => ?_)
    clear hK K
    try simp only [Act.put, zP, zQ, zR]
    by_cases he : s9.2 = 0
    · have q0 : (s9.2 == 0) = true := by simpa using he
      have HEnd := Lib.hid (next_end hS HXl.out true (decide_eq_true he))
      clear he
      refine wpAnyH_take (i := 3) (oi := ⟨some 27, _, _, _, _, _⟩) (v := ?_) rfl (by kernel_rfl) (by kernel_rfl) (by kernel_rfl) (fun _ _ _ h => h) (Or.inl ⟨by rfl, ?_⟩) hS ?_
      rotate_left
      · intro wq hq
        first | (go_simp; done) | (go_simp; rfl)
      try simp only [Act.put, zP, zQ, zR]
      obtain ⟨Z, hZ, hZs⟩ := hS.res
      refine wpAnyH_ready (rs := [4]) (by kernel_rfl) (by simp) ?_
      refine AllReadyH.cons (o := ⟨none, _, _, _, _, _⟩) rfl (fun K hK => ?_) AllReadyH.nil
      rw [if_pos (by rfl)]
      refine wp_store_row 27 _ _ rfl w.heap.size (ipc false (four n4)).toArray rfl rfl 27 Z hZ (by rw [ip17]; simp [HXl.out]) (by rw [hZs]; simp [HXl.out]) (all_oneCell_toArray (one_ipcN _ _)) ?_
      have HZ : Hid (Blk (W5.setRow w.heap.size (ipc false (four n4)).toArray) w.heap.size 27 (ipc false (four n4)).toArray) := Lib.hid (hZ.setRow _)
      have hSn : IpW A0 c0 w (W5.setRow w.heap.size (ipc false (four n4)).toArray) g l s9 false (four n4) := ⟨⟨_, HZ.out, by simp [HXl.out]⟩, hS.a.setRow_otherN (by omega) _, hS.cu.above (below_setRow _ _ _ (Nat.le_refl _)) hS.lt, only_then hS.gr (below_setRow W5 w.heap.size _ (Nat.le_refl _)) (Nat.le_refl _), hS.lt⟩
      refine hK.out _ _ (hSn) (fun hS => ?_)
      clear hK K
      try simp only [Act.put, zP, zQ, zR]
      refine wpAnyH_take (i := 5) (oi := ⟨some 3, _, _, _, _, _⟩) (v := ?_) rfl (by kernel_rfl) (by kernel_rfl) (by kernel_rfl) (fun _ _ _ h => h) (Or.inl ⟨by rfl, ?_⟩) hS ?_
      rotate_left
      · intro wq hq
        first | (go_simp; done) | (go_simp; rfl)
      try simp only [Act.put, zP, zQ, zR]
      refine wpAnyH_done (by kernel_rfl) ?_ _
      clear hS hSn hZ hZs
      go_wp2
      try simp only [Exit.inBlock, Exit.then]
      exact bodyPost_ret (results_cell_slot rfl _ _ w.heap.size 27 _ _ (.bool true) rfl rfl HZ.out Tryz.underlying27 rfl (by rw [ip17]; simp [HXl.out])) rfl HEnd.out
    · have q0 : (s9.2 == 0) = false := by simpa using he
      have HEnd := Lib.hid (next_end hS HXl.out false (decide_eq_false he))
      clear he
      refine wpAnyH_take (i := 3) (oi := ⟨some 27, _, _, _, _, _⟩) (v := ?_) rfl (by kernel_rfl) (by kernel_rfl) (by kernel_rfl) (fun _ _ _ h => h) (Or.inl ⟨by rfl, ?_⟩) hS ?_
      rotate_left
      · intro wq hq
        first | (go_simp; done) | (go_simp; rfl)
      try simp only [Act.put, zP, zQ, zR]
      obtain ⟨Z, hZ, hZs⟩ := hS.res
      refine wpAnyH_ready (rs := [4]) (by kernel_rfl) (by simp) ?_
      refine AllReadyH.cons (o := ⟨none, _, _, _, _, _⟩) rfl (fun K hK => ?_) AllReadyH.nil
      rw [if_pos (by rfl)]
      refine wp_store_row 27 _ _ rfl w.heap.size (ipc false (four n4)).toArray rfl rfl 27 Z hZ (by rw [ip17]; simp [HXl.out]) (by rw [hZs]; simp [HXl.out]) (all_oneCell_toArray (one_ipcN _ _)) ?_
      have HZ : Hid (Blk (W5.setRow w.heap.size (ipc false (four n4)).toArray) w.heap.size 27 (ipc false (four n4)).toArray) := Lib.hid (hZ.setRow _)
      have hSn : IpW A0 c0 w (W5.setRow w.heap.size (ipc false (four n4)).toArray) g l s9 false (four n4) := ⟨⟨_, HZ.out, by simp [HXl.out]⟩, hS.a.setRow_otherN (by omega) _, hS.cu.above (below_setRow _ _ _ (Nat.le_refl _)) hS.lt, only_then hS.gr (below_setRow W5 w.heap.size _ (Nat.le_refl _)) (Nat.le_refl _), hS.lt⟩
      refine hK.out _ _ (hSn) (fun hS => ?_)
      clear hK K
      try simp only [Act.put, zP, zQ, zR]
      refine wpAnyH_take (i := 5) (oi := ⟨some 3, _, _, _, _, _⟩) (v := ?_) rfl (by kernel_rfl) (by kernel_rfl) (by kernel_rfl) (fun _ _ _ h => h) (Or.inl ⟨by rfl, ?_⟩) hS ?_
      rotate_left
      · intro wq hq
        first | (go_simp; done) | (go_simp; rfl)
      try simp only [Act.put, zP, zQ, zR]
      refine wpAnyH_done (by kernel_rfl) ?_ _
      clear hS hSn hZ hZs
      go_wp2
      try simp only [Exit.inBlock, Exit.then]
      exact bodyPost_ret (results_cell_slot rfl _ _ w.heap.size 27 _ _ (.bool false) rfl rfl HZ.out Tryz.underlying27 rfl (by rw [ip17]; simp [HXl.out])) rfl HEnd.out
  · have q1 : (k == 4) = false := by simpa using e
    have q2 : (k == 16) = true := by simpa using e2
    rw [if_neg e, if_pos e2] at HM
    have HMM := HM.out
    subst HMM
    clear e e2 HM
    go_enter Tryz.func120, Tryz.ntmps120
    go_wp2_with fail
    refine (HN1.out _ HI0.out.cu).mono ?_
    rintro e W1 ⟨rfl, hC, hG⟩
    have HI1 := Lib.hid (HI0.out.step hC hG)
    have f0 := HI1.out.a.frozen 0
    have c0' := HI1.out.a.cell 0
    clear hC hG HI0
    go_wp2_with fail
    have HI2 := Lib.hid (HI1.out.flag.below (bl_drew _))
    clear HI1
    refine wp_region_held_drew (S := fun _ => True) (by kernel_rfl) (trivial) (fun hS => ?_)
    refine wpAnyH_take (i := 0) (oi := ⟨some 17, _, _, _, _, _⟩) (v := ?_) rfl (by kernel_rfl) (by kernel_rfl) (by kernel_rfl) (fun _ _ _ h => h) (Or.inl ⟨by rfl, ?_⟩) hS ?_
    rotate_left
    · intro wq hq
      first | (go_simp; done) | (go_simp; rfl)
    try simp only [Act.put, zP, zQ, zR]
    refine wpAnyH_take (i := 1) (oi := ⟨some 18, _, _, _, _, _⟩) (v := ?_) rfl (by kernel_rfl) (by kernel_rfl) (by kernel_rfl) (fun _ _ _ h => h) (Or.inl ⟨by rfl, ?_⟩) hS ?_
    rotate_left
    · intro wq hq
      first | (go_simp; done) | (go_simp; rfl)
    try simp only [Act.put, zP, zQ, zR]
    refine wpAnyH_take (i := 2) (oi := ⟨some 19, _, _, _, _, _⟩) (v := ?_) rfl (by kernel_rfl) (by kernel_rfl) (by kernel_rfl) (fun _ _ _ h => h) (Or.inl ⟨by rfl, ?_⟩) hS ?_
    rotate_left
    · intro wq hq
      first | (go_simp; done) | (go_simp; rfl)
    try simp only [Act.put, zP, zQ, zR]
    refine wpAnyH_ready (rs := [3]) (by kernel_rfl) (by simp) ?_
    refine AllReadyH.cons (o := ⟨some 20, _, _, _, _, _⟩) rfl (fun K hK => ?_) AllReadyH.nil
    rw [if_pos (by rfl)]
    go_wp2_with fail
    refine (takeS _ g l s1 16 HI2.out.cu).mono ?_
    rintro e w3 ⟨A3, rfl, hN3, hC3, hG3⟩
    have HD3 := Lib.hid (HI2.out.step hC3 hG3)
    clear hC3 hG3 HI2
    refine hK.out _ _ (trivial) (fun hS => ?_)
    clear hK K
    try simp only [Act.put, zP, zQ, zR]
    have hle : (tV l s1 16).length ≤ 16 := took_le l s1.1 s1.2 16
    have hoc : Oct (tV l s1 16) := took_oct HOct.out _ _ _
    generalize tV l s1 16 = xs at *
    generalize tS l s1 16 = s2 at *
    have hrd := hN3.rd
    have hsrc : 0 < (u8s xs).length → (some ⟨w.heap.size + 1, 1, none⟩ : Option Addr) = some ⟨w.heap.size + 1, 1, none⟩ ∧ ∃ ad, A3 = some ad ∧ ∀ j v, (u8s xs)[j]? = some v → w3.cell? (ad.add j) = some v := fun hp => by
      obtain ⟨b, off, rfl, _, hc⟩ := hrd.at_ (by simpa using hp)
      exact ⟨rfl, _, rfl, src_u8 rfl hc⟩
    obtain ⟨w4, hcp, hg4, hB4, hG4⟩ := copy_row (P := Tryz.prog) w3 38 38 3 5 Tryz.underlying38 size_byte (some ⟨w.heap.size + 1, 1, none⟩) A3 16 16 xs.length xs.length (w.heap.size + 1) 1 (ipc true z16) 27 HD3.out.a (u8s xs) (by rw [u8s_len]; exact (Nat.min_eq_left hle).symm) hsrc (by rw [u8s_len, ipc_len, HZ16.out]; omega) (one_u8s _)
    rw [splice_ip] at hg4
    have HI3 : Hid (IpW A0 c0 w w4 g l s2 true (pad xs)) := Lib.hid (by
      obtain ⟨Z, hZ, hs⟩ := HD3.out.res
      have hl := HD3.out.lt
      exact ⟨⟨Z, hZ.below hB4 (by omega), hs⟩, hg4, HD3.out.cu.above hB4 (by omega), only_then HD3.out.gr hB4 (by omega), hl⟩)
    have HXl : Hid ((pad xs).length = 16) := Lib.hid (pad_len hle)
    clear HD3 hsrc hrd hN3 hg4 hB4 hG4 hle hoc
    refine wpAnyH_ready (rs := [4]) (by kernel_rfl) (by simp) ?_
    refine AllReadyH.cons (o := ⟨some 21, _, _, _, _, _⟩) rfl (fun K hK => ?_) AllReadyH.nil
    rw [if_pos (by rfl)]
    go_wp2_with fail
    refine hK.out _ _ (trivial) (fun hS => ?_)
    clear hK K
    try simp only [Act.put, zP, zQ, zR]
    refine wpAnyH_done (by kernel_rfl) ?_ _
    clear hcp
    go_wp2_with fail
    refine (skipS _ g l s2 1 HI3.out.cu).mono ?_
    rintro e W4 ⟨rfl, hC, hG⟩
    have HI4 := Lib.hid (HI3.out.step hC hG)
    clear hC hG HI3
    generalize tS l s2 1 = s9 at *
    go_wp2_with fail
    refine wp_region_held_drew (S := fun W => IpW A0 c0 w W g l s9 true (pad xs)) (by kernel_rfl) (HI4.out.below (bl_drew _)) (fun hS => ?_)
    refine wpAnyH_take (i := 0) (oi := ⟨some 24, _, _, _, _, _⟩) rfl (by kernel_rfl) (by kernel_rfl) (by kernel_rfl) (fun _ _ _ h => h) (yieldsIf_load_mid (by rfl) 27 _ rfl _ _ rfl (ipc true (pad xs)) _ (fun wq hq => blk_range hq.a) Tryz.underlying27 rfl (by rw [ip17, ipc_len, HXl.out])) hS ?_
    try simp only [Act.put, zP, zQ, zR]
    refine wpAnyH_take (i := 1) (oi := ⟨some 25, _, _, _, _, _⟩) (v := ?_) rfl (by kernel_rfl) (by kernel_rfl) (by kernel_rfl) (fun _ _ _ h => h) (Or.inl ⟨by rfl, ?_⟩) hS ?_
    rotate_left
    · intro wq hq
      first | (go_simp; done) | (go_simp; rfl)
    try simp only [Act.put, zP, zQ, zR]
    generalize W4.drew = W5 at *
    clear HI4
    refine wpAnyH_ready (rs := [2]) (by kernel_rfl) (by simp) ?_
    refine AllReadyH.cons (o := ⟨some 26, _, _, _, _, _⟩) rfl (fun K hK => ?_) AllReadyH.nil
    rw [if_pos (by rfl)]
    go_wp2_with fail
    refine (err_is W5 g l _ _ hS.cu.toIsCurT).mono ?_
    rintro e W6 ⟨rfl, rfl⟩
    refine hK.out _ _ (hS) (fun hS => ?_)
    clear hK K
    try simp only [Act.put, zP, zQ, zR]
    by_cases he : s9.2 = 0
    · have q0 : (s9.2 == 0) = true := by simpa using he
      have HEnd := Lib.hid (next_end hS HXl.out true (decide_eq_true he))
      clear he
      refine wpAnyH_take (i := 3) (oi := ⟨some 27, _, _, _, _, _⟩) (v := ?_) rfl (by kernel_rfl) (by kernel_rfl) (by kernel_rfl) (fun _ _ _ h => h) (Or.inl ⟨by rfl, ?_⟩) hS ?_
      rotate_left
      · intro wq hq
        first | (go_simp; done) | (go_simp; rfl)
      try simp only [Act.put, zP, zQ, zR]
      obtain ⟨Z, hZ, hZs⟩ := hS.res
      refine wpAnyH_ready (rs := [4]) (by kernel_rfl) (by simp) ?_
      refine AllReadyH.cons (o := ⟨none, _, _, _, _, _⟩) rfl (fun K hK => ?_) AllReadyH.nil
      rw [if_pos (by rfl)]
      refine wp_store_row 27 _ _ rfl w.heap.size (ipc true (pad xs)).toArray rfl rfl 27 Z hZ (by rw [ip17]; simp [HXl.out]) (by rw [hZs]; simp [HXl.out]) (all_oneCell_toArray (one_ipcN _ _)) ?_
      have HZ : Hid (Blk (W5.setRow w.heap.size (ipc true (pad xs)).toArray) w.heap.size 27 (ipc true (pad xs)).toArray) := Lib.hid (hZ.setRow _)
      have hSn : IpW A0 c0 w (W5.setRow w.heap.size (ipc true (pad xs)).toArray) g l s9 true (pad xs) := ⟨⟨_, HZ.out, by simp [HXl.out]⟩, hS.a.setRow_otherN (by omega) _, hS.cu.above (below_setRow _ _ _ (Nat.le_refl _)) hS.lt, only_then hS.gr (below_setRow W5 w.heap.size _ (Nat.le_refl _)) (Nat.le_refl _), hS.lt⟩
      refine hK.out _ _ (hSn) (fun hS => ?_)
      clear hK K
      try simp only [Act.put, zP, zQ, zR]
      refine wpAnyH_take (i := 5) (oi := ⟨some 3, _, _, _, _, _⟩) (v := ?_) rfl (by kernel_rfl) (by kernel_rfl) (by kernel_rfl) (fun _ _ _ h => h) (Or.inl ⟨by rfl, ?_⟩) hS ?_
      rotate_left
      · intro wq hq
        first | (go_simp; done) | (go_simp; rfl)
      try simp only [Act.put, zP, zQ, zR]
      refine wpAnyH_done (by kernel_rfl) ?_ _
      clear hS hSn hZ hZs
      go_wp2
      try simp only [Exit.inBlock, Exit.then]
      exact bodyPost_ret (results_cell_slot rfl _ _ w.heap.size 27 _ _ (.bool true) rfl rfl HZ.out Tryz.underlying27 rfl (by rw [ip17]; simp [HXl.out])) rfl HEnd.out
    · have q0 : (s9.2 == 0) = false := by simpa using he
      have HEnd := Lib.hid (next_end hS HXl.out false (decide_eq_false he))
      clear he
      refine wpAnyH_take (i := 3) (oi := ⟨some 27, _, _, _, _, _⟩) (v := ?_) rfl (by kernel_rfl) (by kernel_rfl) (by kernel_rfl) (fun _ _ _ h => h) (Or.inl ⟨by rfl, ?_⟩) hS ?_
      rotate_left
      · intro wq hq
        first | (go_simp; done) | (go_simp; rfl)
      try simp only [Act.put, zP, zQ, zR]
      obtain ⟨Z, hZ, hZs⟩ := hS.res
      refine wpAnyH_ready (rs := [4]) (by kernel_rfl) (by simp) ?_
      refine AllReadyH.cons (o := ⟨none, _, _, _, _, _⟩) rfl (fun K hK => ?_) AllReadyH.nil
      rw [if_pos (by rfl)]
      refine wp_store_row 27 _ _ rfl w.heap.size (ipc true (pad xs)).toArray rfl rfl 27 Z hZ (by rw [ip17]; simp [HXl.out]) (by rw [hZs]; simp [HXl.out]) (all_oneCell_toArray (one_ipcN _ _)) ?_
      have HZ : Hid (Blk (W5.setRow w.heap.size (ipc true (pad xs)).toArray) w.heap.size 27 (ipc true (pad xs)).toArray) := Lib.hid (hZ.setRow _)
      have hSn : IpW A0 c0 w (W5.setRow w.heap.size (ipc true (pad xs)).toArray) g l s9 true (pad xs) := ⟨⟨_, HZ.out, by simp [HXl.out]⟩, hS.a.setRow_otherN (by omega) _, hS.cu.above (below_setRow _ _ _ (Nat.le_refl _)) hS.lt, only_then hS.gr (below_setRow W5 w.heap.size _ (Nat.le_refl _)) (Nat.le_refl _), hS.lt⟩
      refine hK.out _ _ (hSn) (fun hS => ?_)
      clear hK K
      try simp only [Act.put, zP, zQ, zR]
      refine wpAnyH_take (i := 5) (oi := ⟨some 3, _, _, _, _, _⟩) (v := ?_) rfl (by kernel_rfl) (by kernel_rfl) (by kernel_rfl) (fun _ _ _ h => h) (Or.inl ⟨by rfl, ?_⟩) hS ?_
      rotate_left
      · intro wq hq
        first | (go_simp; done) | (go_simp; rfl)
      try simp only [Act.put, zP, zQ, zR]
      refine wpAnyH_done (by kernel_rfl) ?_ _
      clear hS hSn hZ hZs
      go_wp2
      try simp only [Exit.inBlock, Exit.then]
      exact bodyPost_ret (results_cell_slot rfl _ _ w.heap.size 27 _ _ (.bool false) rfl rfl HZ.out Tryz.underlying27 rfl (by rw [ip17]; simp [HXl.out])) rfl HEnd.out
  · have q1 : (k == 4) = false := by simpa using e
    have q2 : (k == 16) = false := by simpa using e2
    rw [if_neg e, if_neg e2] at HM
    have HMM := HM.out
    subst HMM
    clear e e2 HM
    go_enter Tryz.func120, Tryz.ntmps120
    go_wp2_with fail
    refine (HN1.out _ HI0.out.cu).mono ?_
    rintro e W1 ⟨rfl, hC, hG⟩
    have HI1 := Lib.hid (HI0.out.step hC hG)
    clear hC hG HI0
    obtain ⟨Z, hZ, hZs⟩ := HI1.out.res
    have HZ := Lib.hid hZ
    have HZs := Lib.hid hZs
    have HZ2 : Hid (Blk (W1.setRow w.heap.size (ipc false z16).toArray) w.heap.size 27 (ipc false z16).toArray) := Lib.hid (hZ.setRow _)
    have HEnd : Hid (NextP A0 c0 w g l ((false, z16), false, s1) (.returned (.tuple #[.agg (ipc false z16).toArray, .bool false])) (W1.setRow w.heap.size (ipc false z16).toArray)) := Lib.hid ⟨rfl, HI1.out.cu.above (below_setRow _ _ _ (Nat.le_refl _)) HI1.out.lt, only_then HI1.out.gr (below_setRow W1 w.heap.size _ (Nat.le_refl _)) (Nat.le_refl _)⟩
    clear hZ hZs
    go_wp2_with (first
      | (refine wpList_store_row rfl 27 _ _ rfl w.heap.size (ipc false z16).toArray rfl rfl 27 Z HZ.out (by rw [ip17]; rfl) (by rw [HZs.out]; rfl) (all_oneCell_toArray (one_ipcN _ _)) ?_)
      | fail)
    try simp only [Exit.inBlock, Exit.then]
    exact bodyPost_ret (results_cell_slot rfl _ _ w.heap.size 27 _ _ (.bool false) rfl rfl HZ2.out Tryz.underlying27 rfl (by rw [ip17]; rfl)) rfl HEnd.out
end
end Go.Proofs.YtdgoeibfggjbmaaGreatDoor
namespace Go.Proofs.YtdgoeibfggjbmaaGreatDoor
open Go.RowKit
set_option maxRecDepth 100000
set_option linter.unusedSimpArgs false
set_option linter.unusedVariables false

/-! What an attribute says, in the cursor's words. -/
theorem numOf_two (a b : Int) : numOf [a, b] = a * 256 + b := by simp [numOf]
theorem fam_cur (v : List Int) (ho : Oct v) :
    (v.length < 3 ∧ (nS v (nS v (0, 0) 2) 1).2 ≠ 0) ∨ (3 ≤ v.length ∧ nS v (nS v (0, 0) 2) 1 = (3, 0) ∧ (decide (nV v (0, 0) 2 = 25) && decide (nV v (nS v (0, 0) 2) 1 = 70)) = oursB v) := by
  by_cases h2 : v.length < 2
  · left
    have ⟨a1, a2⟩ := nS_no (l := v) (p := 0) (k := 2) (by omega) (by omega) (by omega) (by omega)
    have a2 : nS v (0, 0) 2 = (0, 3) := a2
    rw [a2]
    have ⟨b1, b2⟩ := nS_err (l := v) 0 3 1 (by omega) (by omega) (by decide)
    have b2 : nS v (0, 3) 1 = (0, 3) := b2
    rw [b2]
    exact ⟨by omega, by decide⟩
  · have ⟨a1, a2⟩ := nS_fit (l := v) (p := 0) (k := 2) (by omega) (by omega) (by omega)
    have a1 : nV v (0, 0) 2 = numOf ((v.drop 0).take 2) := a1
    have a2 : nS v (0, 0) 2 = (2, 0) := a2
    rw [a2]
    by_cases h3 : v.length < 3
    · left
      have ⟨b1, b2⟩ := nS_no (l := v) (p := 2) (k := 1) (by omega) (by omega) (by omega) (by omega)
      have b2 : nS v (2, 0) 1 = (2, 3) := b2
      rw [b2]
      exact ⟨h3, by decide⟩
    · right
      have ⟨b1, b2⟩ := nS_fit (l := v) (p := 2) (k := 1) (by omega) (by omega) (by omega)
      have b1 : nV v (2, 0) 1 = numOf ((v.drop 2).take 1) := b1
      have b2 : nS v (2, 0) 1 = (3, 0) := b2
      rw [b2, b1, a1]
      refine ⟨by omega, rfl, ?_⟩
      match v, h3, ho with
      | x :: y :: z :: tl, _, ho =>
        have hx := ho x (by simp)
        have hy := ho y (by simp)
        have e1 : numOf (((x :: y :: z :: tl).drop 0).take 2) = x * 256 + y := numOf_two x y
        have e2 : numOf (((x :: y :: z :: tl).drop 2).take 1) = z := by simp [numOf]
        rw [e1, e2]
        unfold oursB
        rw [Bool.eq_iff_iff]
        simp only [Bool.and_eq_true, decide_eq_true_eq, List.take_succ_cons, List.take_zero, List.cons.injEq, and_true]
        constructor
        · rintro ⟨h1, h2⟩; exact ⟨by omega, by omega, h2⟩
        · rintro ⟨h1, h2, h3⟩; exact ⟨by omega, h3⟩
theorem next_cur (v : List Int) (ho : Oct v) (h3 : 3 ≤ v.length) (hours : oursB v = true) :
    ((nxM v (3, 0)).2.1 = false ∧ sdR 14 v = none) ∨ ∃ nv nl p, nxM v (3, 0) = ((nv, nl), true, (p, 0)) ∧ p ≤ v.length ∧ sdR 14 v = withR nv nl (v.drop p) ∧ nl.length = 16 ∧ Oct nl := by
  have hsd : sdR 14 v = (if v.length < 4 then none else if v.getD 3 0 = 4 then (if v.length < 9 then none else withR false (pad ((v.drop 4).take 4)) (v.drop 9))
     else if v.getD 3 0 = 16 then (if v.length < 21 then none else withR true (pad ((v.drop 4).take 16)) (v.drop 21)) else none) := by
    unfold sdR
    rw [if_neg (by omega), if_neg (by rw [hours]; decide), if_pos rfl]
  rw [hsd]
  unfold nxM
  by_cases h4 : v.length < 4
  · left
    have ⟨a1, a2⟩ := nS_no (l := v) (p := 3) (k := 1) (by omega) (by omega) (by omega) (by omega)
    have a1 : nV v (3, 0) 1 = 0 := a1
    have a2 : nS v (3, 0) 1 = (3, 3) := a2
    rw [a1, if_neg (by decide), if_neg (by decide), if_pos h4]
    exact ⟨rfl, rfl⟩
  · have ⟨a1, a2⟩ := nS_fit (l := v) (p := 3) (k := 1) (by omega) (by omega) (by omega)
    have a1 : nV v (3, 0) 1 = numOf ((v.drop 3).take 1) := a1
    have a2 : nS v (3, 0) 1 = (4, 0) := a2
    have a3 : numOf ((v.drop 3).take 1) = v.getD 3 0 := by
      have e := List.drop_eq_getElem_cons (show 3 < v.length by omega)
      rw [e]
      show numOf [v[3]] = _
      simp [numOf, List.getD, show 3 < v.length by omega]
    rw [a1, a2, a3, if_neg h4]
    by_cases e4 : v.getD 3 0 = 4
    · rw [if_pos e4, if_pos e4]
      by_cases h8 : v.length < 8
      · left
        have ⟨b1, b2⟩ := nS_no (l := v) (p := 4) (k := 4) (by omega) (by omega) (by omega) (by omega)
        have b2 : nS v (4, 0) 4 = (4, 3) := b2
        rw [b2]
        have ⟨d1, d2⟩ := tS_err v 4 3 1 (by decide)
        rw [d2, if_pos (by omega)]
        exact ⟨rfl, rfl⟩
      · have ⟨b1, b2⟩ := nS_fit (l := v) (p := 4) (k := 4) (by omega) (by omega) (by omega)
        have b1 : nV v (4, 0) 4 = numOf ((v.drop 4).take 4) := b1
        have b2 : nS v (4, 0) 4 = (8, 0) := b2
        rw [b2, b1]
        by_cases h9 : v.length < 9
        · left
          have ⟨d1, d2⟩ := tS_out (l := v) (p := 8) (n := (1 : Int)) (by omega) (by omega)
          rw [d2, if_pos h9]
          exact ⟨rfl, rfl⟩
        · right
          have ⟨d1, d2⟩ := tS_in (l := v) (p := 8) (n := 1) (by omega)
          have d2 : tS v (8, 0) 1 = (9, 0) := d2
          have hl4 : ((v.drop 4).take 4).length = 4 := by simp; omega
          have ho4 : Oct ((v.drop 4).take 4) := fun x hx => ho x (List.mem_of_mem_drop (List.mem_of_mem_take hx))
          have ef : four (numOf ((v.drop 4).take 4)) = pad ((v.drop 4).take 4) := by
            rw [four_back _ hl4 ho4]; unfold pad; rw [hl4]
          rw [d2, if_neg h9, ef]
          exact ⟨false, _, 9, rfl, by omega, rfl, pad_len (by omega), pad_oct ho4⟩
    · rw [if_neg e4, if_neg e4]
      by_cases e16 : v.getD 3 0 = 16
      · rw [if_pos e16, if_pos e16]
        by_cases h20 : v.length < 20
        · left
          have ⟨b1, b2⟩ := tS_out (l := v) (p := 4) (n := (16 : Int)) (by omega) (by omega)
          have b2 : tS v (4, 0) 16 = (4, 3) := b2
          rw [b2]
          have ⟨d1, d2⟩ := tS_err v 4 3 1 (by decide)
          rw [d2, if_pos (by omega)]
          exact ⟨rfl, rfl⟩
        · have ⟨b1, b2⟩ := tS_in (l := v) (p := 4) (n := 16) (by omega)
          have b1 : tV v (4, 0) 16 = (v.drop 4).take 16 := b1
          have b2 : tS v (4, 0) 16 = (20, 0) := b2
          rw [b1, b2]
          by_cases h21 : v.length < 21
          · left
            have ⟨d1, d2⟩ := tS_out (l := v) (p := 20) (n := (1 : Int)) (by omega) (by omega)
            rw [d2, if_pos h21]
            exact ⟨rfl, rfl⟩
          · right
            have ⟨d1, d2⟩ := tS_in (l := v) (p := 20) (n := 1) (by omega)
            have d2 : tS v (20, 0) 1 = (21, 0) := d2
            have ho4 : Oct ((v.drop 4).take 16) := fun x hx => ho x (List.mem_of_mem_drop (List.mem_of_mem_take hx))
            rw [d2, if_neg h21]
            exact ⟨true, _, 21, rfl, by omega, rfl, pad_len (by simp; omega), pad_oct ho4⟩
      · left
        rw [if_neg e16, if_neg e16]
        exact ⟨rfl, rfl⟩

/-! In memory. -/
def sdc (nv : Bool) (nl : List Int) (vr : Value) (wr : Int) : List Value := ipc nv nl ++ [vr, .int .i64 wr]
theorem sdc_len {nv : Bool} {nl : List Int} {vr : Value} {wr : Int} (h : nl.length = 16) : (sdc nv nl vr wr).length = 19 := by simp [sdc, h]
theorem sdc_17 {nv : Bool} {nl : List Int} {vr : Value} {wr : Int} (h : nl.length = 16) : (sdc nv nl vr wr).toArray[17]? = some vr := by
  have hl17 : (ipc nv nl).length = 17 := by rw [ipc_len, h]
  rw [List.getElem?_toArray]
  unfold sdc
  rw [List.getElem?_append_right (by omega), hl17]
  rfl
theorem sdc_18 {nv : Bool} {nl : List Int} {vr : Value} {wr : Int} (h : nl.length = 16) : (sdc nv nl vr wr).toArray[18]? = some (.int .i64 wr) := by
  have hl17 : (ipc nv nl).length = 17 := by rw [ipc_len, h]
  rw [List.getElem?_toArray]
  unfold sdc
  rw [List.getElem?_append_right (by omega), hl17]
  rfl
theorem ssz : (Tryz.prog.info? 108).map (·.size) = some 19 := by kernel_rfl
theorem sdc_one {nv : Bool} {nl : List Int} {vr : Value} {wr : Int} (h : vr.oneCell' = true) : ∀ v ∈ sdc nv nl vr wr, v.oneCell' = true := by
  intro v hv
  rcases List.mem_append.1 hv with hv | hv
  · exact one_ipcN _ _ v hv
  · simp only [List.mem_cons, List.mem_nil_iff, or_false] at hv
    rcases hv with rfl | rfl
    · exact h
    · rfl
theorem sd_fetch {ops : Array Oper} {rest : List Oper} {op : Oper} {a : Act} {W : World} {Q : Exit → Act → World → Prop} (hw : Region.wanted op (yielded ops a.tmps) = true) (x : Operand) (ho : op.op = .load 108 x) (b : Nat) {nv : Bool} {nl : List Int} {vr : Value} {wr : Int} (h : Blk W b 108 (sdc nv nl vr wr).toArray) (hl : nl.length = 16)
    (hx : a.eval x = .pointer (some ⟨b, 0, none⟩)) (k : wpList Tryz.prog ops Q rest (a.put op.dst (.agg (sdc nv nl vr wr).toArray)) W) : wpList Tryz.prog ops Q (op :: rest) a W :=
  part_fetch hw 108 x ho b 0 (sdc nv nl vr wr) _ hx h.range Tryz.underlying108 rfl (by rw [ssz, sdc_len hl]) k
theorem sd_store {ops : Array Oper} {rest : List Oper} {o : Oper} {a : Act} {w : World} {Q : Exit → Act → World → Prop} (hgd : o.guard = none) (x y : Operand) (ho : o.op = .store 108 x y) (g : Nat) (nv : Bool) (nl : List Int) (vr : Value) (wr : Int) (hl : nl.length = 16) (h1 : vr.oneCell' = true)
    (hx : a.eval x = .pointer (some ⟨g, 0, none⟩)) (hy : a.eval y = .agg (sdc nv nl vr wr).toArray) (t : TypeId) (old : Array Value) (hg : Blk w g t old) (hold : old.size = 19)
    (k : wpList Tryz.prog ops Q rest (a.put o.dst undef) (w.setRow g (sdc nv nl vr wr).toArray)) : wpList Tryz.prog ops Q (o :: rest) a w :=
  wpList_store_row hgd 108 x y ho g _ hx hy t old hg (by rw [ssz]; simp [sdc_len hl]) (by rw [hold]; simp [sdc_len hl]) (all_oneCell_toArray (sdc_one h1)) k
def WrP (w : World) (nv : Bool) (nl l : List Int) (e : Ending) (w' : World) : Prop :=
  ∃ A n c, e = .returned (.tuple #[.agg (sdc nv nl (.slice A n c) (readMN l)).toArray, .bool (decide (readE l = 0))]) ∧ OwnRt w.heap.size w' (.slice A n c) (readRs l) ∧ Below w.heap.size w w'
theorem sd_set (nv : Bool) (nl : List Int) (h : nl.length = 16) (v0 v : Value) (m0 m : Int) : ((sdc nv nl v0 m0).toArray.setIfInBounds 17 v).setIfInBounds 18 (.int .i64 m) = (sdc nv nl v m).toArray := by
  have hl : (ipc nv nl).length = 17 := by rw [ipc_len, h]
  unfold sdc
  rw [List.setIfInBounds_toArray, List.setIfInBounds_toArray, List.set_append_right _ _ (by omega), List.set_append_right _ _ (by omega), hl]
  rfl
theorem readE_any (l : List Int) : readE l = 0 ∨ readE l = 3 := by unfold readE; split <;> simp
set_option maxHeartbeats 2000000 in
theorem wroutes_is (w : World) (nv : Bool) (nl : List Int) (hl : nl.length = 16) (A : Option Addr) (n c : Nat) (m0 : Int) (A2 : Option Addr) (n2 c2 : Nat) (l : List Int) (hr : Rd w w.heap.size A2 n2 l) (hm : n2 ≤ 1000000000000) :
    Calls Tryz.prog 121 #[.agg (sdc nv nl (.slice A n c) m0).toArray, .slice A2 n2 c2] w (WrP w nv nl l) := by
  have hal : Below w.heap.size w ((w.alloc (.cells (sdc nv nl (.slice A n c) m0).toArray 108)).alloc (.cells (sdc false z16 (.slice none 0 0) 0).toArray 108)) := ((Below.refl w.heap.size w).alloc (Nat.le_refl _) _).alloc (by simp) _
  have hb0 := (Blk.new w 108 (sdc nv nl (.slice A n c) m0).toArray).alloc (.cells (sdc false z16 (.slice none 0 0) 0).toArray 108)
  have hb1 : Blk ((w.alloc (.cells (sdc nv nl (.slice A n c) m0).toArray 108)).alloc (.cells (sdc false z16 (.slice none 0 0) 0).toArray 108)) (w.heap.size + 1) 108 (sdc false z16 (.slice none 0 0) 0).toArray := by simpa using Blk.new (w.alloc (.cells (sdc nv nl (.slice A n c) m0).toArray 108)) 108 (sdc false z16 (.slice none 0 0) 0).toArray
  have HRd := Lib.hid (readNl_is ((w.alloc (.cells (sdc nv nl (.slice A n c) m0).toArray 108)).alloc (.cells (sdc false z16 (.slice none 0 0) 0).toArray 108)) A2 n2 c2 l ((hr.below hal).more hal.size) hm)
  have HB0 := Lib.hid hal
  have H0 := Lib.hid hb0
  have H1 := Lib.hid hb1
  have HL := Lib.hid hl
  have HZ16 : Hid (z16.length = 16) := Lib.hid rfl
  have HEr := Lib.hid (readE_any l)
  clear hal hb0 hb1 hr hl
  go_enter Tryz.func121, Tryz.ntmps121
  go_wp2_with fail
  refine HRd.out.mono ?_
  rintro e W2 ⟨v, rfl, hO, hB⟩
  have hsz : ((w.alloc (.cells (sdc nv nl (.slice A n c) m0).toArray 108)).alloc (.cells (sdc false z16 (.slice none 0 0) 0).toArray 108)).heap.size = w.heap.size + 2 := by simp
  rw [hsz] at hB hO
  have h0 := H0.out.below hB (by omega)
  have h1 := H1.out.below hB (by omega)
  have hlow := HB0.out.trans (hB.mono (by omega))
  obtain ⟨A3, c3, rfl, _⟩ := hO.rd
  generalize hn3 : (readRs l).length = n3 at *
  have f17 := h0.frozen 17
  have f18 := h0.frozen 18
  have c17 : W2.cell? ⟨w.heap.size, 17, none⟩ = some (.slice A n c) := by
    rw [h0.cell]
    exact sdc_17 HL.out
  have c18 : W2.cell? ⟨w.heap.size, 18, none⟩ = some (.int .i64 m0) := by
    rw [h0.cell]
    exact sdc_18 HL.out
  have h02 := (h0.set_ 17 (.slice A3 n3 c3)).set_ 18 (.int .i64 (readMN l))
  rw [sd_set nv nl HL.out] at h02
  have h12 := (h1.far (p := ⟨w.heap.size, 17, none⟩) (by show w.heap.size + 1 ≠ w.heap.size; omega) (.slice A3 n3 c3)).far (p := ⟨w.heap.size, 18, none⟩) (by show w.heap.size + 1 ≠ w.heap.size; omega) (.int .i64 (readMN l))
  have hlow2 := (hlow.setCell (p := ⟨w.heap.size, 17, none⟩) (Nat.le_refl _) (.slice A3 n3 c3)).setCell (p := ⟨w.heap.size, 18, none⟩) (Nat.le_refl _) (.int .i64 (readMN l))
  have g2 : W2.grownBy ((W2.setCell ⟨w.heap.size, 17, none⟩ (.slice A3 n3 c3)).setCell ⟨w.heap.size, 18, none⟩ (.int .i64 (readMN l))) (some w.heap.size) := only_setCell (only_setCell (only_refl _ _) (p := ⟨w.heap.size, 17, none⟩) (.inl rfl) _) (p := ⟨w.heap.size, 18, none⟩) (.inl rfl) _
  have hO2 := hO.grown g2 (by omega)
  have HX0 := Lib.hid h02
  have HX1 := Lib.hid h12
  have HO2 := Lib.hid hO2
  have HLow2 := Lib.hid hlow2
  have HEnd : Hid (∀ b, decide (readE l = 0) = b → ∀ W, W = (((W2.setCell ⟨w.heap.size, 17, none⟩ (.slice A3 n3 c3)).setCell ⟨w.heap.size, 18, none⟩ (.int .i64 (readMN l))).setRow (w.heap.size + 1) (sdc nv nl (.slice A3 n3 c3) (readMN l)).toArray) → WrP w nv nl l (.returned (.tuple #[.agg (sdc nv nl (.slice A3 n3 c3) (readMN l)).toArray, .bool b])) W) := Lib.hid (fun b hb W hW => by
    subst hb hW
    refine ⟨A3, n3, c3, rfl, ?_, HLow2.out.trans (below_setRow _ _ _ (by omega))⟩
    have hg3 := below_setRow ((W2.setCell ⟨w.heap.size, 17, none⟩ (.slice A3 n3 c3)).setCell ⟨w.heap.size, 18, none⟩ (.int .i64 (readMN l))) (w.heap.size + 1) (sdc nv nl (.slice A3 n3 c3) (readMN l)).toArray (Nat.le_refl _)
    have g3 : ((W2.setCell ⟨w.heap.size, 17, none⟩ (.slice A3 n3 c3)).setCell ⟨w.heap.size, 18, none⟩ (.int .i64 (readMN l))).grownBy (((W2.setCell ⟨w.heap.size, 17, none⟩ (.slice A3 n3 c3)).setCell ⟨w.heap.size, 18, none⟩ (.int .i64 (readMN l))).setRow (w.heap.size + 1) (sdc nv nl (.slice A3 n3 c3) (readMN l)).toArray) (some (w.heap.size + 1)) := ⟨hg3.os, hg3.tape, hg3.output, hg3.size, fun i hi hne => setRow_other _ _ _ _ (fun e => hne (by rw [e]))⟩
    exact (HO2.out.grown g3 (by omega)).low (by omega))
  generalize (readMN l : Int) = rm at *
  generalize readE l = re at *
  clear h0 h1 hlow hO hB h02 h12 hlow2 g2 hO2 hn3 hsz HRd H0 H1
  by_cases he : re = 0
  · have q0 : (re == 0) = true := by simpa using he
    have HE2 := Lib.hid (HEnd.out true (decide_eq_true he) _ rfl)
    clear HEnd he HEr
    go_wp2_with (first
      | (refine sd_fetch rfl _ rfl w.heap.size HX0.out HL.out rfl ?_)
      | (refine sd_store rfl _ _ rfl (w.heap.size + 1) nv nl (.slice A3 n3 c3) rm HL.out rfl rfl rfl 108 _ HX1.out (by simp [sdc_len HZ16.out]) ?_))
    try simp only [Exit.inBlock, Exit.then]
    exact bodyPost_ret (results_cell_slot rfl _ _ (w.heap.size + 1) 108 _ _ (.bool true) rfl rfl (HX1.out.setRow _) Tryz.underlying108 rfl (by rw [ssz]; simp [sdc_len HL.out])) rfl HE2.out
  · have q0 : (re == 0) = false := by simpa using he
    have HE2 := Lib.hid (HEnd.out false (decide_eq_false he) _ rfl)
    clear HEnd he HEr
    go_wp2_with (first
      | (refine sd_fetch rfl _ rfl w.heap.size HX0.out HL.out rfl ?_)
      | (refine sd_store rfl _ _ rfl (w.heap.size + 1) nv nl (.slice A3 n3 c3) rm HL.out rfl rfl rfl 108 _ HX1.out (by simp [sdc_len HZ16.out]) ?_))
    try simp only [Exit.inBlock, Exit.then]
    exact bodyPost_ret (results_cell_slot rfl _ _ (w.heap.size + 1) 108 _ _ (.bool false) rfl rfl (HX1.out.setRow _) Tryz.underlying108 rfl (by rw [ssz]; simp [sdc_len HL.out])) rfl HE2.out
end Go.Proofs.YtdgoeibfggjbmaaGreatDoor
