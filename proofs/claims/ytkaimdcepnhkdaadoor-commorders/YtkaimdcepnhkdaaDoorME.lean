/-
  Put together: RefA RefB RefC RefD RefE RefF AdY RefG RefH RefI RefJ RefK RdsM.
-/
import Derived.Test.YtkaimdcepnhkdaaDoorMA
import Derived.Test.YtkaimdcepnhkdaaDoorMB
import Derived.Lib.LazyBuf
import Derived.IntWalk
import Derived.Test.YtkaimdcepnhkdaaDoorMD
import Derived.Test.YtkaimdcepnhkdaaDoorMC
import Derived.Deep.RegionHeld3
namespace Go.Proofs.YtkaimdcepnhkdaaDoor
open Go.RowKit
set_option linter.unusedSimpArgs false
set_option linter.unusedVariables false

theorem decN_big (l : List UInt8) (ha : l.all isDig = true) (c : UInt8) (hc : l.head? = some c) (h0 : c ≠ 48) : ∀ k, k < l.length → (10 : Int) ^ k ≤ decN (l.take (k + 1))
  | 0, hk => by
    cases l with
    | nil => cases hc
    | cons d r =>
      obtain rfl : d = c := Option.some.inj hc
      have hd := (isDig_iff d).1 (by simpa using (List.all_eq_true.1 ha d List.mem_cons_self))
      have hne : d.toNat ≠ 48 := fun e => h0 (UInt8.toNat_inj.1 e)
      show (1 : Int) ≤ decN [d]
      unfold decN
      simp only [List.foldl_cons, List.foldl_nil]
      omega
  | k + 1, hk => by
    have ih := decN_big l ha c hc h0 k (by omega)
    have hd := (isDig_iff l[k + 1]).1 (by simpa using List.all_eq_true.1 ha l[k + 1] (List.getElem_mem hk))
    rw [List.take_succ_eq_append_getElem hk, decN_snoc, Int.pow_succ]
    omega
theorem digits_long (l : List UInt8) (most : Int) (h1 : most < 18446744073709551616) (hl : 20 < l.length) : digits l most = none := by
  cases hb : bad0 l
  · cases ha : l.all isDig
    · simp [digits, ha]
    · cases l with
      | nil => simp at hl
      | cons c r =>
        have h0 : c ≠ 48 := by
          rintro rfl
          have hl2 : 1 < (48 :: r : List UInt8).length := by omega
          simp only [bad0, List.head?_cons, List.isEmpty_cons, Bool.false_or, decide_eq_true hl2, Bool.and_true, beq_self_eq_true] at hb
          cases hb
        have := decN_big (c :: r) ha c rfl h0 20 hl
        exact digits_big (c :: r) most 21 (by
          have e : (10 : Int) ^ 20 = 100000000000000000000 := by decide
          rw [e, show 20 + 1 = 21 from rfl] at this
          omega)
  · exact digits_bad l most hb
set_option maxHeartbeats 2000000 in
set_option maxRecDepth 100000 in
theorem rdg_go (w : World) (s : ByteArray) (most : Int) (h0 : 0 ≤ most) (h1 : most < 18446744073709551616) (h : 0 < s.size) (h20 : s.size ≤ 20) (hb : bad0 s.data.toList = false) :
    Calls Tryd.prog 84 #[.string s, .int .u64 most] w (Digs w (digits s.data.toList most)) := by
  have HB := Lib.hid hb
  have hc : (decide (1 < (s.size : Int)) = true ∧ ((s[0].toNat : Int) == 48) = false) ∨ (decide (1 < (s.size : Int)) = false) := by
    rw [bad0_eq s h] at hb
    cases e : decide (1 < (s.size : Int))
    · exact .inr rfl
    · rw [e, Bool.and_true] at hb; exact .inl ⟨rfl, hb⟩
  have HL := Lib.hid (str_len s)
  have g1 : decide ((s.size : Int) < 1) = false := decide_eq_false (by omega)
  have g2 : decide ((s.size : Int) > 20) = false := decide_eq_false (by omega)
  clear hb
  rcases hc with ⟨hc1, hc2⟩ | hc1
  all_goals
    go_enter Tryd.func84, Tryd.ntmps84
    go_wp2
    go_loop [6, 7, 8] (fun n i _ => ∃ k : Nat, k ≤ s.size ∧ i = .int .i64 k ∧ n = .int .u64 (decN (s.data.toList.take k)) ∧ (s.data.toList.take k).all isDig = true ∧ decN (s.data.toList.take k) < 18446744073709551616) (fun _ i _ => s.size - (intOf i).toNat)
    case atStart => exact ⟨0, Nat.zero_le _, rfl, rfl, rfl, by simp [decN]⟩
    case round =>
      obtain ⟨k, hk, rfl, rfl, hall, hle⟩ := hrel
      try clear hc2
      clear hc1 g1 g2
      have hnn := decN_nn (s.data.toList.take k) k hall
      rw [List.take_take, Nat.min_self] at hnn
      have HA := Lib.hid hall
      clear hall
      by_cases hlt : k < s.size
      · have HS := Lib.hid (take_snoc s k hlt)
        have HG := Lib.hid (str_get s k hlt)
        by_cases hd : 48 ≤ (s[k].toNat : Int) ∧ (s[k].toNat : Int) ≤ 57
        · obtain ⟨hd1, hd2⟩ := hd
          have HD := Lib.hid (decN_snoc (s.data.toList.take k) s[k])
          have HI := Lib.hid ((isDig_iff s[k]).2 ⟨hd1, hd2⟩)
          have HN : Hid (10 * decN (s.data.toList.take k) + ((s[k].toNat : Int) - 48) = decN (s.data.toList.take (k + 1))) := Lib.hid (by rw [HS.out, HD.out])
          have HA2 : Hid ((s.data.toList.take (k + 1)).all isDig = true) := Lib.hid (by rw [HS.out, List.all_append, HA.out]; simp [HI.out])
          have HBig := Lib.hid (fun hx => digits_big s.data.toList most (k + 1) hx)
          generalize hN1 : decN (s.data.toList.take (k + 1)) = n1 at *
          have HN1 := Lib.hid hN1
          clear hN1
          generalize decN (s.data.toList.take k) = n at *
          clear HD HI HS HG HA
          by_cases hm : 10 * n + ((s[k].toNat : Int) - 48) < 18446744073709551616
          · have hq2 : n ≤ (18446744073709551615 - ((s[k].toNat : Int) - 48)) / 10 := by omega
            go_wp2
            exact ⟨⟨k + 1, by omega, by go_num, by rw [HN1.out, HN.out], HA2.out, by rw [HN1.out, ← HN.out]; exact hm⟩, by simp [intOf]; omega⟩
          · have hm' : most < 10 * n + ((s[k].toNat : Int) - 48) := by omega
            have hq2 : ¬ n ≤ (18446744073709551615 - ((s[k].toNat : Int) - 48)) / 10 := by omega
            go_wp2
            go_ret2
            exact ⟨by rw [HBig.out (by rw [← HN.out]; exact hm')]; rfl, rfl⟩
        · have HI := Lib.hid (digits_nd s.data.toList most k (by rw [HL.out]; exact hlt) (by
            rw [HG.out]
            cases h : isDig s[k]
            · rfl
            · exact absurd ((isDig_iff s[k]).1 h) hd))
          clear HA HS HG
          have hd' : (s[k].toNat : Int) < 48 ∨ 57 < (s[k].toNat : Int) := by omega
          clear hd
          rcases hd' with hd | hd
          · go_wp2
            go_ret2
            exact ⟨by rw [HI.out]; rfl, rfl⟩
          · have hd2 : ¬ (s[k].toNat : Int) < 48 := by omega
            go_wp2
            go_ret2
            exact ⟨by rw [HI.out]; rfl, rfl⟩
      · obtain rfl : k = s.size := by omega
        have ht : s.data.toList.take s.size = s.data.toList := by rw [← HL.out, List.take_length]
        have ha2 := HA.out
        rw [ht] at ha2 hle hnn ⊢
        have HOk := Lib.hid (digits_ok s.data.toList most HB.out ha2)
        have HNo : Hid (most < decN s.data.toList → digits s.data.toList most = none) := Lib.hid (fun hx => digits_big s.data.toList most s.size (by rw [ht]; exact hx))
        clear HA ht ha2
        generalize decN s.data.toList = n at *
        by_cases hm : n ≤ most
        · have hm2 : ¬ n > most := by omega
          have HF := Lib.hid (HOk.out hm)
          clear HOk HNo
          go_wp2
          go_ret2
          exact ⟨by rw [HF.out]; rfl, rfl⟩
        · have hm2 : n > most := by omega
          have HF := Lib.hid (HNo.out (by omega))
          clear HOk HNo
          go_wp2
          go_ret2
          exact ⟨by rw [HF.out]; rfl, rfl⟩
set_option maxHeartbeats 1000000 in
theorem rdg_is (w : World) (s : ByteArray) (most : Int) (h0 : 0 ≤ most) (h1 : most < 18446744073709551616) :
    Calls Tryd.prog 84 #[.string s, .int .u64 most] w (Digs w (digits s.data.toList most)) := by
  rcases (show s.size = 0 ∨ 20 < s.size ∨ (0 < s.size ∧ s.size ≤ 20) by omega) with h | h | ⟨h, h20⟩
  · have H := Lib.hid (digits_bad s.data.toList most (bad0_empty s h))
    have g1 : decide ((s.size : Int) < 1) = true := decide_eq_true (by omega)
    clear h
    go_enter Tryd.func84, Tryd.ntmps84
    go_wp2
    go_ret2
    exact ⟨by rw [H.out]; rfl, rfl⟩
  · have H := Lib.hid (digits_long s.data.toList most h1 (by rw [str_len]; exact h))
    have g1 : decide ((s.size : Int) < 1) = false := decide_eq_false (by omega)
    have g2 : decide ((s.size : Int) > 20) = true := decide_eq_true (by omega)
    clear h
    go_enter Tryd.func84, Tryd.ntmps84
    go_wp2
    go_ret2
    exact ⟨by rw [H.out]; rfl, rfl⟩
  · cases hb : bad0 s.data.toList
    · exact rdg_go w s most h0 h1 h h20 hb
    · have H := Lib.hid (digits_bad s.data.toList most hb)
      rw [bad0_eq s h, Bool.and_eq_true] at hb
      obtain ⟨hb1, hb2⟩ := hb
      have g1 : decide ((s.size : Int) < 1) = false := decide_eq_false (by omega)
      have g2 : decide ((s.size : Int) > 20) = false := decide_eq_false (by omega)
      go_enter Tryd.func84, Tryd.ntmps84
      go_wp2
      go_ret2
      exact ⟨by rw [H.out]; rfl, rfl⟩
end Go.Proofs.YtkaimdcepnhkdaaDoor
namespace Go.Proofs.YtkaimdcepnhkdaaDoor
open Go.RowKit
set_option linter.unusedSimpArgs false
set_option linter.unusedVariables false

/-- Decimal digits as numbers. -/
def dgs (u : Nat) : List Int := (Lib.decDigits u).map fun b => (b.toNat : Int)
theorem dgs_str (u : Nat) : strOfNums (dgs u) = ⟨(Lib.decDigits u).toArray⟩ := Lib.Lz.strOfNums_map _
theorem dgs_small (u : Nat) (h : u < 10) : dgs u = [48 + (u : Int)] := by
  unfold dgs
  rw [Lib.decDigits, dif_pos h]
  simp
  omega
theorem dgs_big (u : Nat) (h : ¬ u < 10) : dgs u = dgs (u / 10) ++ [48 + ((u % 10 : Nat) : Int)] := by
  unfold dgs
  rw [Lib.decDigits, dif_neg h]
  simp
  omega
/-- What is left of n, and the digits that were written. -/
def DecSt (n m : Nat) (j : Nat) (tl : List Int) : Prop := tl.length = j ∧ j ≤ 20 ∧ m < 10 ^ (20 - j) ∧ ((m = 0 ∧ 1 ≤ j ∧ dgs n = tl) ∨ ((0 < m ∨ j = 0) ∧ dgs n = dgs m ++ tl))
theorem decSt_step {n m j : Nat} {tl : List Int} (h : DecSt n m j tl) (hc : j = 0 ∨ 0 < m) : j < 20 ∧ DecSt n (m / 10) (j + 1) ((48 + ((m % 10 : Nat) : Int)) :: tl) := by
  obtain ⟨h1, h2, h3, h4⟩ := h
  have hj : j < 20 := by
    rcases hc with rfl | hc
    · omega
    · rcases Nat.lt_or_ge j 20 with h | h
      · exact h
      · obtain rfl : j = 20 := by omega
        simp at h3; omega
  have hlt : m / 10 < 10 ^ (20 - (j + 1)) := by
    rw [show 20 - j = (20 - (j + 1)) + 1 by omega, Nat.pow_succ] at h3
    omega
  have h5 : dgs n = dgs m ++ tl := by
    rcases h4 with ⟨h, h', _⟩ | h
    · omega
    · exact h.2
  refine ⟨hj, by simp [h1], by omega, hlt, ?_⟩
  by_cases hm : m < 10
  · rw [dgs_small m hm] at h5
    exact .inl ⟨by omega, by omega, by rw [h5, Nat.mod_eq_of_lt hm]; rfl⟩
  · rw [dgs_big m hm, List.append_assoc] at h5
    exact .inr ⟨.inl (by omega), h5⟩
theorem info_u8r : (Tryd.prog.info? 5).map (fun i => (i.zero, i.size, i.bytes)) = some (some (.int .u8 0), 1, 1) := by kernel_rfl
theorem made20 : madeCells #[Value.int .u8 0] 20 = ((List.replicate 20 (0 : Int)).map (Value.int .u8)).toArray := by kernel_rfl
set_option maxHeartbeats 4000000 in
set_option maxRecDepth 100000 in
theorem rdec_is (w : World) (n : Nat) (hn : n < 18446744073709551616) :
    Calls Tryd.prog 81 #[.int .u64 (n : Int)] w fun e w' => e = .returned (.string (decS n)) ∧ Below w.heap.size w w' := by
  have hmk : (Instr.makeSlice 79 (.int .i64 20) (.int .i64 20)).run Tryd.prog w = .ok (.slice (some ⟨w.heap.size, 0, none⟩) 20 20) (w.alloc (.cells (madeCells #[.int .u8 0] 20) 5)) := run_make_row' (P := Tryd.prog) 79 5 (.int .u8 0) 1 Tryd.underlying79 info_u8r rfl .i64 .i64 20 (by omega) (by omega) w
  have HB0 : Hid (Byt (w.alloc (.cells (madeCells #[.int .u8 0] 20) 5)) w.heap.size 5 (List.replicate 20 0)) := Lib.hid (by rw [made20]; exact Blk.new w 5 _)
  have HL0 : Hid (Below w.heap.size w (w.alloc (.cells (madeCells #[.int .u8 0] 20) 5))) := Lib.hid ((Below.refl w.heap.size w).alloc (Nat.le_refl _) _)
  have H0 : Hid (DecSt n n 0 []) := Lib.hid ⟨rfl, by omega, Nat.lt_of_lt_of_le hn (by decide), .inr ⟨.inr rfl, by simp⟩⟩
  go_enter Tryd.func81, Tryd.ntmps81
  go_wp2
  clear hmk
  go_loopw [0, 4] (fun m at_ wr => ∃ (j u : Nat) (tl : List Int), m = .int .u64 u ∧ u ≤ n ∧ at_ = .int .i64 ((20 - j : Nat) : Int) ∧ DecSt n u j tl ∧ Byt wr w.heap.size 5 (List.replicate (20 - j) 0 ++ tl) ∧ Below w.heap.size w wr) (fun _ a _ => (intOf a).toNat)
  case atStart => exact ⟨0, n, [], rfl, Nat.le_refl _, rfl, H0.out, by simpa using HB0.out, HL0.out⟩
  case round =>
    obtain ⟨j, u, tl, rfl, hun, rfl, hst, hb, hl⟩ := hrel
    have HSt := Lib.hid hst
    have hj20 := hst.2.1
    have htl := hst.1
    have HB := Lib.hid hb
    have HL := Lib.hid hl
    clear hst hb hl HB0 HL0 H0
    by_cases hc : j = 0 ∨ 0 < u
    · obtain ⟨hj, hst2⟩ := decSt_step HSt.out hc
      have HSt2 := Lib.hid hst2
      have hcell := HB.out.cell (i := 19 - j) (by simp; omega)
      have hfz := HB.out.frozen (19 - j)
      have hset := HB.out.set_ (19 - j) (48 + ((u % 10 : Nat) : Int))
      rw [show 20 - j = (19 - j) + 1 by omega, set_zeros] at hset
      have HSet : Hid (Byt (wr.setCell ⟨w.heap.size, 19 - j, none⟩ (.int .u8 (48 + ((u % 10 : Nat) : Int)))) w.heap.size 5 (List.replicate (20 - (j + 1)) 0 ++ (48 + ((u % 10 : Nat) : Int)) :: tl)) := Lib.hid (by rw [show 20 - (j + 1) = 19 - j by omega]; exact hset)
      have HL2 := Lib.hid (HL.out.setCell (p := ⟨w.heap.size, 19 - j, none⟩) (Nat.le_refl _) (.int .u8 (48 + ((u % 10 : Nat) : Int))))
      have r10 : (u : Int) % 10 = ((u % 10 : Nat) : Int) := by omega
      have q10 : (u : Int) / 10 = ((u / 10 : Nat) : Int) := by omega
      have m1 : ((20 - j : Nat) : Int) - 1 = ((19 - j : Nat) : Int) := by omega
      have hd10 : u % 10 < 10 := by omega
      have hq10 : u / 10 ≤ u := by omega
      have HU : Hid (u / 10 ≤ n ∧ (20 - (j + 1) : Nat) = 19 - j) := Lib.hid ⟨by omega, by omega⟩
      have ge : (((20 - j : Nat) : Int) == 20) = true ∨ ((((20 - j : Nat) : Int) == 20) = false ∧ (u : Int) > 0) := by
        rcases Nat.eq_zero_or_pos j with h | h
        · exact .inl (by subst h; rfl)
        · refine .inr ⟨by simp; omega, by omega⟩
      clear hset HSt hc
      have hb20 : 20 - j ≤ 20 := by omega
      have ha20 : 19 - j < 20 := by omega
      generalize u % 10 = d at *
      generalize u / 10 = v at *
      generalize 19 - j = a at *
      generalize 20 - j = b at *
      have HW8 : Hid (IntKind.u8.wrap (48 + (d : Int)) = 48 + (d : Int)) := Lib.hid (by rw [IntKind.wrap_u8]; exact Int.emod_eq_of_lt (by omega) (by omega))
      generalize (List.replicate b 0 ++ tl).getD a 0 = old at *
      clear HB HL hst2
      have r10' : (u : Int).tmod 10 = (d : Int) := by rw [Int.tmod_eq_emod_of_nonneg (by omega)]; exact r10
      have q10' : (u : Int).tdiv 10 = (v : Int) := by rw [Int.tdiv_eq_ediv_of_nonneg (by omega)]; exact q10
      rcases ge with ge | ⟨ge, gu⟩
      · go_wp2
        exact ⟨⟨j + 1, v, (48 + (d : Int)) :: tl, rfl, HU.out.1, by rw [HU.out.2], HSt2.out, HSet.out, HL2.out⟩, by simp [intOf]; omega⟩
      · go_wp2
        exact ⟨⟨j + 1, v, (48 + (d : Int)) :: tl, rfl, HU.out.1, by rw [HU.out.2], HSt2.out, HSet.out, HL2.out⟩, by simp [intOf]; omega⟩
    · have hj0 : 1 ≤ j := by omega
      obtain rfl : u = 0 := by omega
      have HD : Hid (dgs n = tl) := Lib.hid (by
        rcases HSt.out.2.2.2 with h | h
        · exact h.2.2
        · exact absurd h.1 (by omega))
      have ge : (((20 - j : Nat) : Int) == 20) = false := by simp; omega
      have HR : Hid (Rd wr wr.heap.size (some ⟨w.heap.size, 20 - j, none⟩) j tl) := Lib.hid (by
        refine ⟨htl, ?_, fun _ => ⟨w.heap.size, 20 - j, rfl, HB.out.lt, fun i hi => ?_⟩⟩
        · rw [← HD.out]
          intro x hx
          unfold dgs at hx
          obtain ⟨c, _, rfl⟩ := List.mem_map.1 hx
          have := c.toNat_lt
          omega
        · rw [HB.out.cell (by simp; omega)]
          congr 2
          rw [List.getD_eq_getElem?_getD, List.getElem?_append_right (by simp), List.length_replicate, Nat.add_sub_cancel_left, List.getD_eq_getElem?_getD])
      have hcv := run_conv_rd (P := Tryd.prog) wr 79 9 5 Tryd.underlying79 Tryd.underlying5 Tryd.underlying9 j HR.out
      have HN : Hid (decS (n : Int) = strOfNums tl) := Lib.hid (by rw [← HD.out, dgs_str]; rfl)
      have hsub : 20 - (20 - j) = j := by omega
      have hb20 : 20 - j < 20 := by omega
      have HLL := Lib.hid HL.out
      clear HSt HB HL HD hc HR
      generalize 20 - j = b at *
      go_wp2
      go_ret
      exact ⟨by rw [HN.out]; rfl, HLL.out⟩
end Go.Proofs.YtkaimdcepnhkdaaDoor
namespace Go.Proofs.YtkaimdcepnhkdaaDoor
open Go.RowKit
set_option linter.unusedSimpArgs false
set_option linter.unusedVariables false

/-- A router's own distinguisher. -/
def rtrRd (id n : Int) : Option (List Int) := if 0 ≤ n ∧ n ≤ 65535 then some (rdB 1 (id * (most 1 + 1) + n)) else none
def rtrE (o : Option (List Int)) : Value := match o with
  | some l => .tuple #[.agg (u8s l).toArray, .int .i64 0]
  | none => .tuple #[.agg zr8, .int .i64 2]
end Go.Proofs.YtkaimdcepnhkdaaDoor
namespace Go.Proofs.YtkaimdcepnhkdaaDoor
open Go.RowKit
set_option linter.unusedSimpArgs false
set_option linter.unusedVariables false

theorem or_sh (a b : Int) (t : Nat) (ha0 : 0 ≤ a) (hb0 : 0 ≤ b) (hb1 : b < 2 ^ t) (h : a * 2 ^ t < 18446744073709551616) (h2 : b < 18446744073709551616) : bits .or .u64 (a * 2 ^ t) b = a * 2 ^ t + b := by
  have hp : (0 : Int) ≤ 2 ^ t := Int.le_of_lt (Int.pow_pos (by decide))
  rw [u64_or _ _ (Int.mul_nonneg ha0 hp) h hb0 h2]
  obtain ⟨x, rfl⟩ := Int.eq_ofNat_of_zero_le ha0
  obtain ⟨y, rfl⟩ := Int.eq_ofNat_of_zero_le hb0
  have hy : y < 2 ^ t := by exact_mod_cast hb1
  have e1 : ((x : Int) * 2 ^ t).toNat = x <<< t := by
    rw [Nat.shiftLeft_eq, show (x : Int) * 2 ^ t = ((x * 2 ^ t : Nat) : Int) by push_cast; rfl, Int.toNat_natCast]
  rw [e1, Int.toNat_natCast, ← Nat.shiftLeft_add_eq_or_of_lt hy, Nat.shiftLeft_eq]
  push_cast
  rfl
end Go.Proofs.YtkaimdcepnhkdaaDoor
namespace Go.Proofs.YtkaimdcepnhkdaaDoor
open Go.RowKit
set_option linter.unusedSimpArgs false
set_option linter.unusedVariables false

end Go.Proofs.YtkaimdcepnhkdaaDoor
namespace Go.Proofs.YtkaimdcepnhkdaaDoor
open Go.RowKit
set_option linter.unusedSimpArgs false
set_option linter.unusedVariables false

/-- The first k numbers, with . between. -/
def ft (l : List Int) : Nat → ByteArray
  | 0 => ⟨#[]⟩
  | k + 1 => (if 0 < k then ft l k ++ ⟨#[46]⟩ else ft l k) ++ decS (l.getD k 0)
theorem ft_size (l : List Int) (ho : Oct l) : ∀ k, (ft l k).size ≤ 21 * k
  | 0 => by simp [ft, ByteArray.size]
  | k + 1 => by
    have ih := ft_size l ho k
    have hx := ho.getD k
    have := decS_size (l.getD k 0) hx.1 (by omega)
    unfold ft
    have h1 : (⟨#[46]⟩ : ByteArray).size = 1 := rfl
    split
    · simp only [ByteArray.size_append]; omega
    · simp only [ByteArray.size_append]; omega
theorem ft_four (l : List Int) (hl : l.length = 4) : ft l 4 = fourS l := by
  match l, hl with
  | [a, b, c, d], _ =>
    apply ByteArray.ext
    simp [ft, fourS, joinS, Lib.join_cons, Lib.joinTail, List.getD, ByteArray.data_append]
set_option maxHeartbeats 4000000 in
set_option maxRecDepth 100000 in
theorem rfourt_is (w : World) (B : Nat) (A : Option Addr) (c : Nat) (l : List Int) (hr : Rd w B A 4 l) (hB : B ≤ w.heap.size) :
    Calls Tryd.prog 70 #[.slice A 4 c] w fun e w' => e = .returned (.string (fourS l)) ∧ Below w.heap.size w w' := by
  have HF := Lib.hid (ft_four l hr.len)
  have HO := Lib.hid hr.oct
  obtain ⟨b, off, rfl, hb, hcell⟩ := hr.at_ (by omega)
  have HC := Lib.hid hcell
  clear hcell hr
  generalize fourS l = out at *
  go_enter Tryd.func70, Tryd.ntmps70
  go_wp2
  go_loopw [3, 4] (fun s i wr => ∃ k : Nat, k ≤ 4 ∧ i = .int .i64 k ∧ s = .string (ft l k) ∧ Below w.heap.size w wr) (fun _ i _ => 4 - (intOf i).toNat)
  case atStart => exact ⟨0, by omega, rfl, rfl, Below.refl _ _⟩
  case round =>
    obtain ⟨k, hk, rfl, rfl, hL⟩ := hrel
    have HL := Lib.hid hL
    clear hL
    by_cases hlt : k < 4
    · have hx := HO.out.getD k
      have hsz := ft_size l HO.out k
      have hds := decS_size (l.getD k 0) hx.1 (by omega)
      have hcm : wr.cell? ⟨b, off + k, none⟩ = some (.int .u8 (l.getD k 0)) := (HL.out.cell (p := ⟨b, off + k, none⟩) (show b < w.heap.size by omega)).trans (HC.out k hlt)
      have HS : Hid (ft l (k + 1) = (if 0 < k then ft l k ++ ⟨#[46]⟩ else ft l k) ++ decS (l.getD k 0)) := Lib.hid rfl
      obtain ⟨x, hxe⟩ := Int.eq_ofNat_of_zero_le hx.1
      have hx256 : x < 18446744073709551616 := by omega
      have wx : IntKind.u64.wrap (x : Int) = (x : Int) := by rw [IntKind.wrap_u64]; exact Int.emod_eq_of_lt (by omega) (by omega)
      rw [hxe] at hcm HS hds
      clear hxe hx
      have HDec := Lib.hid (rdec_is wr x hx256)
      generalize hD : decS (x : Int) = dx at *
      clear hD
      generalize ft l k = cur at *
      by_cases hk0 : 0 < k
      · have hkz : (k : Int) > 0 := by omega
        rw [if_pos hk0] at HS
        have z1 : ¬ 9223372036854775807 < cur.size + 1 := by omega
        have z2 : ¬ 9223372036854775807 < cur.size + 1 + dx.size := by omega
        go_wp2_with fail
        refine HDec.out.mono ?_
        rintro e w1 ⟨rfl, hB1⟩
        have HL1 := Lib.hid (HL.out.trans (hB1.mono HL.out.size))
        clear hB1 HDec hcm
        go_wp2
        exact ⟨⟨k + 1, by omega, by go_num, by rw [HS.out], HL1.out⟩, by simp [intOf]; omega⟩
      · have hkz : ¬ (k : Int) > 0 := by omega
        rw [if_neg hk0] at HS
        have z2 : ¬ 9223372036854775807 < cur.size + dx.size := by omega
        go_wp2_with fail
        refine HDec.out.mono ?_
        rintro e w1 ⟨rfl, hB1⟩
        have HL1 := Lib.hid (HL.out.trans (hB1.mono HL.out.size))
        clear hB1 HDec hcm
        go_wp2
        exact ⟨⟨k + 1, by omega, by go_num, by rw [HS.out], HL1.out⟩, by simp [intOf]; omega⟩
    · obtain rfl : k = 4 := by omega
      go_wp2
      go_ret
      exact ⟨by rw [← HF.out]; rfl, HL.out⟩
end Go.Proofs.YtkaimdcepnhkdaaDoor
namespace Go.Proofs.YtkaimdcepnhkdaaDoor
open Go.RowKit
set_option linter.unusedSimpArgs false
set_option linter.unusedVariables false

theorem rd8 {w : World} {b : Nat} {t : TypeId} {l : List Int} (h : Blk w b t (u8s l).toArray) (ho : Oct l) (hl : l.length = 8) (k m : Nat) (hm : k + m ≤ 8) : Rd w (b + 1) (some ⟨b, k, none⟩) m ((l.drop k).take m) := by
  have := rd_range (w := w) (b := b) (B := b + 1) (pre := []) (post := []) (l := l) (by simpa using h.range) ho k m (by omega) (by omega)
  simpa using this
theorem num_bd (l : List Int) (ho : Oct l) (k m : Nat) (hm : m ≤ 4) : 0 ≤ numOf ((l.drop k).take m) ∧ numOf ((l.drop k).take m) < 4294967296 := by
  have hb := numOf_bd ((l.drop k).take m) (fun x hx => ho x (List.mem_of_mem_drop (List.mem_of_mem_take hx)))
  have hp : ∀ j, j ≤ 4 → (256 : Int) ^ j ≤ 4294967296 := by decide
  have := hp ((l.drop k).take m).length (by rw [List.length_take]; omega)
  exact ⟨hb.1, by omega⟩
/-- A distinguisher's text. -/
def rdS (l : List Int) : Option ByteArray :=
  if numOf ((l.drop 0).take 2) = 0 then some (decS (numOf ((l.drop 2).take 2)) ++ ⟨#[58]⟩ ++ decS (numOf ((l.drop 4).take 4)))
  else if numOf ((l.drop 0).take 2) = 1 then some (fourS ((l.drop 2).take 4) ++ ⟨#[58]⟩ ++ decS (numOf ((l.drop 6).take 2)))
  else if numOf ((l.drop 0).take 2) = 2 then some (decS (numOf ((l.drop 2).take 4)) ++ ⟨#[76, 58]⟩ ++ decS (numOf ((l.drop 6).take 2)))
  else none
def rdTE (o : Option ByteArray) : Value := match o with
  | some s => .tuple #[.string s, .int .i64 0]
  | none => .tuple #[.string ⟨#[]⟩, .int .i64 2]
end Go.Proofs.YtkaimdcepnhkdaaDoor
namespace Go.Proofs.YtkaimdcepnhkdaaDoor
open Go.RowKit
set_option linter.unusedSimpArgs false
set_option linter.unusedVariables false

theorem rdec_int (w : World) (n : Int) (h0 : 0 ≤ n) (h1 : n < 18446744073709551616) :
    Calls Tryd.prog 81 #[.int .u64 n] w fun e w' => e = .returned (.string (decS n)) ∧ Below w.heap.size w w' := by
  obtain ⟨u, rfl⟩ := Int.eq_ofNat_of_zero_le h0
  exact rdec_is w u (by omega)
end Go.Proofs.YtkaimdcepnhkdaaDoor
namespace Go.Proofs.YtkaimdcepnhkdaaDoor
open Go.RowKit
set_option linter.unusedSimpArgs false
set_option linter.unusedVariables false

theorem right_all (l : List Int) (hl : l.length = 16) (h : ∀ j, 4 ≤ j → j < 16 → l.getD j 0 = 0) : rightB false l = true := by
  unfold rightB
  rw [Bool.false_or, decide_eq_true_eq]
  apply List.ext_getElem
  · simp; omega
  · intro i h1 h2
    have h3 : i < 12 := by simpa using h2
    have := h (4 + i) (by omega) (by omega)
    rw [List.getD_eq_getElem?_getD, List.getElem?_eq_getElem (by omega)] at this
    simp only [List.getElem_drop, List.getElem_replicate]
    exact this
theorem right_not (l : List Int) (hl : l.length = 16) (k : Nat) (h4 : 4 ≤ k) (h16 : k < 16) (h : l.getD k 0 ≠ 0) : rightB false l = false := by
  cases hr : rightB false l
  · rfl
  · exfalso
    unfold rightB at hr
    rw [Bool.false_or, decide_eq_true_eq] at hr
    apply h
    have : (l.drop 4)[k - 4]? = some 0 := by rw [hr, List.getElem?_replicate, if_pos (by omega)]
    rw [List.getElem?_drop, show 4 + (k - 4) = k by omega] at this
    rw [List.getD_eq_getElem?_getD, this]
    rfl
theorem ipc_cell (v : Bool) (l : List Int) (k : Nat) (hk : k < l.length) : (ipc v l).toArray[1 + k]? = some (.int .u8 (l.getD k 0)) := by
  rw [Nat.add_comm]
  simp [List.getD, hk]
set_option maxHeartbeats 1000000 in
set_option maxRecDepth 100000 in
theorem rri_is (w : World) (v : Bool) (l : List Int) (hl : l.length = 16) (ho : Oct l) :
    Calls Tryd.prog 18 #[.agg (ipc v l).toArray] w fun e w' => e = .returned (.bool (rightB v l)) ∧ Below w.heap.size w w' := by
  have HA := Lib.hid (Blk.new w 24 (ipc v l).toArray)
  have HL : Hid (Below w.heap.size w (w.alloc (.cells (ipc v l).toArray 24))) := Lib.hid ((Below.refl _ _).alloc (Nat.le_refl _) _)
  go_enter Tryd.func18, Tryd.ntmps18
  go_wp2
  go_loop [3] (fun i => ∃ k : Nat, 4 ≤ k ∧ k ≤ 16 ∧ i = .int .i64 k ∧ (v = true ∨ ∀ j, 4 ≤ j → j < k → l.getD j 0 = 0)) (fun i => 16 - (intOf i).toNat)
  case atStart => exact ⟨4, by omega, by omega, rfl, .inr (fun j h1 h2 => by omega)⟩
  case round =>
    obtain ⟨k, hk4, hk16, rfl, hall⟩ := hrel
    have HAll := Lib.hid hall
    clear hall
    have hc0 : (w.alloc (.cells (ipc v l).toArray 24)).cell? ⟨w.heap.size, 0, none⟩ = some (.bool v) := by rw [HA.out.cell]; rfl
    by_cases hlt : k < 16
    · have hck : (w.alloc (.cells (ipc v l).toArray 24)).cell? ⟨w.heap.size, 1 + k, none⟩ = some (.int .u8 (l.getD k 0)) := by rw [HA.out.cell, ipc_cell v l k (by omega)]
      have hb := ho.getD k
      cases v with
      | true =>
        generalize w.alloc (.cells (ipc true l).toArray 24) = W at *
        generalize l.getD k 0 = y at *
        go_wp2
        exact ⟨⟨k + 1, by omega, by omega, by go_num, .inl (by simp)⟩, by simp [intOf]; omega⟩
      | false =>
        by_cases hz : l.getD k 0 = 0
        · have HN : Hid (∀ j, 4 ≤ j → j < k + 1 → l.getD j 0 = 0) := Lib.hid (by
            intro j h1 h2
            rcases HAll.out with h | h
            · cases h
            · rcases Nat.lt_or_ge j k with h3 | h3
              · exact h j h1 h3
              · rw [show j = k by omega]; exact hz)
          rw [hz] at hck
          generalize w.alloc (.cells (ipc false l).toArray 24) = W at *
          clear hz hb HAll
          go_wp2
          exact ⟨⟨k + 1, by omega, by omega, by go_num, .inr HN.out⟩, by simp [intOf]; omega⟩
        · have HN := Lib.hid (right_not l hl k hk4 hlt hz)
          have hq : (l.getD k 0 != 0) = true := by simpa using hz
          generalize w.alloc (.cells (ipc false l).toArray 24) = W at *
          generalize l.getD k 0 = y at *
          clear HAll hz
          go_wp2
          go_ret
          exact ⟨by rw [HN.out]; rfl, HL.out⟩
    · obtain rfl : k = 16 := by omega
      have HN : Hid (rightB v l = true) := Lib.hid (by
        rcases HAll.out with h | h
        · rw [h]; rfl
        · cases v
          · exact right_all l hl h
          · rfl)
      clear HAll
      go_wp2
      go_ret
      exact ⟨by rw [HN.out]; rfl, HL.out⟩
theorem rbits_is (w : World) (v : Bool) (l : List Int) :
    Calls Tryd.prog 22 #[.agg (ipc v l).toArray] w fun e w' => e = .returned (.int .i64 (bitsOf v)) ∧ Below w.heap.size w w' := by
  have hc0 : (w.alloc (.cells (ipc v l).toArray 24)).cell? ⟨w.heap.size, 0, none⟩ = some (.bool v) := by rw [(Blk.new w 24 (ipc v l).toArray).cell]; rfl
  have HL : Hid (Below w.heap.size w (w.alloc (.cells (ipc v l).toArray 24))) := Lib.hid ((Below.refl _ _).alloc (Nat.le_refl _) _)
  go_enter Tryd.func22, Tryd.ntmps22
  cases v
  · go_wp2
    go_ret
    exact ⟨rfl, HL.out⟩
  · go_wp2
    go_ret
    exact ⟨rfl, HL.out⟩
end Go.Proofs.YtkaimdcepnhkdaaDoor
namespace Go.Proofs.YtkaimdcepnhkdaaDoor
open Go.RowKit
set_option linter.unusedSimpArgs false
set_option linter.unusedVariables false

/-- An address's number. -/
def numIp (v : Bool) (l : List Int) : Value := if v || !rightB v l then .tuple #[.int .u32 0, .bool false] else .tuple #[.int .u32 (numOf (l.take 4)), .bool true]
set_option maxHeartbeats 1000000 in
set_option maxRecDepth 100000 in
theorem rnumb_is (w : World) (v : Bool) (l : List Int) (hl : l.length = 16) (ho : Oct l) :
    Calls Tryd.prog 16 #[.agg (ipc v l).toArray] w fun e w' => e = .returned (numIp v l) ∧ Below w.heap.size w w' := by
  have HA := Lib.hid (Blk.new w 24 (ipc v l).toArray)
  have HL : Hid (Below w.heap.size w (w.alloc (.cells (ipc v l).toArray 24))) := Lib.hid ((Below.refl _ _).alloc (Nat.le_refl _) _)
  have hc0 : (w.alloc (.cells (ipc v l).toArray 24)).cell? ⟨w.heap.size, 0, none⟩ = some (.bool v) := by rw [HA.out.cell]; rfl
  cases v with
  | true =>
    go_enter Tryd.func16, Tryd.ntmps16
    go_wp2
    go_ret2
    exact ⟨rfl, HL.out⟩
  | false =>
    go_enter Tryd.func16, Tryd.ntmps16
    go_wp2_with (refine ip_fetch rfl _ rfl w.heap.size 0 false l hl rfl HA.out.range ?_)
    refine (rri_is _ false l hl ho).mono ?_
    rintro e w1 ⟨rfl, hB⟩
    have HA1 := Lib.hid (HA.out.below hB HA.out.lt)
    have HL1 := Lib.hid (HL.out.trans (hB.mono HL.out.size))
    clear hB HA HL hc0
    cases hr : rightB false l
    · have HN : Hid (numIp false l = .tuple #[.int .u32 0, .bool false]) := Lib.hid (by unfold numIp; rw [hr]; rfl)
      clear hr
      go_wp2
      go_ret2
      exact ⟨by rw [HN.out]; rfl, HL1.out⟩
    · have HN : Hid (numIp false l = .tuple #[.int .u32 (numOf (l.take 4)), .bool true]) := Lib.hid (by unfold numIp; rw [hr]; rfl)
      clear hr
      go_wp2
      go_loop [4, 5] (fun n i => ∃ k : Nat, k ≤ 4 ∧ i = .int .i64 k ∧ n = .int .u32 (numOf (l.take k))) (fun _ i => 4 - (intOf i).toNat)
      case atStart => exact ⟨0, by omega, rfl, rfl⟩
      case round =>
        obtain ⟨k, hk, rfl, rfl⟩ := hrel
        by_cases hlt : k < 4
        · have hck : w1.cell? ⟨w.heap.size, 1 + k, none⟩ = some (.int .u8 (l.getD k 0)) := by rw [HA1.out.cell, ipc_cell false l k (by omega)]
          have hx := ho.getD k
          have HS : Hid (numOf (l.take k) * 256 + l.getD k 0 = numOf (l.take (k + 1))) := Lib.hid (by
            rw [List.take_succ_eq_append_getElem (by omega), numOf_snoc]; simp [List.getD, show k < l.length by omega])
          have hbd := numOf_bd (l.take k) (fun x hx => ho x (List.mem_of_mem_take hx))
          have hp : (256 : Int) ^ (l.take k).length ≤ 16777216 := by
            rw [List.length_take, Nat.min_eq_left (by omega)]
            have : ∀ m, m < 4 → (256 : Int) ^ m ≤ 16777216 := by decide
            exact this k hlt
          have hb2 : 0 ≤ numOf (l.take k) ∧ numOf (l.take k) < 16777216 := ⟨hbd.1, by omega⟩
          clear hbd hp
          generalize numOf (l.take k) = N at *
          generalize l.getD k 0 = y at *
          go_wp2
          exact ⟨⟨k + 1, by omega, by go_num, by rw [← HS.out]⟩, by simp [intOf]; omega⟩
        · obtain rfl : k = 4 := by omega
          generalize numOf (l.take 4) = N at *
          go_wp2
          go_ret2
          exact ⟨by rw [HN.out]; rfl, HL1.out⟩
end Go.Proofs.YtkaimdcepnhkdaaDoor
namespace Go.Proofs.YtkaimdcepnhkdaaDoor
open Go.RowKit
set_option linter.unusedSimpArgs false
set_option linter.unusedVariables false

set_option maxHeartbeats 1000000 in
set_option maxRecDepth 100000 in
theorem nb_is (w : World) (v : Bool) (l : List Int) (hl : l.length = 16) (ho : Oct l) :
    Calls Tryd.prog 15 #[.agg (ipc v l).toArray] w fun e w' => e = .returned (numIp v l) ∧ Below w.heap.size w w' := by
  have HA := Lib.hid (Blk.new w 24 (ipc v l).toArray)
  have HL : Hid (Below w.heap.size w (w.alloc (.cells (ipc v l).toArray 24))) := Lib.hid ((Below.refl _ _).alloc (Nat.le_refl _) _)
  have hc0 : (w.alloc (.cells (ipc v l).toArray 24)).cell? ⟨w.heap.size, 0, none⟩ = some (.bool v) := by rw [HA.out.cell]; rfl
  cases v with
  | true =>
    go_enter Tryd.func15, Tryd.ntmps15
    go_wp2
    go_ret2
    exact ⟨rfl, HL.out⟩
  | false =>
    go_enter Tryd.func15, Tryd.ntmps15
    go_wp2_with (refine ip_fetch rfl _ rfl w.heap.size 0 false l hl rfl HA.out.range ?_)
    refine (right_is _ false l hl ho).mono ?_
    rintro e w1 ⟨rfl, hB⟩
    have HA1 := Lib.hid (HA.out.below hB HA.out.lt)
    have HL1 := Lib.hid (HL.out.trans (hB.mono HL.out.size))
    clear hB HA HL hc0
    cases hr : rightB false l
    · have HN : Hid (numIp false l = .tuple #[.int .u32 0, .bool false]) := Lib.hid (by unfold numIp; rw [hr]; rfl)
      clear hr
      go_wp2
      go_ret2
      exact ⟨by rw [HN.out]; rfl, HL1.out⟩
    · have HN : Hid (numIp false l = .tuple #[.int .u32 (numOf (l.take 4)), .bool true]) := Lib.hid (by unfold numIp; rw [hr]; rfl)
      clear hr
      go_wp2_with (refine ip_fetch rfl _ rfl w.heap.size 0 false l hl rfl HA1.out.range ?_)
      refine (first4_is _ false l hl ho).mono ?_
      rintro e w2 ⟨rfl, hB⟩
      have HL2 := Lib.hid (HL1.out.trans (hB.mono HL1.out.size))
      clear hB HL1 HA1
      generalize numOf (l.take 4) = N at *
      go_wp2
      go_ret2
      exact ⟨by rw [HN.out]; rfl, HL2.out⟩
theorem fill_four (n : Int) (i : Nat) (hi : i < 4) : ((List.replicate (4 - i) 0 ++ lowB i n) ++ List.replicate 12 0 : List Int) = List.replicate (3 - i) 0 ++ 0 :: (lowB i n ++ List.replicate 12 0) := by
  rw [show 4 - i = 3 - i + 1 by omega, List.replicate_succ']; simp
theorem fill_four2 (n : Int) (i : Nat) (hi : i < 4) : List.replicate (3 - i) 0 ++ (n / 256 ^ i % 256) :: (lowB i n ++ List.replicate 12 0) = ((List.replicate (4 - (i + 1)) 0 ++ lowB (i + 1) n) ++ List.replicate 12 0 : List Int) := by
  rw [show 4 - (i + 1) = 3 - i by omega]; simp [lowB]
theorem low4_four (n : Int) (h0 : 0 ≤ n) (h1 : n < 4294967296) : lowB 4 n ++ List.replicate 12 0 = four n := by
  unfold four
  simp only [lowB]
  have e : n / 256 ^ 3 % 256 = n / 16777216 := by
    rw [show (256 : Int) ^ 3 = 16777216 by decide]
    omega
  rw [e]
  simp
set_option maxHeartbeats 1000000 in
set_option maxRecDepth 100000 in
theorem rfo_is (w : World) (n : Int) (h0 : 0 ≤ n) (h1 : n < 4294967296) :
    Calls Tryd.prog 20 #[.int .u32 n] w fun e w' => e = .returned (.agg (ipc false (four n)).toArray) ∧ Below w.heap.size w w' := by
  have HA : Hid (Blk ((w.alloc (.cells zip16 24)).alloc (.cells zip16 24)) (w.heap.size + 1) 24 (ipc false ((List.replicate (4 - 0) 0 ++ lowB 0 n) ++ List.replicate 12 0)).toArray) := Lib.hid (by
    have h := Blk.new (w.alloc (.cells zip16 24)) 24 zip16
    rwa [show (w.alloc (.cells zip16 24)).heap.size = w.heap.size + 1 by simp] at h)
  have HR : Hid (Blk ((w.alloc (.cells zip16 24)).alloc (.cells zip16 24)) w.heap.size 24 zip16) := Lib.hid ((Blk.new w 24 zip16).alloc _)
  have HB : Hid (Below w.heap.size w ((w.alloc (.cells zip16 24)).alloc (.cells zip16 24))) := Lib.hid (((Below.refl w.heap.size w).alloc (Nat.le_refl _) _).alloc (by simp) _)
  have HF := Lib.hid (low4_four n h0 h1)
  go_enter Tryd.func20, Tryd.ntmps20
  go_wp2
  go_loopw [0, 4] (fun nv i wr => ∃ j : Nat, j ≤ 4 ∧ i = .int .i64 ((3 : Int) - j) ∧ nv = .int .u32 (n / 256 ^ j) ∧ Blk wr (w.heap.size + 1) 24 (ipc false ((List.replicate (4 - j) 0 ++ lowB j n) ++ List.replicate 12 0)).toArray ∧ Blk wr w.heap.size 24 zip16 ∧ Below w.heap.size w wr) (fun _ i _ => (intOf i + 1).toNat)
  case atStart => exact ⟨0, by omega, rfl, by simp, HA.out, HR.out, HB.out⟩
  case round =>
    obtain ⟨j, hj, rfl, rfl, ha, hz, hB⟩ := hrel
    have HAa := Lib.hid ha
    have HZ := Lib.hid hz
    have HBb := Lib.hid hB
    clear ha hz hB HA HR HB
    have hq0 : 0 ≤ n / 256 ^ j := Int.ediv_nonneg h0 (Int.le_of_lt (Int.pow_pos (by decide)))
    have hq1 : n / 256 ^ j ≤ n := Int.ediv_le_self _ h0
    by_cases hlt : j < 4
    · have hA := HAa.out
      rw [fill_four n j hlt] at hA
      have hlen : (List.replicate (3 - j) (0 : Int)).length = 3 - j := by simp
      have hc := hA.cell (1 + (3 - j))
      rw [ipc_get false _ _ _ (3 - j) hlen] at hc
      have hf := hA.frozen (1 + (3 - j))
      have hset := hA.set_ (1 + (3 - j)) (.int .u8 (n / 256 ^ j % 256))
      rw [ipc_set false _ _ _ _ (3 - j) hlen, fill_four2 n j hlt] at hset
      have HS := Lib.hid hset
      have HZ2 := Lib.hid (HZ.out.far (p := ⟨w.heap.size + 1, 1 + (3 - j), none⟩) (by simp) (.int .u8 (n / 256 ^ j % 256)))
      have HB2 := Lib.hid (HBb.out.setCell (p := ⟨w.heap.size + 1, 1 + (3 - j), none⟩) (show w.heap.size ≤ w.heap.size + 1 by omega) (.int .u8 (n / 256 ^ j % 256)))
      have HQ : Hid (n / 256 ^ j / 256 = n / 256 ^ (j + 1)) := Lib.hid (by rw [Int.pow_succ, Int.ediv_ediv_of_nonneg (Int.le_of_lt (Int.pow_pos (by decide)))])
      have m3 : (3 : Int) - (j : Int) = ((3 - j : Nat) : Int) := by omega
      have h3 : 3 - j < 4 := by omega
      have HJ : Hid ((((3 - j : Nat) : Int) - 1) = (3 : Int) - ((j + 1 : Nat) : Int)) := Lib.hid (by omega)
      clear hA hset hlen HAa HZ HBb
      generalize n / 256 ^ j = nj at *
      rw [m3]
      generalize 3 - j = c at *
      go_wp2
      exact ⟨⟨j + 1, by omega, by rw [← HJ.out], by rw [← HQ.out], HS.out, HZ2.out, HB2.out⟩, by first | (simp [intOf]; done) | (simp [intOf]; omega)⟩
    · obtain rfl : j = 4 := by omega
      have HA2 : Hid (Blk wr (w.heap.size + 1) 24 (ipc false (four n)).toArray) := Lib.hid (by have h := HAa.out; rw [← HF.out]; exact h)
      have h16 := four_len n
      clear HAa hq0 hq1 HF
      generalize n / 256 ^ 4 = nj at *
      generalize hE : four n = l at *
      have HE := Lib.hid hE
      clear hE
      go_wp2_with (first
        | (refine ip_fetch rfl _ rfl (w.heap.size + 1) 0 false l h16 rfl HA2.out.range ?_)
        | (refine ip_store rfl _ _ rfl w.heap.size false l h16 rfl rfl 24 zip16 HZ.out rfl ?_))
      refine bodyPost_ret (v := .agg (ipc false l).toArray) ?_ rfl ⟨by rw [HE.out], HBb.out.trans (below_setRow _ _ _ (Nat.le_refl _))⟩
      exact results_cell_row rfl _ _ w.heap.size 24 _ (0, 0) _ rfl (Blk.setRow HZ.out _) Tryd.underlying24 rfl (by simpa using ip_size false l h16)
end Go.Proofs.YtkaimdcepnhkdaaDoor
namespace Go.Proofs.YtkaimdcepnhkdaaDoor
open Go.RowKit
set_option linter.unusedSimpArgs false
set_option linter.unusedVariables false

theorem cmp_drop (a b : List Int) (k : Nat) (ha : k < a.length) (hb : k < b.length) : cmpI (a.drop k) (b.drop k) = if a.getD k 0 < b.getD k 0 then -1 else if b.getD k 0 < a.getD k 0 then 1 else cmpI (a.drop (k + 1)) (b.drop (k + 1)) := by
  rw [List.drop_eq_getElem_cons ha, List.drop_eq_getElem_cons hb]
  simp [cmpI, List.getD, ha, hb]
theorem cell_drewN {w : World} {n : Nat} {a : Addr} {v : Value} (h : w.cell? a = some v) : (w.drewN n).cell? a = some v := h
set_option maxHeartbeats 2000000 in
set_option maxRecDepth 100000 in
theorem rcmp_is (w : World) (va : Bool) (la : List Int) (vb : Bool) (lb : List Int) (ha : la.length = 16) (oa : Oct la) (hb : lb.length = 16) (ob : Oct lb) :
    Calls Tryd.prog 24 #[.agg (ipc va la).toArray, .agg (ipc vb lb).toArray] w fun e w' => e = .returned (.int .i64 (cmpIp va la vb lb)) ∧ Below w.heap.size w w' := by
  have hX := Blk.new (w.alloc (.cells (ipc va la).toArray 24)) 24 (ipc vb lb).toArray
  rw [show (w.alloc (.cells (ipc va la).toArray 24)).heap.size = w.heap.size + 1 by simp] at hX
  have HA := Lib.hid ((Blk.new w 24 (ipc va la).toArray).alloc (.cells (ipc vb lb).toArray 24))
  have HX := Lib.hid hX
  have HL : Hid (Below w.heap.size w ((w.alloc (.cells (ipc va la).toArray 24)).alloc (.cells (ipc vb lb).toArray 24))) := Lib.hid (((Below.refl w.heap.size w).alloc (Nat.le_refl _) _).alloc (by simp) _)
  have ca : ((w.alloc (.cells (ipc va la).toArray 24)).alloc (.cells (ipc vb lb).toArray 24)).cell? ⟨w.heap.size, 0, none⟩ = some (.bool va) := by rw [HA.out.cell]; rfl
  have cb : ((w.alloc (.cells (ipc va la).toArray 24)).alloc (.cells (ipc vb lb).toArray 24)).cell? ⟨w.heap.size + 1, 0, none⟩ = some (.bool vb) := by rw [hX.cell]; rfl
  clear hX
  by_cases hv : va = vb
  · have HN : Hid (cmpIp va la vb lb = cmpI la lb) := Lib.hid (by unfold cmpIp; rw [if_pos hv])
    subst hv
    generalize hO : cmpIp va la va lb = out at *
    clear hO
    go_enter Tryd.func24, Tryd.ntmps24
    go_wp2
    clear ca cb
    go_loopw [5, 13] (fun _ i wr => ∃ k : Nat, k ≤ 16 ∧ i = .int .i64 k ∧ cmpI la lb = cmpI (la.drop k) (lb.drop k) ∧ Blk wr w.heap.size 24 (ipc va la).toArray ∧ Blk wr (w.heap.size + 1) 24 (ipc va lb).toArray ∧ Below w.heap.size w wr) (fun _ i _ => 16 - (intOf i).toNat)
    case atStart => exact ⟨0, by omega, rfl, by simp, HA.out, HX.out, HL.out⟩
    case round =>
      obtain ⟨k, hk, rfl, hc, h1, h2, h3⟩ := hrel
      have HC := Lib.hid hc
      have HA1 := Lib.hid h1
      have HX1 := Lib.hid h2
      have HL1 := Lib.hid h3
      clear hc h1 h2 h3 HA HX HL
      by_cases hlt : k < 16
      · have c1 : wr.cell? ⟨w.heap.size, 1 + k, none⟩ = some (.int .u8 (la.getD k 0)) := by rw [HA1.out.cell, ipc_cell va la k (by omega)]
        have c2 : wr.cell? ⟨w.heap.size + 1, 1 + k, none⟩ = some (.int .u8 (lb.getD k 0)) := by rw [HX1.out.cell, ipc_cell va lb k (by omega)]
        have HD := Lib.hid (cmp_drop la lb k (by omega) (by omega))
        have ba := oa.getD k
        have bb := ob.getD k
        generalize la.getD k 0 = x at *
        generalize lb.getD k 0 = y at *
        rcases (show x < y ∨ (¬ x < y ∧ y < x) ∨ (¬ x < y ∧ ¬ y < x) by omega) with g | ⟨g, g2⟩ | ⟨g, g2⟩
        · have HV : Hid (out = -1) := Lib.hid (by rw [HN.out, HC.out, HD.out, if_pos g])
          clear HD HC
          go_wp2
          go_region
          go_wp2
          go_ret
          exact ⟨by rw [HV.out]; rfl, below_drewN HL1.out _⟩
        · have HV : Hid (out = 1) := Lib.hid (by rw [HN.out, HC.out, HD.out, if_neg g, if_pos g2])
          have g3 : x > y := g2
          clear HD HC
          go_wp2
          go_region
          go_wp2
          go_region
          go_wp2
          go_ret
          exact ⟨by rw [HV.out]; rfl, below_drewN (below_drewN HL1.out _) _⟩
        · have HV : Hid (cmpI la lb = cmpI (la.drop (k + 1)) (lb.drop (k + 1))) := Lib.hid (by rw [HC.out, HD.out, if_neg g, if_neg g2])
          have g3 : ¬ x > y := g2
          clear HD HC
          go_wp2
          go_region
          go_wp2
          go_region
          go_wp2
          exact ⟨⟨k + 1, by omega, by go_num, HV.out, HA1.out, HX1.out, below_drewN (below_drewN HL1.out _) _⟩, by simp [intOf]; omega⟩
      · obtain rfl : k = 16 := by omega
        have HV : Hid (out = 0) := Lib.hid (by
          rw [HN.out, HC.out, List.drop_eq_nil_of_le (by omega), List.drop_eq_nil_of_le (by omega)]
          rfl)
        clear HC
        go_wp2
        go_ret
        exact ⟨by rw [HV.out]; rfl, HL1.out⟩
  · cases va <;> cases vb
    · exact absurd rfl hv
    · go_enter Tryd.func24, Tryd.ntmps24
      go_wp2
      go_ret
      exact ⟨rfl, HL.out⟩
    · go_enter Tryd.func24, Tryd.ntmps24
      go_wp2
      go_ret
      exact ⟨rfl, HL.out⟩
    · exact absurd rfl hv
end Go.Proofs.YtkaimdcepnhkdaaDoor
namespace Go.Proofs.YtkaimdcepnhkdaaDoor
open Go.RowKit
set_option linter.unusedSimpArgs false
set_option linter.unusedVariables false

theorem index_at (c : UInt8) : ∀ (a b : List UInt8), c ∉ a → Lib.index (a ++ c :: b) [c] = a.length
  | [], b, _ => by simp [Lib.index, List.isPrefixOf]
  | x :: a, b, h => by
    have hx : c ≠ x := fun e => h (by rw [e]; exact List.mem_cons_self)
    have ih := index_at c a b (fun hm => h (List.mem_cons_of_mem _ hm))
    have e : (List.isPrefixOf [c] (x :: (a ++ c :: b))) = false := by simp [List.isPrefixOf, hx]
    show Lib.index (x :: (a ++ c :: b)) [c] = _
    unfold Lib.index
    rw [e, ih]
    have hne : ((a.length : Int) == -1) = false := by rw [beq_eq_false_iff_ne]; omega
    rw [hne]
    simp
theorem index_no (c : UInt8) : ∀ (a : List UInt8), c ∉ a → Lib.index a [c] = -1
  | [], _ => by simp [Lib.index]
  | x :: a, h => by
    have hx : c ≠ x := fun e => h (by rw [e]; exact List.mem_cons_self)
    have ih := index_no c a (fun hm => h (List.mem_cons_of_mem _ hm))
    have e : (List.isPrefixOf [c] (x :: a)) = false := by simp [List.isPrefixOf, hx]
    unfold Lib.index
    rw [e, ih]
    simp
theorem parts_or (c : UInt8) : ∀ l : List UInt8, c ∉ l ∨ ∃ a b, l = a ++ c :: b ∧ c ∉ a
  | [] => .inl (by simp)
  | x :: l => by
    by_cases hx : c = x
    · exact .inr ⟨[], l, by rw [hx]; rfl, by simp⟩
    · rcases parts_or c l with h | ⟨a, b, rfl, h⟩
      · exact .inl (by simp [hx, h])
      · exact .inr ⟨x :: a, b, rfl, by simp [hx, h]⟩
theorem indexByte_mem (c : UInt8) : ∀ l : List UInt8, 0 ≤ Lib.indexByte l c ↔ c ∈ l
  | [] => by simp [Lib.indexByte]
  | x :: l => by
    have ih := indexByte_mem c l
    have hg := Lib.indexByte_ge l c
    unfold Lib.indexByte
    by_cases hx : x = c
    · simp [hx]
    · have hx2 : (x == c) = false := by simpa using hx
      have hx3 : ¬ c = x := fun e => hx e.symm
      rw [hx2]
      by_cases hm : Lib.indexByte l c = -1
      · have : c ∉ l := fun h => by have := ih.2 h; omega
        simp [hm, hx3, this]
      · have h2 : (Lib.indexByte l c == -1) = false := by simpa using hm
        have : c ∈ l := ih.1 (by omega)
        simp [h2, this]
        omega
theorem dotB_iff (s : ByteArray) : dotB s = true ↔ (46 : UInt8) ∈ s.data.toList := by
  unfold dotB
  rw [decide_eq_true_iff]
  exact indexByte_mem 46 _

/-- What stands between the dots. -/
def fields : List UInt8 → List (List UInt8)
  | [] => [[]]
  | c :: l => if c = 46 then [] :: fields l else match fields l with
    | f :: fs => (c :: f) :: fs
    | [] => [[c]]
theorem fields_cut : ∀ (a b : List UInt8), (46 : UInt8) ∉ a → fields (a ++ 46 :: b) = a :: fields b
  | [], b, _ => by simp [fields]
  | x :: a, b, h => by
    have hx : ¬ x = 46 := fun e => h (by rw [e]; exact List.mem_cons_self)
    have ih := fields_cut a b (fun hm => h (List.mem_cons_of_mem _ hm))
    show fields (x :: (a ++ 46 :: b)) = _
    conv => lhs; unfold fields
    rw [if_neg hx, ih]
theorem fields_end : ∀ (a : List UInt8), (46 : UInt8) ∉ a → fields a = [a]
  | [], _ => rfl
  | x :: a, h => by
    have hx : ¬ x = 46 := fun e => h (by rw [e]; exact List.mem_cons_self)
    have ih := fields_end a (fun hm => h (List.mem_cons_of_mem _ hm))
    unfold fields
    rw [if_neg hx, ih]
theorem fields_pos (l : List UInt8) : 1 ≤ (fields l).length := by
  rcases parts_or 46 l with h | ⟨a, b, rfl, h⟩
  · rw [fields_end l h]; simp
  · rw [fields_cut a b h]; simp
theorem fields_le : ∀ (l : List UInt8), (fields l).length ≤ l.length + 1
  | [] => by simp [fields]
  | x :: l => by
    have ih := fields_le l
    have hp := fields_pos l
    unfold fields
    split
    · simp; omega
    · cases hf : fields l with
      | nil => rw [hf] at hp; simp at hp
      | cons f fs => rw [hf] at ih; simp at ih ⊢; omega
theorem split_fields : ∀ (k : Nat) (l : List UInt8), ((fields l).length ≤ k + 1 → Lib.splitK [46] 0 k l = fields l) ∧ (k + 1 < (fields l).length → (Lib.splitK [46] 0 k l).length = k + 1)
  | 0, l => by
    refine ⟨fun h => ?_, fun _ => rfl⟩
    rcases parts_or 46 l with hn | ⟨a, b, rfl, hn⟩
    · rw [fields_end l hn]; rfl
    · rw [fields_cut a b hn, List.length_cons] at h
      have := fields_pos b
      omega
  | k + 1, l => by
    rcases parts_or 46 l with hn | ⟨a, b, rfl, hn⟩
    · rw [fields_end l hn]
      unfold Lib.splitK
      rw [index_no 46 l hn]
      simp
    · have ih := split_fields k b
      have hs : Lib.splitK [46] 0 (k + 1) (a ++ 46 :: b) = a :: Lib.splitK [46] 0 k b := by
        conv => lhs; unfold Lib.splitK
        rw [index_at 46 a b hn]
        have hne : ((a.length : Int) == -1) = false := by rw [beq_eq_false_iff_ne]; omega
        rw [hne]
        have h1 : (a ++ 46 :: b).take ((a.length : Int).toNat + 0) = a := by simp
        have h2 : (a ++ 46 :: b).drop ((a.length : Int).toNat + [(46 : UInt8)].length) = b := by
          rw [show (a.length : Int).toNat + [(46 : UInt8)].length = a.length + 1 by simp]
          simp [List.drop_append]
        rw [h1, h2]
        simp
      rw [hs, fields_cut a b hn]
      refine ⟨fun h => ?_, fun h => ?_⟩
      · rw [ih.1 (by simpa using h)]
      · have := ih.2 (by simpa using h)
        simp [this]

/-- Four numbers with dots between. -/
def un (l : List UInt8) : Option (List Int) := if (fields l).length = 4 then (fields l).mapM (fun x => digits x 255) else none
theorem octs_map (xs : List ByteArray) : octs xs = if (xs.map (·.data.toList)).length = 4 then (xs.map (·.data.toList)).mapM (fun x => digits x 255) else none := by
  unfold octs
  rw [List.length_map, List.mapM_map]
  rfl
theorem octs_un (s : ByteArray) : octs (splitS s 46 5) = un s.data.toList := by
  rw [octs_map]
  unfold splitS
  rw [Lib.splitB_data]
  show (if (Lib.splitK [46] 0 (min 5 (s.size + 1) - 1) s.data.toList).length = 4 then _ else none) = _
  have h := split_fields (min 5 (s.size + 1) - 1) s.data.toList
  have hl := fields_le s.data.toList
  have hsz : s.data.toList.length = s.size := by rw [Array.length_toList]; rfl
  rw [hsz] at hl
  by_cases hc : (fields s.data.toList).length ≤ min 5 (s.size + 1) - 1 + 1
  · rw [h.1 hc]; rfl
  · have h2 := h.2 (by omega)
    rw [h2]
    unfold un
    rw [if_neg (by omega), if_neg (by omega)]
/-- The numbers that were read, and what is left. -/
def U (ds : List Int) (r : List UInt8) : Option (List Int) := if ds.length + (fields r).length = 4 then ((fields r).mapM (fun x => digits x 255)).map (ds ++ ·) else none
theorem U_nil (l : List UInt8) : U [] l = un l := by
  unfold U un
  simp only [List.length_nil, Nat.zero_add, List.nil_append]
  split
  · cases (fields l).mapM (fun x => digits x 255) <;> rfl
  · rfl
theorem U_fail (ds : List Int) (r f : List UInt8) (fs : List (List UInt8)) (h : fields r = f :: fs) (hf : digits f 255 = none) : U ds r = none := by
  unfold U
  rw [h]
  split
  · simp [List.mapM_cons, hf]
  · rfl
theorem U_full (ds : List Int) (r : List UInt8) (h : 4 ≤ ds.length) : U ds r = none := by
  unfold U
  have := fields_pos r
  rw [if_neg (by omega)]
theorem U_dot (ds : List Int) (r f r' : List UInt8) (d : Int) (h : fields r = f :: fields r') (hf : digits f 255 = some d) : U ds r = U (ds ++ [d]) r' := by
  unfold U
  rw [h]
  simp only [List.length_cons, List.length_append, List.length_nil]
  have e : (ds.length + ((fields r').length + 1) = 4) = (ds.length + (0 + 1) + (fields r').length = 4) := by
    apply propext; omega
  simp only [e]
  split
  · simp only [List.mapM_cons, hf]
    cases (fields r').mapM (fun x => digits x 255) <;> simp
  · rfl
theorem U_end (ds : List Int) (r f : List UInt8) (d : Int) (h : fields r = [f]) (hf : digits f 255 = some d) : U ds r = if (ds ++ [d]).length = 4 then some (ds ++ [d]) else none := by
  unfold U
  rw [h]
  simp only [List.length_cons, List.length_append, List.length_nil]
  have e : (ds.length + (0 + 1) = 4) = (ds.length + 1 = 4) := by rfl
  simp only [e]
  split
  · simp [hf]
  · rfl
theorem un_oct {l : List UInt8} {ds : List Int} (h : un l = some ds) : ds.length = 4 ∧ Oct ds := by
  have hs : octs (splitS ⟨l.toArray⟩ 46 5) = some ds := by rw [octs_un]; exact h
  exact octs_bd hs
theorem un_dot {l : List UInt8} {ds : List Int} (h : un l = some ds) : (46 : UInt8) ∈ l := by
  refine Classical.byContradiction fun hn => ?_
  unfold un at h
  rw [fields_end l hn] at h
  simp at h

theorem digits_all {l : List UInt8} {m a : Int} (h : digits l m = some a) : ∀ x ∈ l, isDig x = true := by
  unfold digits at h
  split at h
  · cases h
  · next hc =>
    simp only [Bool.or_eq_true, not_or] at hc
    have : l.all isDig = true := by simpa using hc.1.2
    exact fun x hx => List.all_eq_true.1 this x hx
theorem digits_no {l : List UInt8} (m : Int) {x : UInt8} (hx : x ∈ l) (hd : isDig x = false) : digits l m = none := by
  cases h : digits l m with
  | none => rfl
  | some a => have := digits_all h x hx; rw [hd] at this; cases this
theorem digits_le {l : List UInt8} {m M b : Int} (h : digits l M = some b) (hm : m ≤ M) : digits l m = if b ≤ m then some b else none := by
  unfold digits at h ⊢
  split at h
  · cases h
  · next hc =>
    obtain rfl := Option.some.inj h
    simp only [Bool.or_eq_true, not_or] at hc
    have h1 : bad0 l = false := by simpa using hc.1.1
    have h2 : l.all isDig = true := by simpa using hc.1.2
    rw [h1, h2]
    by_cases hb : decN l ≤ m
    · rw [if_pos hb]
      have : decide (m < decN l) = false := decide_eq_false (by omega)
      rw [this]; rfl
    · rw [if_neg hb]
      have : decide (m < decN l) = true := decide_eq_true (by omega)
      rw [this]; rfl
theorem digits_none_le {l : List UInt8} {m M : Int} (h : digits l M = none) (hm : m ≤ M) : digits l m = none := by
  cases h1 : digits l m with
  | none => rfl
  | some a =>
    unfold digits at h h1
    split at h1
    · cases h1
    · next hc =>
      simp only [Bool.or_eq_true, not_or, decide_eq_true_eq] at hc
      have h1 : bad0 l = false := by simpa using hc.1.1
      have h2 : l.all isDig = true := by simpa using hc.1.2
      rw [h1, h2, decide_eq_false (show ¬ M < decN l by have := hc.2; omega)] at h
      cases h
theorem suffix_iff (l : List UInt8) : Lib.hasSuffix l [76] = true ↔ ∃ t, l = t ++ [76] := by
  unfold Lib.hasSuffix
  rw [List.isSuffixOf_iff_suffix]
  constructor
  · rintro ⟨t, rfl⟩; exact ⟨t, rfl⟩
  · rintro ⟨t, rfl⟩; exact ⟨t, rfl⟩
theorem trimL_list (s : ByteArray) (t : List UInt8) (h : s.data.toList = t ++ [76]) : (trimL s).data.toList = t := by
  unfold trimL Lib.trimSuffix
  rw [(suffix_iff s.data.toList).2 ⟨t, h⟩, h]
  simp
theorem isDig_46 : isDig 46 = false := by decide
theorem isDig_76 : isDig 76 = false := by decide
/-- The ways of a text with a ':'. -/
theorem way_none (H : ByteArray) (t : List UInt8) (h : digits t 4294967295 = none) : rd2 (rdFirst H) t = none := by
  unfold rd2
  have := most_bd (rdFirst H).1
  rw [digits_none_le h this.2]
  unfold rd3
  cases (rdFirst H).2 <;> rfl
theorem way_short (H : ByteArray) (t : List UInt8) (a b : Int) (hb : digits t 4294967295 = some b) (ha : digits H.data.toList 65535 = some a) : rd2 (rdFirst H) t = some (rdB 0 (a * (most 0 + 1) + b)) := by
  have hd : dotB H = false := by
    cases h : dotB H
    · rfl
    · rw [digits_no _ ((dotB_iff H).1 h) isDig_46] at ha; cases ha
  have hs : Lib.hasSuffix H.data.toList [76] = false := by
    cases h : Lib.hasSuffix H.data.toList [76]
    · rfl
    · obtain ⟨t, ht⟩ := (suffix_iff _).1 h
      rw [digits_no (x := 76) _ (by rw [ht]; simp) isDig_76] at ha; cases ha
  have hf : rdFirst H = (0, some a) := by
    unfold rdFirst
    rw [hd, hs, ha]
    rfl
  rw [hf]
  unfold rd2
  show rd3 0 (some a) (digits t (most 0)) = _
  rw [show most 0 = 4294967295 from rfl, hb]
  rfl
theorem way_big (H : ByteArray) (t : List UInt8) (b : Int) (hb : digits t 4294967295 = some b) (ha : digits H.data.toList 65535 = none) (h : 65535 < b) : rd2 (rdFirst H) t = none := by
  unfold rd2
  by_cases hk : (rdFirst H).1 = 0
  · have : (rdFirst H).2 = none := by
      unfold rdFirst at hk ⊢
      split
      · next h => rw [if_pos h] at hk; cases hk
      · next h =>
        rw [if_neg h] at hk
        split
        · next h2 => rw [if_pos h2] at hk; cases hk
        · exact ha
    rw [this]; rfl
  · rw [show most (rdFirst H).1 = 65535 by unfold most; rw [if_neg hk], digits_le hb (by omega), if_neg (by omega)]
    unfold rd3
    cases (rdFirst H).2 <;> rfl
theorem way_ip (H : ByteArray) (t : List UInt8) (b : Int) (f : List Int) (hb : digits t 4294967295 = some b) (h : b ≤ 65535) (hf : un H.data.toList = some f) : rd2 (rdFirst H) t = some (rdB 1 (numOf f * (most 1 + 1) + b)) := by
  have hd : dotB H = true := (dotB_iff H).2 (un_dot hf)
  have e : rdFirst H = (1, some (numOf f)) := by
    unfold rdFirst
    rw [hd, octs_un, hf]
    rfl
  rw [e]
  unfold rd2
  show rd3 1 (some (numOf f)) (digits t (most 1)) = _
  rw [show most 1 = 65535 from rfl, digits_le hb (by omega), if_pos h]
  rfl
theorem way_long (H : ByteArray) (t l : List UInt8) (b : Int) (hb : digits t 4294967295 = some b) (h : b ≤ 65535) (hf : un H.data.toList = none) (hl : H.data.toList = l ++ [76]) : rd2 (rdFirst H) t = (digits l 4294967295).map fun a => rdB 2 (a * (most 2 + 1) + b) := by
  have htr := trimL_list H l hl
  have hsx := (suffix_iff _).2 ⟨l, hl⟩
  cases hd : dotB H
  · have e : rdFirst H = (2, digits l 4294967295) := by
      unfold rdFirst
      rw [hd, hsx, htr]
      rfl
    rw [e]
    unfold rd2
    show rd3 2 (digits l 4294967295) (digits t (most 2)) = _
    rw [show most 2 = 65535 from rfl, digits_le hb (by omega), if_pos h]
    cases digits l 4294967295 <;> rfl
  · have hm := (dotB_iff H).1 hd
    rw [hl] at hm
    have hml : (46 : UInt8) ∈ l := by
      rcases List.mem_append.1 hm with h | h
      · exact h
      · simp at h
    rw [digits_no _ hml isDig_46]
    have e : rdFirst H = (1, none) := by
      unfold rdFirst
      rw [hd, octs_un, hf]
      rfl
    rw [e]
    rfl
theorem way_else (H : ByteArray) (t : List UInt8) (ha : digits H.data.toList 65535 = none) (hf : un H.data.toList = none) (hl : ¬ ∃ l, H.data.toList = l ++ [76]) : rd2 (rdFirst H) t = none := by
  have hs : Lib.hasSuffix H.data.toList [76] = false := by
    cases h : Lib.hasSuffix H.data.toList [76]
    · rfl
    · exact absurd ((suffix_iff _).1 h) hl
  have e : (rdFirst H).2 = none := by
    unfold rdFirst
    rw [hs, octs_un, hf, ha]
    cases dotB H <;> rfl
  unfold rd2
  rw [e]
  rfl
theorem ext_list {a b : ByteArray} (h : a.data.toList = b.data.toList) : a = b := by
  apply ByteArray.ext
  exact Array.toList_inj.1 h
theorem rd_no (s : ByteArray) (h : (58 : UInt8) ∉ s.data.toList) : rdRd s = none := by
  unfold rdRd
  have e : (cutS s [58]).2.1.data.toList = [] := by
    unfold cutS Lib.cut
    rw [index_no 58 _ h]
    rfl
  rw [e]
  exact way_none _ _ (by rfl)
theorem rd_cut (s : ByteArray) (k : Nat) (hk : k < s.size) (hc : s[k] = 58) (hn : (58 : UInt8) ∉ s.data.toList.take k) : rdRd s = rd2 (rdFirst (s.extract 0 k)) (s.extract (k + 1) s.size).data.toList := by
  have hl : s.data.toList.length = s.size := by rw [Array.length_toList]; rfl
  have hs : s.data.toList = s.data.toList.take k ++ 58 :: s.data.toList.drop (k + 1) := by
    have h1 := List.take_append_drop k s.data.toList
    rw [List.drop_eq_getElem_cons (by omega)] at h1
    have h2 : s.data.toList[k]'(by omega) = 58 := by rw [← hc]; simp [ByteArray.getElem_eq_getElem_data]
    rw [h2] at h1
    exact h1.symm
  have hi : Lib.index s.data.toList [58] = k := by
    rw [hs, index_at 58 _ _ hn, List.length_take, Nat.min_eq_left (by omega)]
  unfold rdRd
  have e1 : (cutS s [58]).1 = s.extract 0 k := by
    apply ext_list
    rw [Lib.extract_from_zero]
    unfold cutS Lib.cut
    rw [hi, if_pos (by omega)]
    simp
  have e2 : (cutS s [58]).2.1.data.toList = (s.extract (k + 1) s.size).data.toList := by
    rw [Lib.extract_to_end]
    unfold cutS Lib.cut
    rw [hi, if_pos (by omega)]
    simp
  rw [e1, e2]
end Go.Proofs.YtkaimdcepnhkdaaDoor
