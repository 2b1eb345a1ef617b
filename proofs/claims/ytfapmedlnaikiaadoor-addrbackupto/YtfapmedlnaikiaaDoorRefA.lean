/-
  The document's answer, layer 2: Digits.
-/
import Derived.Test.YtfapmedlnaikiaaDoorAdE
namespace Go.Proofs.YtfapmedlnaikiaaDoor
open Go.RowKit
set_option linter.unusedSimpArgs false
set_option linter.unusedVariables false

theorem decN_big (l : List UInt8) (ha : l.all isDig = true) (c : UInt8) (hc : l.head? = some c) (h0 : c ≠ 48) : ∀ k, k < l.length → (10 : Int) ^ k ≤ decN (l.take (k + 1))
  | 0, hk => by
    cases l with
    | nil => cases hc
    | cons d r =>
      obtain rfl : d = c := Option.some.inj hc
      have hd := (isDig_iff d).1 (by simpa using (List.all_eq_true.1 ha d List.mem_cons_self))
      have hne : d.toNat ≠ 48 := fun e => h0 (UInt8.toNat_inj.1 e)
      show (1 : Int) ≤ decN [d]
      unfold decN
      simp only [List.foldl_cons, List.foldl_nil]
      omega
  | k + 1, hk => by
    have ih := decN_big l ha c hc h0 k (by omega)
    have hd := (isDig_iff l[k + 1]).1 (by simpa using List.all_eq_true.1 ha l[k + 1] (List.getElem_mem hk))
    rw [List.take_succ_eq_append_getElem hk, decN_snoc, Int.pow_succ]
    omega
theorem digits_long (l : List UInt8) (most : Int) (h1 : most < 18446744073709551616) (hl : 20 < l.length) : digits l most = none := by
  cases hb : bad0 l
  · cases ha : l.all isDig
    · simp [digits, ha]
    · cases l with
      | nil => simp at hl
      | cons c r =>
        have h0 : c ≠ 48 := by
          rintro rfl
          have hl2 : 1 < (48 :: r : List UInt8).length := by omega
          simp only [bad0, List.head?_cons, List.isEmpty_cons, Bool.false_or, decide_eq_true hl2, Bool.and_true, beq_self_eq_true] at hb
          cases hb
        have := decN_big (c :: r) ha c rfl h0 20 hl
        exact digits_big (c :: r) most 21 (by
          have e : (10 : Int) ^ 20 = 100000000000000000000 := by decide
          rw [e, show 20 + 1 = 21 from rfl] at this
          omega)
  · exact digits_bad l most hb
set_option maxHeartbeats 2000000 in
set_option maxRecDepth 100000 in
theorem rdg_go (w : World) (s : ByteArray) (most : Int) (h0 : 0 ≤ most) (h1 : most < 18446744073709551616) (h : 0 < s.size) (h20 : s.size ≤ 20) (hb : bad0 s.data.toList = false) :
    Calls Tryd.prog 50 #[.string s, .int .u64 most] w (Digs w (digits s.data.toList most)) := by
  have HB := Lib.hid hb
  have hc : (decide (1 < (s.size : Int)) = true ∧ ((s[0].toNat : Int) == 48) = false) ∨ (decide (1 < (s.size : Int)) = false) := by
    rw [bad0_eq s h] at hb
    cases e : decide (1 < (s.size : Int))
    · exact .inr rfl
    · rw [e, Bool.and_true] at hb; exact .inl ⟨rfl, hb⟩
  have HL := Lib.hid (str_len s)
  have g1 : decide ((s.size : Int) < 1) = false := decide_eq_false (by omega)
  have g2 : decide ((s.size : Int) > 20) = false := decide_eq_false (by omega)
  clear hb
  rcases hc with ⟨hc1, hc2⟩ | hc1
  all_goals
    go_enter Tryd.func50, Tryd.ntmps50
    go_wp2
    go_loop [6, 7, 8] (fun n i _ => ∃ k : Nat, k ≤ s.size ∧ i = .int .i64 k ∧ n = .int .u64 (decN (s.data.toList.take k)) ∧ (s.data.toList.take k).all isDig = true ∧ decN (s.data.toList.take k) < 18446744073709551616) (fun _ i _ => s.size - (intOf i).toNat)
    case atStart => exact ⟨0, Nat.zero_le _, rfl, rfl, rfl, by simp [decN]⟩
    case round =>
      obtain ⟨k, hk, rfl, rfl, hall, hle⟩ := hrel
      try clear hc2
      clear hc1 g1 g2
      have hnn := decN_nn (s.data.toList.take k) k hall
      rw [List.take_take, Nat.min_self] at hnn
      have HA := Lib.hid hall
      clear hall
      by_cases hlt : k < s.size
      · have HS := Lib.hid (take_snoc s k hlt)
        have HG := Lib.hid (str_get s k hlt)
        by_cases hd : 48 ≤ (s[k].toNat : Int) ∧ (s[k].toNat : Int) ≤ 57
        · obtain ⟨hd1, hd2⟩ := hd
          have HD := Lib.hid (decN_snoc (s.data.toList.take k) s[k])
          have HI := Lib.hid ((isDig_iff s[k]).2 ⟨hd1, hd2⟩)
          have HN : Hid (10 * decN (s.data.toList.take k) + ((s[k].toNat : Int) - 48) = decN (s.data.toList.take (k + 1))) := Lib.hid (by rw [HS.out, HD.out])
          have HA2 : Hid ((s.data.toList.take (k + 1)).all isDig = true) := Lib.hid (by rw [HS.out, List.all_append, HA.out]; simp [HI.out])
          have HBig := Lib.hid (fun hx => digits_big s.data.toList most (k + 1) hx)
          generalize hN1 : decN (s.data.toList.take (k + 1)) = n1 at *
          have HN1 := Lib.hid hN1
          clear hN1
          generalize decN (s.data.toList.take k) = n at *
          clear HD HI HS HG HA
          by_cases hm : 10 * n + ((s[k].toNat : Int) - 48) < 18446744073709551616
          · have hq2 : n ≤ (18446744073709551615 - ((s[k].toNat : Int) - 48)) / 10 := by omega
            go_wp2
            exact ⟨⟨k + 1, by omega, by go_num, by rw [HN1.out, HN.out], HA2.out, by rw [HN1.out, ← HN.out]; exact hm⟩, by simp [intOf]; omega⟩
          · have hm' : most < 10 * n + ((s[k].toNat : Int) - 48) := by omega
            have hq2 : ¬ n ≤ (18446744073709551615 - ((s[k].toNat : Int) - 48)) / 10 := by omega
            go_wp2
            go_ret2
            exact ⟨by rw [HBig.out (by rw [← HN.out]; exact hm')]; rfl, rfl⟩
        · have HI := Lib.hid (digits_nd s.data.toList most k (by rw [HL.out]; exact hlt) (by
            rw [HG.out]
            cases h : isDig s[k]
            · rfl
            · exact absurd ((isDig_iff s[k]).1 h) hd))
          clear HA HS HG
          have hd' : (s[k].toNat : Int) < 48 ∨ 57 < (s[k].toNat : Int) := by omega
          clear hd
          rcases hd' with hd | hd
          · go_wp2
            go_ret2
            exact ⟨by rw [HI.out]; rfl, rfl⟩
          · have hd2 : ¬ (s[k].toNat : Int) < 48 := by omega
            go_wp2
            go_ret2
            exact ⟨by rw [HI.out]; rfl, rfl⟩
      · obtain rfl : k = s.size := by omega
        have ht : s.data.toList.take s.size = s.data.toList := by rw [← HL.out, List.take_length]
        have ha2 := HA.out
        rw [ht] at ha2 hle hnn ⊢
        have HOk := Lib.hid (digits_ok s.data.toList most HB.out ha2)
        have HNo : Hid (most < decN s.data.toList → digits s.data.toList most = none) := Lib.hid (fun hx => digits_big s.data.toList most s.size (by rw [ht]; exact hx))
        clear HA ht ha2
        generalize decN s.data.toList = n at *
        by_cases hm : n ≤ most
        · have hm2 : ¬ n > most := by omega
          have HF := Lib.hid (HOk.out hm)
          clear HOk HNo
          go_wp2
          go_ret2
          exact ⟨by rw [HF.out]; rfl, rfl⟩
        · have hm2 : n > most := by omega
          have HF := Lib.hid (HNo.out (by omega))
          clear HOk HNo
          go_wp2
          go_ret2
          exact ⟨by rw [HF.out]; rfl, rfl⟩
set_option maxHeartbeats 1000000 in
theorem rdg_is (w : World) (s : ByteArray) (most : Int) (h0 : 0 ≤ most) (h1 : most < 18446744073709551616) :
    Calls Tryd.prog 50 #[.string s, .int .u64 most] w (Digs w (digits s.data.toList most)) := by
  rcases (show s.size = 0 ∨ 20 < s.size ∨ (0 < s.size ∧ s.size ≤ 20) by omega) with h | h | ⟨h, h20⟩
  · have H := Lib.hid (digits_bad s.data.toList most (bad0_empty s h))
    have g1 : decide ((s.size : Int) < 1) = true := decide_eq_true (by omega)
    clear h
    go_enter Tryd.func50, Tryd.ntmps50
    go_wp2
    go_ret2
    exact ⟨by rw [H.out]; rfl, rfl⟩
  · have H := Lib.hid (digits_long s.data.toList most h1 (by rw [str_len]; exact h))
    have g1 : decide ((s.size : Int) < 1) = false := decide_eq_false (by omega)
    have g2 : decide ((s.size : Int) > 20) = true := decide_eq_true (by omega)
    clear h
    go_enter Tryd.func50, Tryd.ntmps50
    go_wp2
    go_ret2
    exact ⟨by rw [H.out]; rfl, rfl⟩
  · cases hb : bad0 s.data.toList
    · exact rdg_go w s most h0 h1 h h20 hb
    · have H := Lib.hid (digits_bad s.data.toList most hb)
      rw [bad0_eq s h, Bool.and_eq_true] at hb
      obtain ⟨hb1, hb2⟩ := hb
      have g1 : decide ((s.size : Int) < 1) = false := decide_eq_false (by omega)
      have g2 : decide ((s.size : Int) > 20) = false := decide_eq_false (by omega)
      go_enter Tryd.func50, Tryd.ntmps50
      go_wp2
      go_ret2
      exact ⟨by rw [H.out]; rfl, rfl⟩
end Go.Proofs.YtfapmedlnaikiaaDoor
