/-
  AddrBack: mathematics: decimal texts there and back; a distinguisher that was read is written as it was read.
-/
import Derived.Test.YtfapmedlnaikiaaDoorRdsM
import Derived.Test.YtfapmedlnaikiaaDoorAdY
namespace Go.Proofs.YtfapmedlnaikiaaDoor
open Go.RowKit
set_option linter.unusedSimpArgs false
set_option linter.unusedVariables false

theorem dec_back : ∀ (n : Nat) (l : List UInt8), l.length = n + 1 → l.all isDig = true → (1 < l.length → l.head? ≠ some 48) → Lib.decDigits (decN l).toNat = l
  | 0, l, h, ha, _ => by
    match l, h with
    | [c], _ =>
      have hc := (isDig_iff c).1 (by simpa using ha)
      have e : (decN [c]).toNat = c.toNat - 48 := by
        unfold decN
        simp only [List.foldl_cons, List.foldl_nil]
        omega
      rw [e, Lib.decDigits, dif_pos (by omega), show 48 + (c.toNat - 48) = c.toNat by omega]
      simp
  | n + 1, l, h, ha, h0 => by
    rcases List.eq_nil_or_concat l with rfl | ⟨l', c, rfl⟩
    · simp at h
    · rw [List.concat_eq_append] at h ha h0 ⊢
      have hl : l'.length = n + 1 := by simpa using h
      rw [List.all_append, Bool.and_eq_true] at ha
      have hc := (isDig_iff c).1 (by simpa using ha.2)
      have hh : l'.head? = (l' ++ [c]).head? := by
        cases l' with
        | nil => simp at hl
        | cons x r => rfl
      have hne : l'.head? ≠ some 48 := by rw [hh]; exact h0 (by simp; omega)
      have ih := dec_back n l' hl ha.1 (fun _ => hne)
      obtain ⟨x, hx⟩ : ∃ x, l'.head? = some x := by
        cases l' with
        | nil => simp at hl
        | cons x r => exact ⟨x, rfl⟩
      have hbig := decN_big l' ha.1 x hx (fun e => hne (by rw [hx, e])) n (by omega)
      have htk : l'.take (n + 1) = l' := by rw [← hl, List.take_length]
      rw [htk] at hbig
      have hp : (1 : Int) ≤ 10 ^ n := by
        have : (0 : Int) < 10 ^ n := Int.pow_pos (by decide)
        omega
      have hN : 1 ≤ decN l' := by omega
      have e : (decN (l' ++ [c])).toNat = 10 * (decN l').toNat + (c.toNat - 48) := by rw [decN_snoc]; omega
      rw [e, Lib.decDigits, dif_neg (by omega)]
      rw [show (10 * (decN l').toNat + (c.toNat - 48)) / 10 = (decN l').toNat by omega, show (10 * (decN l').toNat + (c.toNat - 48)) % 10 = c.toNat - 48 by omega, ih]
      rw [show 48 + (c.toNat - 48) = c.toNat by omega]
      simp
theorem digits_dec {l : List UInt8} {m a : Int} (h : digits l m = some a) : decS a = ⟨l.toArray⟩ := by
  unfold digits at h
  split at h
  · cases h
  · next hc =>
    obtain rfl := Option.some.inj h
    simp only [Bool.or_eq_true, not_or] at hc
    have h1 : bad0 l = false := by simpa using hc.1.1
    have h2 : l.all isDig = true := by simpa using hc.1.2
    unfold decS
    have hl : l.length ≠ 0 := by
      intro e
      have : l = [] := List.length_eq_zero_iff.1 e
      rw [this] at h1
      simp [bad0] at h1
    rw [dec_back (l.length - 1) l (by omega) h2 ?_]
    intro h3 h4
    unfold bad0 at h1
    rw [h4, decide_eq_true h3] at h1
    simp at h1
theorem fields_join : ∀ (l f : List UInt8) (fs : List (List UInt8)), fields l = f :: fs → l = f ++ fs.flatMap (fun g => 46 :: g)
  | [], f, fs, h => by
    simp [fields] at h
    obtain ⟨rfl, rfl⟩ := h
    rfl
  | c :: l, f, fs, h => by
    cases hf : fields l with
    | nil => have := fields_pos l; rw [hf] at this; simp at this
    | cons f' fs' =>
      have ih := fields_join l f' fs' hf
      unfold fields at h
      rw [hf] at h
      split at h
      · next hc =>
        obtain ⟨rfl, rfl⟩ := List.cons.inj h
        rw [hc, ih]
        simp
      · obtain ⟨rfl, rfl⟩ := List.cons.inj h
        conv => lhs; rw [ih]
        simp
theorem mapM4 {xs : List (List UInt8)} {ds : List Int} (hl : xs.length = 4) (h : xs.mapM (fun x => digits x 255) = some ds) : ∃ f0 f1 f2 f3 d0 d1 d2 d3, xs = [f0, f1, f2, f3] ∧ ds = [d0, d1, d2, d3] ∧ digits f0 255 = some d0 ∧ digits f1 255 = some d1 ∧ digits f2 255 = some d2 ∧ digits f3 255 = some d3 := by
  match xs, hl with
  | [f0, f1, f2, f3], _ =>
    simp only [List.mapM_cons, List.mapM_nil, Option.bind_eq_bind, Option.bind_eq_some_iff, Option.pure_def, Option.some.injEq] at h
    obtain ⟨d0, h0, y0, ⟨d1, h1, y1, ⟨d2, h2, y2, ⟨d3, h3, y3, hy3, rfl⟩, rfl⟩, rfl⟩, rfl⟩ := h
    subst hy3
    exact ⟨f0, f1, f2, f3, d0, d1, d2, d3, rfl, rfl, h0, h1, h2, h3⟩
theorem un_text {l : List UInt8} {ds : List Int} (h : un l = some ds) : fourS ds = ⟨l.toArray⟩ := by
  unfold un at h
  split at h
  · next hl =>
    obtain ⟨f0, f1, f2, f3, d0, d1, d2, d3, hx, rfl, h0, h1, h2, h3⟩ := mapM4 hl h
    have hj := fields_join l f0 [f1, f2, f3] hx
    unfold fourS joinS
    simp only [List.map_cons, List.map_nil, digits_dec h0, digits_dec h1, digits_dec h2, digits_dec h3, Lib.join_cons, Lib.joinTail]
    rw [hj]
    simp
  · cases h
theorem low6 (n : Int) : lowB 6 n = [n / 1099511627776 % 256, n / 4294967296 % 256, n / 16777216 % 256, n / 65536 % 256, n / 256 % 256, n % 256] := by
  simp [lowB]
theorem rdS_short (a b : Int) (ha : 0 ≤ a ∧ a ≤ 65535) (hb : 0 ≤ b ∧ b ≤ 4294967295) : rdS (rdB 0 (a * (most 0 + 1) + b)) = some (decS a ++ ⟨#[58]⟩ ++ decS b) := by
  unfold rdS rdB
  rw [low6, show most 0 = 4294967295 from rfl]
  simp only [List.drop_zero, List.take_succ_cons, List.take_zero, List.drop_succ_cons, numOf, List.foldl_cons, List.foldl_nil]
  rw [if_pos (by omega)]
  congr 4
  · omega
  · omega
theorem rdS_long (a b : Int) (ha : 0 ≤ a ∧ a ≤ 4294967295) (hb : 0 ≤ b ∧ b ≤ 65535) : rdS (rdB 2 (a * (most 2 + 1) + b)) = some (decS a ++ ⟨#[76, 58]⟩ ++ decS b) := by
  unfold rdS rdB
  rw [low6, show most 2 = 65535 from rfl]
  simp only [List.drop_zero, List.take_succ_cons, List.take_zero, List.drop_succ_cons, numOf, List.foldl_cons, List.foldl_nil]
  rw [if_neg (by omega), if_neg (by omega), if_pos (by omega)]
  congr 4
  · omega
  · omega
theorem rdS_ip (ds : List Int) (b : Int) (hl : ds.length = 4) (ho : Oct ds) (hb : 0 ≤ b ∧ b ≤ 65535) : rdS (rdB 1 (numOf ds * (most 1 + 1) + b)) = some (fourS ds ++ ⟨#[58]⟩ ++ decS b) := by
  match ds, hl with
  | [d0, d1, d2, d3], _ =>
    have o0 := ho d0 (by simp)
    have o1 := ho d1 (by simp)
    have o2 := ho d2 (by simp)
    have o3 := ho d3 (by simp)
    unfold rdS rdB
    rw [low6, show most 1 = 65535 from rfl]
    simp only [List.drop_zero, List.take_succ_cons, List.take_zero, List.drop_succ_cons, numOf, List.foldl_cons, List.foldl_nil]
    rw [if_neg (by omega), if_pos (by omega)]
    congr 4
    · congr 1
      congr 1
      · omega
      · congr 1
        · omega
        · congr 1
          · omega
          · congr 1
            omega
    · omega
/-- A distinguisher that was read is written as it was read. -/
theorem rd_back {s : ByteArray} {l : List Int} (h : rdRd s = some l) : rdS l = some s := by
  rcases parts_or 58 s.data.toList with hn | ⟨hd, tl, hs, hn⟩
  · rw [rd_no s hn] at h; cases h
  · have hi : Lib.index s.data.toList [58] = hd.length := by rw [hs, index_at 58 _ _ hn]
    have e1 : (cutS s [58]).1 = ⟨hd.toArray⟩ := by
      unfold cutS Lib.cut
      rw [hi, if_pos (by omega), hs]
      simp
    have e2 : (cutS s [58]).2.1.data.toList = tl := by
      unfold cutS Lib.cut
      rw [hi, if_pos (by omega), hs]
      simp [List.drop_append]
    unfold rdRd at h
    rw [e1, e2] at h
    have hb := rdFirst_bd ⟨hd.toArray⟩
    unfold rd2 rd3 at h
    split at h
    · next a b ha hbt =>
      obtain rfl := Option.some.inj h
      have hbl := digits_lt _ _ _ hbt
      have hmk := most_bd (rdFirst ⟨hd.toArray⟩).1
      have hdb := digits_dec hbt
      unfold rdFirst at ha hbt hbl ⊢
      split at ha
      · next hdot =>
        rw [if_pos hdot] at hbt hbl ⊢
        rw [octs_un] at ha
        obtain ⟨ds, hds, rfl⟩ := Option.map_eq_some_iff.1 ha
        have ho := un_oct hds
        have := rdS_ip ds b ho.1 ho.2 hbl
        rw [this, un_text hds, hdb]
        congr 1
        apply ext_list
        rw [hs]
        simp
      · next hdot =>
        rw [if_neg hdot] at hbt hbl ⊢
        split at ha
        · next hsx =>
          rw [if_pos hsx] at hbt hbl ⊢
          obtain ⟨t, ht⟩ := (suffix_iff _).1 hsx
          rw [trimL_list ⟨hd.toArray⟩ t ht] at ha
          have hal := digits_lt _ _ _ ha
          have := rdS_long a b hal hbl
          rw [this, digits_dec ha, hdb]
          congr 1
          apply ext_list
          have ht' : hd = t ++ [76] := by simpa using ht
          rw [hs, ht']
          simp
        · next hsx =>
          rw [if_neg hsx] at hbt hbl ⊢
          have hal := digits_lt _ _ _ ha
          have := rdS_short a b hal hbl
          rw [this, digits_dec ha, hdb]
          congr 1
          apply ext_list
          rw [hs]
          simp
    · cases h
end Go.Proofs.YtfapmedlnaikiaaDoor
