/-
  Layer 2 (addr): readFirst, ParseRd.
-/
import Derived.Test.YtkaimdcepnhkdaaDoorAdT
namespace Go.Proofs.YtkaimdcepnhkdaaDoor
open Go.RowKit
set_option linter.unusedSimpArgs false
set_option linter.unusedVariables false

def trimL (s : ByteArray) : ByteArray := ⟨(Lib.trimSuffix s.data.toList [76]).toArray⟩
def rdFirst (s : ByteArray) : Int × Option Int :=
  if dotB s then (1, (octs (splitS s 46 5)).map numOf)
  else if Lib.hasSuffix s.data.toList [76] then (2, digits (trimL s).data.toList 4294967295)
  else (0, digits s.data.toList 65535)
def fstV (p : Int × Option Int) : Value := .tuple #[.int .u8 p.1, .int .u64 (p.2.getD 0), .bool p.2.isSome]
def RFst (w : World) (p : Int × Option Int) (e : Ending) (w' : World) : Prop := e = .returned (fstV p) ∧ Below w.heap.size w w'
theorem trimL_size (s : ByteArray) : (trimL s).size ≤ s.size := by
  show (Lib.trimSuffix s.data.toList [76]).toArray.size ≤ s.data.size
  rw [List.size_toArray]
  unfold Lib.trimSuffix
  split
  · rw [List.length_take, Array.length_toList]; omega
  · rw [Array.length_toList]; exact Nat.le_refl _
theorem octs_num {xs : List ByteArray} {ds : List Int} (h : octs xs = some ds) : 0 ≤ numOf ds ∧ numOf ds < 4294967296 := by
  have hb := octs_bd h
  have := numOf_bd ds hb.2
  rw [hb.1] at this
  exact ⟨this.1, by omega⟩
set_option maxHeartbeats 2000000 in
set_option maxRecDepth 100000 in
theorem rfst_is (w : World) (E : Env w) (s : ByteArray) (hs : s.size < 4294967281) : Calls Tryd.prog 119 #[.string s] w (RFst w (rdFirst s)) := by
  have HO : Hid (rdFirst s = if dotB s then (1, (octs (splitS s 46 5)).map numOf) else if Lib.hasSuffix s.data.toList [76] then (2, digits (trimL s).data.toList 4294967295) else (0, digits s.data.toList 65535)) := Lib.hid rfl
  have Hc : Hid (Calls Tryd.prog 113 #[.string s, .string ⟨#[46]⟩] w fun e w' => e = .returned (.bool (dotB s)) ∧ w = w') := Lib.hid ((Tryd.strings_Contains_one s 46 _).mono fun e w' h => ⟨h.1, h.2.symm⟩)
  have Hx : Hid (Calls Tryd.prog 138 #[.string s, .string ⟨#[76]⟩] w fun e w' => e = .returned (.tuple #[.string (trimL s), .bool (Lib.hasSuffix s.data.toList [76])]) ∧ w = w') := Lib.hid ((Tryd.strings_CutSuffix s ⟨#[76]⟩ w (by omega)).mono fun e w' h => ⟨h.1, h.2.symm⟩)
  generalize hX : rdFirst s = out at *
  clear hX
  go_enter Tryd.func119, Tryd.ntmps119
  go_wp2_with fail
  refine Hc.out.mono ?_
  rintro e w' ⟨rfl, rfl⟩
  clear Hc
  cases hd : dotB s
  · rw [hd] at HO
    have HO2 : Hid (out = if Lib.hasSuffix s.data.toList [76] then (2, digits (trimL s).data.toList 4294967295) else (0, digits s.data.toList 65535)) := Lib.hid HO.out
    clear HO hd
    go_wp2_with fail
    refine Hx.out.mono ?_
    rintro e w' ⟨rfl, rfl⟩
    clear Hx
    cases hsf : Lib.hasSuffix s.data.toList [76]
    · rw [hsf] at HO2
      have HO3 : Hid (out = (0, digits s.data.toList 65535)) := Lib.hid HO2.out
      clear HO2 hsf
      go_wp2_with fail
      refine (digits_is w s 65535 (by omega) (by omega) (by omega)).mono ?_
      rintro e w2 ⟨rfl, rfl⟩
      simp only [digV]
      generalize digits s.data.toList 65535 = o at *
      go_wp2
      go_ret3
      exact ⟨by rw [HO3.out]; rfl, Below.refl _ _⟩
    · rw [hsf] at HO2
      have HO3 : Hid (out = (2, digits (trimL s).data.toList 4294967295)) := Lib.hid HO2.out
      have htl := trimL_size s
      clear HO2 hsf
      go_wp2_with fail
      refine (digits_is w (trimL s) 4294967295 (by omega) (by omega) (by omega)).mono ?_
      rintro e w2 ⟨rfl, rfl⟩
      simp only [digV]
      generalize digits (trimL s).data.toList 4294967295 = o at *
      go_wp2
      go_ret3
      exact ⟨by rw [HO3.out]; rfl, Below.refl _ _⟩
  · rw [hd] at HO
    have HO2 : Hid (out = (1, (octs (splitS s 46 5)).map numOf)) := Lib.hid HO.out
    clear HO hd Hx
    go_wp2_with fail
    refine (rfour_is _ E s hs).mono ?_
    rintro e w1 ⟨rfl, hB⟩
    have HB := Lib.hid hB
    clear hB
    have hparts : ∃ l b, ipOf (octs (splitS s 46 5)) = .tuple #[.agg (ipc false l).toArray, .bool b] ∧ l.length = 16 ∧ Oct l ∧ out = (1, if b then some (numOf (l.take 4)) else none) ∧ (b = false → numOf (l.take 4) = 0) := by
      rw [HO2.out]
      cases ho : octs (splitS s 46 5) with
      | none => exact ⟨List.replicate 16 0, false, rfl, rfl, (fun x hx => by have := (List.mem_replicate.1 hx).2; omega), rfl, fun _ => rfl⟩
      | some ds =>
        have hb := octs_bd ho
        refine ⟨ds ++ List.replicate 12 0, true, rfl, by simp [hb.1], ?_, ?_, fun h => by cases h⟩
        · intro x hx
          rcases List.mem_append.1 hx with hx | hx
          · exact hb.2 x hx
          · have := (List.mem_replicate.1 hx).2; omega
        · rw [show (ds ++ List.replicate 12 (0 : Int)).take 4 = ds by rw [← hb.1, List.take_left]]; rfl
    obtain ⟨l, b, hip, hl, ho, hout, hz⟩ := hparts
    rw [hip]
    have HOut := Lib.hid hout
    have HZ := Lib.hid hz
    have HN := Lib.hid (Blk.setRow (Blk.new w1 24 zip16) (ipc false l).toArray)
    have hs1 := HB.out.size
    clear hip hout hz HO2
    go_wp2_with (first
      | (refine ip_store rfl _ _ rfl w1.heap.size false l hl rfl rfl 24 zip16 (Blk.new w1 24 zip16) rfl ?_)
      | (refine ip_fetch rfl _ rfl w1.heap.size 0 false l hl rfl HN.out.range ?_))
    refine (first4_is _ false l hl ho).mono ?_
    rintro e w2 ⟨rfl, hB2⟩
    have hnb := num4_bd l hl ho
    have HB2 : Hid (Below w.heap.size w w2) := Lib.hid (((HB.out.alloc hs1 _).trans (below_setRow _ w1.heap.size _ hs1)).trans (hB2.mono (by rw [size_sra]; omega)))
    clear hB2
    generalize numOf (l.take 4) = n at *
    go_wp2
    go_ret3
    refine ⟨?_, HB2.out⟩
    rw [HOut.out]
    cases b
    · rw [HZ.out rfl]; rfl
    · rfl

/-- A text as a distinguisher's bytes. -/
def rd3 (k : Int) (o p : Option Int) : Option (List Int) := match o, p with
  | some a, some b => some (rdB k (a * (most k + 1) + b))
  | _, _ => none
def rd2 (p : Int × Option Int) (t : List UInt8) : Option (List Int) := rd3 p.1 p.2 (digits t (most p.1))
def rdRd (s : ByteArray) : Option (List Int) := rd2 (rdFirst (cutS s [58]).1) (cutS s [58]).2.1.data.toList
def rdE (o : Option (List Int)) : Value := match o with
  | some l => .tuple #[.agg (u8s l).toArray, .int .i64 0]
  | none => .tuple #[.agg zr8, .int .i64 4]
def PRd (w : World) (o : Option (List Int)) (e : Ending) (w' : World) : Prop := e = .returned (rdE o) ∧ Below w.heap.size w w'
theorem rdFirst_bd (s : ByteArray) : (rdFirst s).1 = 0 ∧ (∀ n, (rdFirst s).2 = some n → 0 ≤ n ∧ n ≤ 65535) ∨ (1 ≤ (rdFirst s).1 ∧ (rdFirst s).1 ≤ 2) ∧ (∀ n, (rdFirst s).2 = some n → 0 ≤ n ∧ n ≤ 4294967295) := by
  unfold rdFirst
  split
  · refine .inr ⟨⟨by simp only []; omega, by simp only []; omega⟩, ?_⟩
    intro n h
    cases ho : octs (splitS s 46 5) with
    | none => rw [ho] at h; cases h
    | some ds =>
      rw [ho] at h
      have := octs_num ho
      cases h
      omega
  · split
    · refine .inr ⟨⟨by simp only []; omega, by simp only []; omega⟩, ?_⟩
      intro n h
      exact digits_lt _ _ _ h
    · refine .inl ⟨rfl, ?_⟩
      intro n h
      exact digits_lt _ _ _ h
theorem most_bd (k : Int) : 0 ≤ most k ∧ most k ≤ 4294967295 := by unfold most; split <;> omega
theorem fit_of (s : ByteArray) (t : List UInt8) (a b : Int) (ha : (rdFirst s).2 = some a) (hb : digits t (most (rdFirst s).1) = some b) : FitRd (rdFirst s).1 a b := by
  have h2 := digits_lt _ _ _ hb
  rcases rdFirst_bd s with ⟨h, h1⟩ | ⟨h, h1⟩
  · have := h1 a ha
    rw [h] at h2 ⊢
    have hm : most 0 = 4294967295 := rfl
    exact .inl ⟨rfl, by omega, by omega, by omega, by omega⟩
  · have := h1 a ha
    have hm : most (rdFirst s).1 = 65535 := by unfold most; rw [if_neg (by omega)]
    exact .inr ⟨by omega, by omega, by omega, by omega, by omega⟩
set_option maxHeartbeats 8000000 in
set_option maxRecDepth 100000 in
theorem prd_is (w : World) (E : Env w) (s : ByteArray) (hs : s.size < 4294967281) : Calls Tryd.prog 78 #[.string s] w (PRd w (rdRd s)) := by
  have HE := Lib.hid (E.alloc (.cells zr8 95))
  have HR := Lib.hid (Blk.new w 95 zr8)
  have HS := Lib.hid (cutS_size s [58])
  have HO : Hid (rdRd s = rd2 (rdFirst (cutS s [58]).1) (cutS s [58]).2.1.data.toList) := Lib.hid rfl
  generalize hX : rdRd s = out at *
  clear hX
  go_enter Tryd.func78, Tryd.ntmps78
  go_wp2_with fail
  refine (cut_call _ HE.out s ⟨#[58]⟩ hs).mono ?_
  rintro e w1 ⟨rfl, hB1, hsz⟩
  rw [show (w.alloc (.cells zr8 95)).heap.size = w.heap.size + 1 by simp] at *
  have HE1 := Lib.hid (HE.out.below (by rw [show (w.alloc (.cells zr8 95)).heap.size = w.heap.size + 1 by simp]; exact hB1))
  have HB1 : Hid (Below w.heap.size w w1) := Lib.hid (((Below.refl w.heap.size w).alloc (Nat.le_refl _) _).trans (hB1.mono (by omega)))
  have Hr := Lib.hid (HR.out.below hB1 (by omega))
  have hs1 : w.heap.size < w1.heap.size := by omega
  clear hB1 hsz HE HR
  generalize cutS s [58] = c at *
  obtain ⟨hd, tl, sh⟩ := c
  simp only at HS HO
  have hhd : hd.size < 4294967281 := by have := HS.out.1; omega
  have htl : tl.size < 4294967281 := by have := HS.out.2; omega
  go_wp2_with fail
  refine (rfst_is w1 HE1.out hd hhd).mono ?_
  rintro e w2 ⟨rfl, hB2⟩
  have HB2 := Lib.hid (HB1.out.trans (hB2.mono HB1.out.size))
  have Hr2 := Lib.hid (Hr.out.below hB2 hs1)
  have HFit : Hid (∀ a b, (rdFirst hd).2 = some a → digits tl.data.toList (most (rdFirst hd).1) = some b → FitRd (rdFirst hd).1 a b) := Lib.hid (fun a b => fit_of hd tl.data.toList a b)
  have HLe := Lib.hid hB2.size
  clear hB2 HB1 Hr
  simp only [fstV]
  generalize rdFirst hd = p at *
  obtain ⟨k, o⟩ := p
  simp only at HFit HO
  go_wp2_with fail
  refine (ml_is w2 k).mono ?_
  rintro e w' ⟨rfl, rfl⟩
  have hmb := most_bd k
  go_wp2_with fail
  refine (digits_is w2 tl (most k) (by omega) (by omega) (by omega)).mono ?_
  rintro e w' ⟨rfl, rfl⟩
  have HO2 : Hid (out = rd3 k o (digits tl.data.toList (most k))) := Lib.hid HO.out
  clear HO hmb
  simp only [digV]
  generalize digits tl.data.toList (most k) = o2 at *
  cases o with
  | none =>
    have HN : Hid (out = none) := Lib.hid (by rw [HO2.out]; rfl)
    clear HO2 HFit
    generalize o2.isSome = b2 at *
    generalize o2.getD 0 = n2 at *
    go_wp2_with (refine rd_store rfl _ _ rfl w.heap.size (List.replicate 8 0) rfl rfl rfl 95 zr8 Hr2.out rfl ?_)
    refine bodyPost_ret (v := rdE none) ?_ rfl ⟨by rw [HN.out], HB2.out.trans (below_setRow _ _ _ (Nat.le_refl _))⟩
    exact results_cell_slot rfl _ _ w.heap.size 95 _ _ _ rfl rfl (Blk.setRow Hr2.out _) Tryd.underlying95 rfl (by kernel_rfl)
  | some a =>
    cases o2 with
    | none =>
      have HN : Hid (out = none) := Lib.hid (by rw [HO2.out]; rfl)
      clear HO2 HFit
      go_wp2_with (refine rd_store rfl _ _ rfl w.heap.size (List.replicate 8 0) rfl rfl rfl 95 zr8 Hr2.out rfl ?_)
      refine bodyPost_ret (v := rdE none) ?_ rfl ⟨by rw [HN.out], HB2.out.trans (below_setRow _ _ _ (Nat.le_refl _))⟩
      exact results_cell_slot rfl _ _ w.heap.size 95 _ _ _ rfl rfl (Blk.setRow Hr2.out _) Tryd.underlying95 rfl (by kernel_rfl)
    | some b =>
      have HN : Hid (out = some (rdB k (a * (most k + 1) + b))) := Lib.hid (by rw [HO2.out]; rfl)
      have HFt := Lib.hid (HFit.out a b rfl rfl)
      have hs2 : w.heap.size < w2.heap.size := Nat.lt_of_lt_of_le hs1 HLe.out
      clear HO2 HFit
      go_wp2_with fail
      refine (mk_is w2 k a b HFt.out).mono ?_
      rintro e w3 ⟨rfl, hB3⟩
      have HB3 := Lib.hid (HB2.out.trans (hB3.mono (by omega)))
      have Hr3 := Lib.hid (Hr2.out.below hB3 hs2)
      have hl := rdB_len k (a * (most k + 1) + b)
      clear hB3
      generalize rdB k (a * (most k + 1) + b) = l at *
      go_wp2_with (refine rd_store rfl _ _ rfl w.heap.size l hl rfl rfl 95 zr8 Hr3.out rfl ?_)
      refine bodyPost_ret (v := rdE (some l)) ?_ rfl ⟨by rw [HN.out], HB3.out.trans (below_setRow _ _ _ (Nat.le_refl _))⟩
      exact results_cell_slot rfl _ _ w.heap.size 95 _ _ _ rfl rfl (Blk.setRow Hr3.out _) Tryd.underlying95 rfl (rd_size l hl)
end Go.Proofs.YtkaimdcepnhkdaaDoor
