/-
  Layer 2 (addr): ParsePrefix.
-/
import Derived.Test.YtkaimdcepnhkdaaDoorAdR
namespace Go.Proofs.YtkaimdcepnhkdaaDoor
open Go.RowKit
set_option linter.unusedSimpArgs false
set_option linter.unusedVariables false

def pf2 (o : Option (Bool × List Int)) (t : List UInt8) : Option (Bool × List Int × Int) := match o with
  | none => none
  | some (v, l) => match digits t (bitsOf v) with
    | none => none
    | some n => if rightPfB v l n then some (v, l, n) else none
def rdPf (s : ByteArray) : Option (Bool × List Int × Int) := pf2 (rdIp (cutS s [47]).1) (cutS s [47]).2.1.data.toList
def pfE (o : Option (Bool × List Int × Int)) : Value := match o with
  | some (v, l, n) => .tuple #[.agg (pfc v l n).toArray, .int .i64 0]
  | none => .tuple #[.agg noPf.toArray, .int .i64 4]
def PPf (w : World) (o : Option (Bool × List Int × Int)) (e : Ending) (w' : World) : Prop := e = .returned (pfE o) ∧ Below w.heap.size w w'
theorem bits_bd (v : Bool) : 32 ≤ bitsOf v ∧ bitsOf v ≤ 128 := by unfold bitsOf; split <;> omega
/-- What ParseIp hands back, in parts. -/
theorem ipE_parts (o : Option (Bool × List Int)) (hbd : ∀ v l, o = some (v, l) → l.length = 16 ∧ Oct l ∧ rightB v l = true) :
    ∃ v l err, ipE o = .tuple #[.agg (ipc v l).toArray, .int .i64 err] ∧ l.length = 16 ∧ Oct l ∧ ((err = 0 ∧ o = some (v, l)) ∨ (err = 4 ∧ o = none)) := by
  cases o with
  | none => exact ⟨false, List.replicate 16 0, 4, rfl, rfl, (fun x hx => by have := (List.mem_replicate.1 hx).2; omega), .inr ⟨rfl, rfl⟩⟩
  | some x => obtain ⟨v, l⟩ := x; exact ⟨v, l, 0, rfl, (hbd v l rfl).1, (hbd v l rfl).2.1, .inl ⟨rfl, rfl⟩⟩

theorem size_sra (w : World) (o : Obj) (g : Nat) (cs : Array Value) : ((w.alloc o).setRow g cs).heap.size = w.heap.size + 1 := by simp [World.setRow]
set_option maxHeartbeats 8000000 in
set_option maxRecDepth 100000 in
theorem ppf_is (w : World) (E : Env w) (s : ByteArray) (hs : s.size < 4294967281) : Calls Tryd.prog 30 #[.string s] w (PPf w (rdPf s)) := by
  have HE := Lib.hid (E.alloc (.cells noPf.toArray 40))
  have HR := Lib.hid (Blk.new w 40 noPf.toArray)
  have HS := Lib.hid (cutS_size s [47])
  have HO : Hid (rdPf s = pf2 (rdIp (cutS s [47]).1) (cutS s [47]).2.1.data.toList) := Lib.hid rfl
  generalize hX : rdPf s = out at *
  clear hX
  go_enter Tryd.func30, Tryd.ntmps30
  go_wp2_with fail
  refine (cut_call _ HE.out s ⟨#[47]⟩ hs).mono ?_
  rintro e w1 ⟨rfl, hB1, hsz⟩
  rw [show (w.alloc (.cells noPf.toArray 40)).heap.size = w.heap.size + 1 by simp] at *
  have HE1 := Lib.hid (HE.out.below (by rw [show (w.alloc (.cells noPf.toArray 40)).heap.size = w.heap.size + 1 by simp]; exact hB1))
  have HB1 : Hid (Below w.heap.size w w1) := Lib.hid (((Below.refl w.heap.size w).alloc (Nat.le_refl _) _).trans (hB1.mono (by omega)))
  have Hr := Lib.hid (HR.out.below hB1 (by omega))
  have hs1 : w.heap.size < w1.heap.size := by omega
  clear hB1 hsz HE HR
  generalize cutS s [47] = c at *
  obtain ⟨hd, tl, sh⟩ := c
  simp only at HS HO
  have hhd : hd.size < 4294967281 := by have := HS.out.1; omega
  have htl : tl.size < 4294967281 := by have := HS.out.2; omega
  go_wp2_with fail
  refine (pip_is w1 HE1.out hd hhd).mono ?_
  rintro e w2 ⟨he, hB2⟩
  have HB2 := Lib.hid (HB1.out.trans (hB2.mono HB1.out.size))
  have Hr2 := Lib.hid (Hr.out.below hB2 hs1)
  have hs2 : w.heap.size < w2.heap.size := Nat.lt_of_lt_of_le hs1 hB2.size
  obtain ⟨v, l, err, hip, hl, ho, hcase⟩ := ipE_parts (rdIp hd) (fun v l h => rdIp_bd h)
  rw [hip] at he
  subst he
  have HCase := Lib.hid hcase
  have HA0 := Lib.hid (Blk.setRow (Blk.new w2 24 zip16) (ipc v l).toArray)
  have HB3 : Hid (Below w.heap.size w ((w2.alloc (.cells zip16 24)).setRow w2.heap.size (ipc v l).toArray)) := Lib.hid ((HB2.out.alloc (Nat.le_of_lt hs2) _).trans (below_setRow _ _ _ (Nat.le_of_lt hs2)))
  have Hr3 : Hid (Blk ((w2.alloc (.cells zip16 24)).setRow w2.heap.size (ipc v l).toArray) w.heap.size 40 noPf.toArray) := Lib.hid ((Hr2.out.alloc _).below (below_setRow _ w2.heap.size _ (Nat.le_refl _)) hs2)
  have hbb := bits_bd v
  have hw64 : IntKind.u64.wrap (bitsOf v) = bitsOf v := by rw [IntKind.wrap_u64]; exact Int.emod_eq_of_lt (by omega) (by omega)
  clear hB2 hip hcase
  go_wp2_with (first
    | (refine ip_store rfl _ _ rfl w2.heap.size v l hl rfl rfl 24 zip16 (Blk.new w2 24 zip16) rfl ?_)
    | (refine ip_fetch rfl _ rfl w2.heap.size 0 v l hl rfl HA0.out.range ?_))
  refine (bits_is _ v l).mono ?_
  rintro e w4 ⟨rfl, hB4⟩
  have HB4 := Lib.hid (HB3.out.trans (hB4.mono (by rw [size_sra]; omega)))
  have Hr4 := Lib.hid (Hr3.out.below hB4 (by rw [size_sra]; omega))
  have HA4 := Lib.hid (HA0.out.below hB4 (by rw [size_sra]; omega))
  have hs4 : w2.heap.size < w4.heap.size := by have := hB4.size; rw [size_sra] at this; omega
  clear hB4 HA0 HB3 Hr3
  go_wp2_with fail
  refine (digits_is w4 tl (bitsOf v) (by omega) (by omega) (by omega)).mono ?_
  rintro e w' ⟨rfl, rfl⟩
  have hdg : ∃ n b, digV (digits tl.data.toList (bitsOf v)) = .tuple #[.int .u64 n, .bool b] ∧ 0 ≤ n ∧ n ≤ 128 ∧ ((b = true ∧ digits tl.data.toList (bitsOf v) = some n) ∨ (b = false ∧ digits tl.data.toList (bitsOf v) = none)) := by
    cases hd2 : digits tl.data.toList (bitsOf v) with
    | none => exact ⟨0, false, rfl, by omega, by omega, .inr ⟨rfl, rfl⟩⟩
    | some n => have := digits_lt _ _ _ hd2; exact ⟨n, true, rfl, this.1, by omega, .inl ⟨rfl, rfl⟩⟩
  obtain ⟨n, b, hv, hn0, hn1, hdc⟩ := hdg
  rw [hv]
  have HDc := Lib.hid hdc
  have hwn : IntKind.i64.wrap n = n := IntWalk.i64_in _ (by omega)
  have HP0 := Lib.hid (Blk.setRow (Blk.new w4 40 noPf.toArray) (pfc v l n).toArray)
  have HB5 : Hid (Below w.heap.size w ((w4.alloc (.cells noPf.toArray 40)).setRow w4.heap.size (pfc v l n).toArray)) := Lib.hid ((HB4.out.alloc (by omega) _).trans (below_setRow _ _ _ (by omega)))
  have Hr5 : Hid (Blk ((w4.alloc (.cells noPf.toArray 40)).setRow w4.heap.size (pfc v l n).toArray) w.heap.size 40 noPf.toArray) := Lib.hid ((Hr4.out.alloc _).below (below_setRow _ w4.heap.size _ (Nat.le_refl _)) (by omega))
  clear hv hdc hbb hw64
  have hgood : (err = 0 ∧ b = true) ∨ ((err != 0) = true) ∨ (err = 0 ∧ b = false) := by
    rcases HCase.out with h | h
    · cases b
      · exact .inr (.inr ⟨h.1, rfl⟩)
      · exact .inl ⟨h.1, rfl⟩
    · exact .inr (.inl (by rw [h.1]; rfl))
  rcases hgood with ⟨rfl, rfl⟩ | hbad | ⟨rfl, rfl⟩
  · have H1 : Hid (rdIp hd = some (v, l)) := Lib.hid (by rcases HCase.out with h | h; exact h.2; exact absurd h.1 (by decide))
    have H2 : Hid (digits tl.data.toList (bitsOf v) = some n) := Lib.hid (by rcases HDc.out with h | h; exact h.2; cases h.1)
    have HO2 : Hid (out = if rightPfB v l n then some (v, l, n) else none) := Lib.hid (by rw [HO.out, H1.out]; show (match digits tl.data.toList (bitsOf v) with | none => none | some n => if rightPfB v l n then some (v, l, n) else none) = _; rw [H2.out])
    clear HO HCase HDc H1 H2
    go_wp2_with (first
      | (refine ip_fetch rfl _ rfl w2.heap.size 0 v l hl rfl HA4.out.range ?_)
      | (refine pf_build rfl _ _ rfl v l n hl rfl rfl ?_)
      | (refine pf_store rfl _ _ rfl w4.heap.size v l n hl rfl rfl 40 noPf.toArray (Blk.new w4 40 noPf.toArray) rfl ?_)
      | (refine pf_fetch rfl _ rfl w4.heap.size v l n hl rfl HP0.out.range ?_))
    refine (rpf_is _ v l n hl ho ⟨by omega, by omega⟩).mono ?_
    rintro e w6 ⟨rfl, hB6⟩
    have HB6 := Lib.hid (HB5.out.trans (hB6.mono (by rw [size_sra]; omega)))
    have Hr6 := Lib.hid (Hr5.out.below hB6 (by rw [size_sra]; omega))
    have HP6 := Lib.hid (HP0.out.below hB6 (by rw [size_sra]; omega))
    clear hB6
    cases hrt : rightPfB v l n
    · have HN : Hid (out = none) := Lib.hid (by rw [HO2.out, hrt]; rfl)
      clear hrt HO2
      go_wp2_with (refine pf_store rfl _ _ rfl w.heap.size false (List.replicate 16 0) 0 rfl rfl rfl 40 noPf.toArray Hr6.out rfl ?_)
      refine bodyPost_ret (v := pfE none) ?_ rfl ⟨by rw [HN.out], HB6.out.trans (below_setRow _ _ _ (Nat.le_refl _))⟩
      exact results_cell_slot rfl _ _ w.heap.size 40 _ _ _ rfl rfl (Blk.setRow Hr6.out _) Tryd.underlying40 rfl (by kernel_rfl)
    · have HN : Hid (out = some (v, l, n)) := Lib.hid (by rw [HO2.out, hrt]; rfl)
      clear hrt HO2
      go_wp2_with (first
        | (refine pf_fetch rfl _ rfl w4.heap.size v l n hl rfl HP6.out.range ?_)
        | (refine pf_store rfl _ _ rfl w.heap.size v l n hl rfl rfl 40 noPf.toArray Hr6.out rfl ?_))
      refine bodyPost_ret (v := pfE (some (v, l, n))) ?_ rfl ⟨by rw [HN.out], HB6.out.trans (below_setRow _ _ _ (Nat.le_refl _))⟩
      exact results_cell_slot rfl _ _ w.heap.size 40 _ _ _ rfl rfl (Blk.setRow Hr6.out _) Tryd.underlying40 rfl (pfc_size v l n hl)
  · have HN : Hid (out = none) := Lib.hid (by
      rcases HCase.out with h | h
      · rw [h.1] at hbad; cases hbad
      · rw [HO.out, h.2]; rfl)
    clear HO HCase HDc
    go_wp2_with (first
      | (refine ip_fetch rfl _ rfl w2.heap.size 0 v l hl rfl HA4.out.range ?_)
      | (refine pf_build rfl _ _ rfl v l n hl rfl rfl ?_)
      | (refine pf_store (o := ⟨none, .store _ (.tmp 11) _, _, _, _, _⟩) rfl _ _ rfl w4.heap.size v l n hl rfl rfl 40 noPf.toArray (Blk.new w4 40 noPf.toArray) rfl ?_)
      | (refine pf_store (o := ⟨none, .store _ (.tmp 2) _, _, _, _, _⟩) rfl _ _ rfl w.heap.size false (List.replicate 16 0) 0 rfl rfl rfl 40 noPf.toArray Hr5.out rfl ?_))
    refine bodyPost_ret (v := pfE none) ?_ rfl ⟨by rw [HN.out], HB5.out.trans (below_setRow _ _ _ (Nat.le_refl _))⟩
    exact results_cell_slot rfl _ _ w.heap.size 40 _ _ _ rfl rfl (Blk.setRow Hr5.out _) Tryd.underlying40 rfl (by kernel_rfl)
  · have HN : Hid (out = none) := Lib.hid (by
      rw [HO.out]
      rcases HCase.out with h | h
      · rcases HDc.out with h2 | h2
        · cases h2.1
        · rw [h.2]; show (match digits tl.data.toList (bitsOf v) with | none => none | some n => if rightPfB v l n then some (v, l, n) else none) = _; rw [h2.2]
      · exact absurd h.1 (by decide))
    clear HO HCase HDc
    go_wp2_with (first
      | (refine ip_fetch rfl _ rfl w2.heap.size 0 v l hl rfl HA4.out.range ?_)
      | (refine pf_build rfl _ _ rfl v l n hl rfl rfl ?_)
      | (refine pf_store (o := ⟨none, .store _ (.tmp 11) _, _, _, _, _⟩) rfl _ _ rfl w4.heap.size v l n hl rfl rfl 40 noPf.toArray (Blk.new w4 40 noPf.toArray) rfl ?_)
      | (refine pf_store (o := ⟨none, .store _ (.tmp 2) _, _, _, _, _⟩) rfl _ _ rfl w.heap.size false (List.replicate 16 0) 0 rfl rfl rfl 40 noPf.toArray Hr5.out rfl ?_))
    refine bodyPost_ret (v := pfE none) ?_ rfl ⟨by rw [HN.out], HB5.out.trans (below_setRow _ _ _ (Nat.le_refl _))⟩
    exact results_cell_slot rfl _ _ w.heap.size 40 _ _ _ rfl rfl (Blk.setRow Hr5.out _) Tryd.underlying40 rfl (by kernel_rfl)
end Go.Proofs.YtkaimdcepnhkdaaDoor
