/-
  Layer 2 (addr): readIp, ParseIp.
-/
import Derived.Test.YtkaimdcepnhkdaaDoorAdQ
namespace Go.Proofs.YtkaimdcepnhkdaaDoor
open Go.RowKit
set_option linter.unusedSimpArgs false
set_option linter.unusedVariables false

def dotB (s : ByteArray) : Bool := decide (0 ≤ Lib.indexByte s.data.toList 46)
def rdIp (s : ByteArray) : Option (Bool × List Int) :=
  if dotB s then (octs (splitS s 46 5)).map fun ds => (false, ds ++ List.replicate 12 0) else (rdSix s).map fun l => (true, l)
def ipP (o : Option (Bool × List Int)) : Value := match o with
  | some (v, l) => .tuple #[.agg (ipc v l).toArray, .bool true]
  | none => .tuple #[.agg (ipc false (List.replicate 16 0)).toArray, .bool false]
theorem octs_bd {xs : List ByteArray} {ds : List Int} (h : octs xs = some ds) : ds.length = 4 ∧ Oct ds := by
  unfold octs at h
  split at h
  · rename_i h4
    refine ⟨by rw [mapM_len _ _ _ h]; exact h4, ?_⟩
    clear h4
    induction xs generalizing ds with
    | nil => simp at h; subst h; intro x hx; cases hx
    | cons y ys ih =>
      simp only [List.mapM_cons, Option.bind_eq_bind, Option.bind_eq_some_iff, Option.pure_def, Option.some.injEq] at h
      obtain ⟨a, ha, zs, hz, rfl⟩ := h
      intro x hx
      rcases List.mem_cons.1 hx with rfl | hx
      · have := digits_lt _ _ _ ha; omega
      · exact ih hz x hx
  · cases h
theorem rdSix_bd {s : ByteArray} {l : List Int} (h : rdSix s = some l) : l.length = 16 ∧ Oct l := by
  unfold rdSix at h
  cases ha : rdGroups (cutS s [58, 58]).1 with
  | none => rw [ha] at h; cases h
  | some a =>
    cases hb : rdGroups (cutS s [58, 58]).2.1 with
    | none => rw [ha, hb] at h; cases h
    | some b =>
      rw [ha, hb, six2_some] at h
      by_cases hc : (if (cutS s [58, 58]).2.2 then decide (((a.length : Int) + (b.length : Int)) < 8) else decide ((a.length : Int) + (b.length : Int) = 8)) = true
      · rw [if_pos hc] at h
        have hba := rdGroups_bd ha
        have hbb := rdGroups_bd hb
        have hab : a.length + b.length ≤ 8 := by
          split at hc
          · simp at hc; omega
          · simp at hc; omega
        cases h
        constructor
        · rw [ungrp_len]; simp; omega
        · refine ungrp_oct _ ?_
          intro x hx
          rcases List.mem_append.1 hx with hx | hx
          · rcases List.mem_append.1 hx with hx | hx
            · exact hba.1 x hx
            · have := (List.mem_replicate.1 hx).2; omega
          · exact hbb.1 x hx
      · rw [if_neg hc] at h; cases h
theorem rdIp_bd {s : ByteArray} {v : Bool} {l : List Int} (h : rdIp s = some (v, l)) : l.length = 16 ∧ Oct l ∧ rightB v l = true := by
  unfold rdIp at h
  split at h
  · obtain ⟨ds, hd, he⟩ := Option.map_eq_some_iff.1 h
    simp only [Prod.mk.injEq] at he
    obtain ⟨rfl, rfl⟩ := he
    have := octs_bd hd
    refine ⟨by simp [this.1], ?_, ?_⟩
    · intro x hx
      rcases List.mem_append.1 hx with hx | hx
      · exact this.2 x hx
      · have := (List.mem_replicate.1 hx).2; omega
    · unfold rightB
      rw [show (ds ++ List.replicate 12 (0 : Int)).drop 4 = List.replicate 12 0 by rw [← this.1, List.drop_left]]
      simp
  · obtain ⟨ds, hd, he⟩ := Option.map_eq_some_iff.1 h
    simp only [Prod.mk.injEq] at he
    obtain ⟨rfl, rfl⟩ := he
    have := rdSix_bd hd
    exact ⟨this.1, this.2, rfl⟩
def RIp (w : World) (o : Option (Bool × List Int)) (e : Ending) (w' : World) : Prop := e = .returned (ipP o) ∧ Below w.heap.size w w'
theorem ipP_four (o : Option (List Int)) : ipOf o = ipP (o.map fun ds => (false, ds ++ List.replicate 12 0)) := by cases o <;> rfl
theorem ipP_six (o : Option (List Int)) : ipR true o = ipP (o.map fun l => (true, l)) := by cases o <;> rfl

set_option maxHeartbeats 1000000 in
set_option maxRecDepth 100000 in
theorem rip_is (w : World) (E : Env w) (s : ByteArray) (hs : s.size < 4294967281) : Calls Tryd.prog 73 #[.string s] w (RIp w (rdIp s)) := by
  have HE := Lib.hid (E.alloc (.cells zip16 24))
  have HR := Lib.hid (Blk.new w 24 zip16)
  have HBD := Lib.hid (fun v l => rdIp_bd (s := s) (v := v) (l := l))
  have HO : Hid (rdIp s = if dotB s then (octs (splitS s 46 5)).map fun ds => (false, ds ++ List.replicate 12 0) else (rdSix s).map fun l => (true, l)) := Lib.hid rfl
  have Hc : Hid (Calls Tryd.prog 113 #[.string s, .string ⟨#[46]⟩] (w.alloc (.cells zip16 24)) fun e w' => e = .returned (.bool (dotB s)) ∧ w' = (w.alloc (.cells zip16 24))) := Lib.hid (Tryd.strings_Contains_one s 46 _)
  generalize hX : rdIp s = out at *
  clear hX
  go_enter Tryd.func73, Tryd.ntmps73
  go_wp2_with fail
  refine Hc.out.mono ?_
  rintro e w' ⟨rfl, rfl⟩
  clear Hc
  cases hd : dotB s
  · rw [hd] at HO
    have HO2 : Hid (out = (rdSix s).map fun l => (true, l)) := Lib.hid HO.out
    clear HO hd
    go_wp2_with fail
    refine (rsix_is _ HE.out s hs).mono ?_
    rintro e w1 ⟨he, hB⟩
    rw [ipP_six, ← HO2.out] at he
    subst he
    have HB : Hid (Below w.heap.size w w1) := Lib.hid (((Below.refl _ _).alloc (Nat.le_refl _) _).trans (hB.mono (by simp)))
    have Hr := Lib.hid (HR.out.below hB (by simp))
    clear hB HO2 HR
    cases out with
    | none =>
      simp only [ipP]
      go_wp2_with (refine ip_store rfl _ _ rfl w.heap.size false (List.replicate 16 0) rfl rfl rfl 24 zip16 Hr.out rfl ?_)
      refine bodyPost_ret (v := ipP none) ?_ rfl ⟨rfl, HB.out.trans (below_setRow _ _ _ (Nat.le_refl _))⟩
      exact results_cell_slot rfl _ _ w.heap.size 24 _ _ _ rfl rfl (Blk.setRow Hr.out _) Tryd.underlying24 rfl (by kernel_rfl)
    | some x =>
      obtain ⟨v, l⟩ := x
      have Hl := Lib.hid (HBD.out v l rfl).1
      simp only [ipP]
      go_wp2_with (refine ip_store rfl _ _ rfl w.heap.size v l Hl.out rfl rfl 24 zip16 Hr.out rfl ?_)
      refine bodyPost_ret (v := ipP (some (v, l))) ?_ rfl ⟨rfl, HB.out.trans (below_setRow _ _ _ (Nat.le_refl _))⟩
      exact results_cell_slot rfl _ _ w.heap.size 24 _ _ _ rfl rfl (Blk.setRow Hr.out _) Tryd.underlying24 rfl (by simpa using ip_size v l Hl.out)
  · rw [hd] at HO
    have HO2 : Hid (out = (octs (splitS s 46 5)).map fun ds => (false, ds ++ List.replicate 12 0)) := Lib.hid HO.out
    clear HO hd
    go_wp2_with fail
    refine (rfour_is _ HE.out s hs).mono ?_
    rintro e w1 ⟨he, hB⟩
    rw [ipP_four, ← HO2.out] at he
    subst he
    have HB : Hid (Below w.heap.size w w1) := Lib.hid (((Below.refl _ _).alloc (Nat.le_refl _) _).trans (hB.mono (by simp)))
    have Hr := Lib.hid (HR.out.below hB (by simp))
    clear hB HO2 HR
    cases out with
    | none =>
      simp only [ipP]
      go_wp2_with (refine ip_store rfl _ _ rfl w.heap.size false (List.replicate 16 0) rfl rfl rfl 24 zip16 Hr.out rfl ?_)
      refine bodyPost_ret (v := ipP none) ?_ rfl ⟨rfl, HB.out.trans (below_setRow _ _ _ (Nat.le_refl _))⟩
      exact results_cell_slot rfl _ _ w.heap.size 24 _ _ _ rfl rfl (Blk.setRow Hr.out _) Tryd.underlying24 rfl (by kernel_rfl)
    | some x =>
      obtain ⟨v, l⟩ := x
      have Hl := Lib.hid (HBD.out v l rfl).1
      simp only [ipP]
      go_wp2_with (refine ip_store rfl _ _ rfl w.heap.size v l Hl.out rfl rfl 24 zip16 Hr.out rfl ?_)
      refine bodyPost_ret (v := ipP (some (v, l))) ?_ rfl ⟨rfl, HB.out.trans (below_setRow _ _ _ (Nat.le_refl _))⟩
      exact results_cell_slot rfl _ _ w.heap.size 24 _ _ _ rfl rfl (Blk.setRow Hr.out _) Tryd.underlying24 rfl (by simpa using ip_size v l Hl.out)

def ipE (o : Option (Bool × List Int)) : Value := match o with
  | some (v, l) => .tuple #[.agg (ipc v l).toArray, .int .i64 0]
  | none => .tuple #[.agg (ipc false (List.replicate 16 0)).toArray, .int .i64 4]
def PIp (w : World) (o : Option (Bool × List Int)) (e : Ending) (w' : World) : Prop := e = .returned (ipE o) ∧ Below w.heap.size w w'
set_option maxHeartbeats 1000000 in
set_option maxRecDepth 100000 in
theorem pip_is (w : World) (E : Env w) (s : ByteArray) (hs : s.size < 4294967281) : Calls Tryd.prog 13 #[.string s] w (PIp w (rdIp s)) := by
  have HE := Lib.hid (E.alloc (.cells zip16 24))
  have HR := Lib.hid (Blk.new w 24 zip16)
  have HBD := Lib.hid (fun v l => rdIp_bd (s := s) (v := v) (l := l))
  have HC := Lib.hid (rip_is (w.alloc (.cells zip16 24)) HE.out s hs)
  generalize rdIp s = out at *
  go_enter Tryd.func13, Tryd.ntmps13
  go_wp2_with fail
  refine HC.out.mono ?_
  rintro e w1 ⟨rfl, hB⟩
  have HB : Hid (Below w.heap.size w w1) := Lib.hid (((Below.refl _ _).alloc (Nat.le_refl _) _).trans (hB.mono (by simp)))
  have Hr := Lib.hid (HR.out.below hB (by simp))
  have hs1 : w.heap.size < w1.heap.size := by have := hB.size; simp at this; omega
  clear hB HR HC
  have Hn0 := Lib.hid (Blk.new w1 24 zip16)
  cases out with
  | none =>
    simp only [ipP]
    have Hr2 : Hid (Blk ((w1.alloc (.cells zip16 24)).setRow w1.heap.size (ipc false (List.replicate 16 0)).toArray) w.heap.size 24 zip16) := Lib.hid ((Hr.out.alloc _).below (below_setRow _ w1.heap.size _ (Nat.le_refl _)) hs1)
    have HB2 : Hid (Below w.heap.size w ((w1.alloc (.cells zip16 24)).setRow w1.heap.size (ipc false (List.replicate 16 0)).toArray)) := Lib.hid ((HB.out.alloc (Nat.le_of_lt hs1) _).trans (below_setRow _ _ _ (Nat.le_of_lt hs1)))
    go_wp2_with (first
      | (refine ip_store (o := ⟨none, .store _ (.tmp 4) _, _, _, _, _⟩) rfl _ _ rfl w1.heap.size false (List.replicate 16 0) rfl rfl rfl 24 zip16 Hn0.out rfl ?_)
      | (refine ip_store (o := ⟨none, .store _ (.tmp 2) _, _, _, _, _⟩) rfl _ _ rfl w.heap.size false (List.replicate 16 0) rfl rfl rfl 24 zip16 Hr2.out rfl ?_))
    refine bodyPost_ret (v := ipE none) ?_ rfl ⟨rfl, HB2.out.trans (below_setRow _ _ _ (Nat.le_refl _))⟩
    exact results_cell_slot rfl _ _ w.heap.size 24 _ _ _ rfl rfl (Blk.setRow Hr2.out _) Tryd.underlying24 rfl (by kernel_rfl)
  | some x =>
    obtain ⟨v, l⟩ := x
    have Hl := Lib.hid (HBD.out v l rfl).1
    simp only [ipP]
    have Hn2 : Hid (Blk ((w1.alloc (.cells zip16 24)).setRow w1.heap.size (ipc v l).toArray) w1.heap.size 24 (ipc v l).toArray) := Lib.hid (Blk.setRow Hn0.out _)
    have Hr2 : Hid (Blk ((w1.alloc (.cells zip16 24)).setRow w1.heap.size (ipc v l).toArray) w.heap.size 24 zip16) := Lib.hid ((Hr.out.alloc _).below (below_setRow _ w1.heap.size _ (Nat.le_refl _)) hs1)
    have HB2 : Hid (Below w.heap.size w ((w1.alloc (.cells zip16 24)).setRow w1.heap.size (ipc v l).toArray)) := Lib.hid ((HB.out.alloc (Nat.le_of_lt hs1) _).trans (below_setRow _ _ _ (Nat.le_of_lt hs1)))
    go_wp2_with (first
      | (refine ip_store (o := ⟨none, .store _ (.tmp 4) _, _, _, _, _⟩) rfl _ _ rfl w1.heap.size v l Hl.out rfl rfl 24 zip16 Hn0.out rfl ?_)
      | (refine ip_fetch rfl _ rfl w1.heap.size 0 v l Hl.out rfl Hn2.out.range ?_)
      | (refine ip_store (o := ⟨none, .store _ (.tmp 2) _, _, _, _, _⟩) rfl _ _ rfl w.heap.size v l Hl.out rfl rfl 24 zip16 Hr2.out rfl ?_))
    refine bodyPost_ret (v := ipE (some (v, l))) ?_ rfl ⟨rfl, HB2.out.trans (below_setRow _ _ _ (Nat.le_refl _))⟩
    exact results_cell_slot rfl _ _ w.heap.size 24 _ _ _ rfl rfl (Blk.setRow Hr2.out _) Tryd.underlying24 rfl (by simpa using ip_size v l Hl.out)
end Go.Proofs.YtkaimdcepnhkdaaDoor
