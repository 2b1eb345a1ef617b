/-
  Layer 2 (addr): readSix.
-/
import Derived.Test.YtkaimdcepnhkdaaDoorAdP
namespace Go.Proofs.YtkaimdcepnhkdaaDoor
open Go.RowKit
set_option linter.unusedSimpArgs false
set_option linter.unusedVariables false

/-- What is ahead of the first sep, what is behind it, and whether it is there. -/
def cutS (s : ByteArray) (sep : List UInt8) : ByteArray × ByteArray × Bool := (⟨(Lib.cut s.data.toList sep).1.toArray⟩, ⟨(Lib.cut s.data.toList sep).2.1.toArray⟩, (Lib.cut s.data.toList sep).2.2)
theorem cut_len (l sep : List UInt8) : (Lib.cut l sep).1.length ≤ l.length ∧ (Lib.cut l sep).2.1.length ≤ l.length := by
  unfold Lib.cut
  split
  · simp; omega
  · simp
theorem cutS_size (s : ByteArray) (sep : List UInt8) : (cutS s sep).1.size ≤ s.size ∧ (cutS s sep).2.1.size ≤ s.size := by
  have h := cut_len s.data.toList sep
  rw [Array.length_toList] at h
  unfold cutS
  constructor
  · show (Lib.cut s.data.toList sep).1.toArray.size ≤ s.data.size
    rw [List.size_toArray]; exact h.1
  · show (Lib.cut s.data.toList sep).2.1.toArray.size ≤ s.data.size
    rw [List.size_toArray]; exact h.2
theorem cut_call (w : World) (E : Env w) (s sep : ByteArray) (hs : s.size < 4294967281) :
    Calls Tryd.prog 82 #[.string s, .string sep] w fun e w' => e = .returned (.tuple #[.string (cutS s sep.data.toList).1, .string (cutS s sep.data.toList).2.1, .bool (cutS s sep.data.toList).2.2]) ∧ Below w.heap.size w w' ∧ w'.heap.size = w.heap.size := by
  obtain ⟨mx, hmx⟩ := E.mx
  refine (Tryd.strings_Cut s sep mx w hs hmx).mono ?_
  rintro e w' ⟨rfl, n, rfl⟩
  exact ⟨rfl, below_drewN (Below.refl _ _) n, rfl⟩

def ipR (v : Bool) (o : Option (List Int)) : Value := match o with
  | some l => .tuple #[.agg (ipc v l).toArray, .bool true]
  | none => .tuple #[.agg (ipc false (List.replicate 16 0)).toArray, .bool false]
theorem ipOf_eq (o : Option (List Int)) : ipOf o = ipR false (o.map (· ++ List.replicate 12 0)) := by cases o <;> rfl
def six2 (short : Bool) (a b : Option (List Int)) : Option (List Int) := match a, b with
  | some a, some b => if (if short then decide (((a.length : Int) + (b.length : Int)) < 8) else decide ((a.length : Int) + (b.length : Int) = 8)) then some (ungrp (a ++ List.replicate (8 - (a.length + b.length)) 0 ++ b)) else none
  | _, _ => none
theorem six2_some (sh : Bool) (a b : List Int) : six2 sh (some a) (some b) = if (if sh then decide (((a.length : Int) + (b.length : Int)) < 8) else decide ((a.length : Int) + (b.length : Int) = 8)) then some (ungrp (a ++ List.replicate (8 - (a.length + b.length)) 0 ++ b)) else none := rfl
theorem splice_a (a : List Int) (h : a.length ≤ 8) : splice (u16s (List.replicate 8 0)) 0 (u16s a) = u16s (a ++ List.replicate (8 - a.length) 0) := by
  unfold splice
  rw [List.take_zero, List.nil_append, Nat.zero_add, u16s, u16s, u16s, List.length_map, ← List.map_drop, List.drop_replicate, List.map_append]
theorem splice_b (a b : List Int) (h : a.length + b.length ≤ 8) : splice (u16s (a ++ List.replicate (8 - a.length) 0)) (8 - b.length) (u16s b) = u16s (a ++ List.replicate (8 - (a.length + b.length)) 0 ++ b) := by
  have e : 8 - a.length = (8 - (a.length + b.length)) + b.length := by omega
  have hl : (u16s (a ++ List.replicate (8 - (a.length + b.length)) 0)).length = 8 - b.length := by simp; omega
  have h2 : u16s (a ++ List.replicate (8 - a.length) 0) = u16s (a ++ List.replicate (8 - (a.length + b.length)) 0) ++ u16s (List.replicate b.length 0) := by
    rw [e, ← List.replicate_append_replicate, ← List.append_assoc, u16s, List.map_append]
  rw [h2]
  unfold splice
  rw [← hl, List.take_left, ← List.drop_drop, List.drop_left, List.drop_of_length_le (by simp), List.append_nil, u16s, u16s, u16s, ← List.map_append]
theorem run_copy_ex {P : Program} (w : World) (dT sT ty elem : TypeId) (hu : P.underlying dT = some (.slice elem)) (hsz : (P.info? elem).map (·.size) = some 1) (dp sp : Option Addr) (dLen dCap sLen sCap : Nat)
    (g off : Nat) (cur : List Value) (t : TypeId) (hg : w.heap[g]? = some (.cells cur.toArray t (0, 0))) (cs : List Value) (hn : cs.length = Nat.min sLen dLen)
    (hpos : 0 < cs.length → dp = some ⟨g, off, none⟩ ∧ ∃ ad, sp = some ad ∧ ∀ j v, cs[j]? = some v → w.cell? (ad.add j) = some v)
    (hfit : off + cs.length ≤ cur.length) (h1 : ∀ v ∈ cs, v.oneCell' = true) (B : Nat) (w0 : World) (hb : Below B w0 w) (hBg : B ≤ g) :
    ∃ w', (Builtin.copy_ #[dT, sT] ty #[.slice dp dLen dCap, .slice sp sLen sCap]).run P w = .ok (.int .i64 cs.length) w' ∧ w'.heap[g]? = some (.cells (splice cur off cs).toArray t (0, 0)) ∧ Below B w0 w' := by
  by_cases h0 : cs.length = 0
  · obtain rfl : cs = [] := List.eq_nil_of_length_eq_zero h0
    refine ⟨w, run_copy_none (P := P) w dT sT ty elem dp sp dLen dCap sLen sCap hu hsz (by simpa using hn.symm), ?_, hb⟩
    simpa [splice] using hg
  · obtain ⟨rfl, ad, rfl, hsrc⟩ := hpos (by omega)
    refine ⟨_, run_copy_row (P := P) w dT sT ty elem g off dLen dCap ad sLen sCap cur.toArray t cs hu hsz hg hn hsrc (by simpa using hfit) h1, ?_, hb.trans (below_setRow _ _ _ hBg)⟩
    rw [setRow_heap w g _ _ t _ hg]
    simp [splice]
theorem src16 {w W : World} {A : Option Addr} {a : List Int} (h : R16 w w.heap.size A a.length a) (hB : Below w.heap.size w W) (dp : Option Addr) (x : Addr) (hx : 0 < a.length → dp = some x) :
    0 < (u16s a).length → dp = some x ∧ ∃ ad, A = some ad ∧ ∀ j v, (u16s a)[j]? = some v → W.cell? (ad.add j) = some v := fun hp => by
  have hp' : 0 < a.length := by simpa using hp
  refine ⟨hx hp', ?_⟩
  obtain ⟨bk, off, rfl, hb, hc⟩ := h.at_ hp'
  refine ⟨_, rfl, fun j v hv => ?_⟩
  have hj : j < a.length := by have := (List.getElem?_eq_some_iff.1 hv).1; simpa using this
  rw [Lib.add_plain, hB.cell (p := ⟨bk, off + j, none⟩) hb, hc j hj, ← hv]
  simp [List.getD, hj]
def rdSix (s : ByteArray) : Option (List Int) := six2 (cutS s [58, 58]).2.2 (rdGroups (cutS s [58, 58]).1) (rdGroups (cutS s [58, 58]).2.1)
def ReadR (w : World) (v : Bool) (o : Option (List Int)) (e : Ending) (w' : World) : Prop := e = .returned (ipR v o) ∧ Below w.heap.size w w'

set_option maxHeartbeats 1000000 in
set_option maxRecDepth 100000 in
theorem rsix_is (w : World) (E : Env w) (s : ByteArray) (hs : s.size < 4294967281) :
    Calls Tryd.prog 115 #[.string s] w (ReadR w true (rdSix s)) := by
  have HE := Lib.hid (E.alloc (.cells zip16 24))
  have HS := Lib.hid (cutS_size s [58, 58])
  have HO : Hid (rdSix s = six2 (cutS s [58, 58]).2.2 (rdGroups (cutS s [58, 58]).1) (rdGroups (cutS s [58, 58]).2.1)) := Lib.hid rfl
  generalize hX : rdSix s = out at *
  clear hX
  go_enter Tryd.func115, Tryd.ntmps115
  go_wp2_with fail
  refine (cut_call _ HE.out s ⟨#[58, 58]⟩ hs).mono ?_
  rintro e w1 ⟨rfl, hB1, hsz⟩
  rw [show (w.alloc (.cells zip16 24)).heap.size = w.heap.size + 1 by simp] at *
  have HE1 := Lib.hid (HE.out.below (by rw [show (w.alloc (.cells zip16 24)).heap.size = w.heap.size + 1 by simp]; exact hB1))
  have HB1 : Hid (Below w.heap.size w w1) := Lib.hid (((Below.refl w.heap.size w).alloc (Nat.le_refl _) _).trans (hB1.mono (by omega)))
  have Hr := Lib.hid ((Blk.new w 24 zip16).below hB1 (by omega))
  have hs1 : w.heap.size < w1.heap.size := by omega
  clear hB1 hsz HE
  generalize cutS s [58, 58] = c at *
  obtain ⟨hd, tl, sh⟩ := c
  simp only at HS HO
  have hhd : hd.size < 4294967281 := by have := HS.out.1; omega
  have htl : tl.size < 4294967281 := by have := HS.out.2; omega
  go_wp2_with fail
  refine (rgroups_is w1 HE1.out hd hhd).mono ?_
  rintro e w2 ⟨hB2, he⟩
  have HE2 := Lib.hid (HE1.out.below hB2)
  have HB2 := Lib.hid (HB1.out.trans (hB2.mono HB1.out.size))
  have Hr2 := Lib.hid (Hr.out.below hB2 hs1)
  have hs2 : w.heap.size < w2.heap.size := Nat.lt_of_lt_of_le hs1 hB2.size
  clear hB2
  have HBa := Lib.hid (fun ds => rdGroups_bd (s := hd) (ds := ds))
  have HBt := Lib.hid (fun ds => rdGroups_bd (s := tl) (ds := ds))
  cases ha : rdGroups hd with
  | none =>
    rw [ha] at he
    subst he
    have HN : Hid (out = none) := Lib.hid (by rw [HO.out, ha]; rfl)
    clear ha HO
    go_wp2_with fail
    refine (rgroups_is w2 HE2.out tl htl).mono ?_
    rintro e w3 ⟨hB3, he⟩
    have HB3 := Lib.hid (HB2.out.trans (hB3.mono HB2.out.size))
    have Hr3 := Lib.hid (Hr2.out.below hB3 hs2)
    have hex : ∃ x y, e = .returned (.tuple #[x, y]) := by
      cases hb : rdGroups tl with
      | none => rw [hb] at he; exact ⟨_, _, he⟩
      | some b => rw [hb] at he; obtain ⟨A, c, h, _⟩ := he; exact ⟨_, _, h⟩
    clear he hB3
    obtain ⟨x, y, rfl⟩ := hex
    go_wp2_with (refine ip_store rfl _ _ rfl w.heap.size false (List.replicate 16 0) rfl rfl rfl 24 zip16 Hr3.out rfl ?_)
    refine bodyPost_ret (v := ipR true none) ?_ rfl ⟨by rw [HN.out], HB3.out.trans (below_setRow _ _ _ (Nat.le_refl _))⟩
    exact results_cell_slot rfl _ _ w.heap.size 24 _ _ _ rfl rfl (Blk.setRow Hr3.out _) Tryd.underlying24 rfl (by kernel_rfl)
  | some a =>
    rw [ha] at he
    obtain ⟨A, ca, rfl, hra, hca⟩ := he
    have hba := HBa.out a ha
    have HO2 : Hid (out = six2 sh (some a) (rdGroups tl)) := Lib.hid (by rw [HO.out, ha])
    have HRa := Lib.hid hra
    clear ha HO hra
    go_wp2_with fail
    refine (rgroups_is w2 HE2.out tl htl).mono ?_
    rintro e w3 ⟨hB3, he⟩
    have HB3 := Lib.hid (HB2.out.trans (hB3.mono HB2.out.size))
    have Hr3 := Lib.hid (Hr2.out.below hB3 hs2)
    have hs3 : w.heap.size < w3.heap.size := Nat.lt_of_lt_of_le hs2 hB3.size
    have HRa3 : Hid (R16 w3 w3.heap.size A a.length a) := Lib.hid ⟨HRa.out.len, HRa.out.bd, fun hn => by
      obtain ⟨b, off, e, hb, hc⟩ := HRa.out.at_ hn
      exact ⟨b, off, e, Nat.lt_of_lt_of_le hb hB3.size, fun i hi => (hB3.cell (p := ⟨b, off + i, none⟩) hb).trans (hc i hi)⟩⟩
    clear hB3 HRa
    cases hb : rdGroups tl with
    | none =>
      rw [hb] at he
      subst he
      have HN : Hid (out = none) := Lib.hid (by rw [HO2.out, hb]; rfl)
      clear hb HO2
      go_wp2_with (refine ip_store rfl _ _ rfl w.heap.size false (List.replicate 16 0) rfl rfl rfl 24 zip16 Hr3.out rfl ?_)
      refine bodyPost_ret (v := ipR true none) ?_ rfl ⟨by rw [HN.out], HB3.out.trans (below_setRow _ _ _ (Nat.le_refl _))⟩
      exact results_cell_slot rfl _ _ w.heap.size 24 _ _ _ rfl rfl (Blk.setRow Hr3.out _) Tryd.underlying24 rfl (by kernel_rfl)
    | some b =>
      rw [hb] at he
      obtain ⟨Ab, cb, rfl, hrb, hcb⟩ := he
      have hbb := HBt.out b hb
      have HO3 : Hid (out = six2 sh (some a) (some b)) := Lib.hid (by rw [HO2.out, hb])
      have HRb := Lib.hid hrb
      have hla := hba.2
      have hlb := hbb.2
      have HBa2 := Lib.hid hba.1
      have HBb2 := Lib.hid hbb.1
      clear hb HO2 hrb hba hbb HBa HBt
      go_wp2_with fail
      refine (fill_is w3 ((a.length : Int) + (b.length : Int)) sh).mono ?_
      rintro e w' ⟨rfl, rfl⟩
      cases hf : (if sh then decide (((a.length : Int) + (b.length : Int)) < 8) else decide ((a.length : Int) + (b.length : Int) = 8))
      · have HN : Hid (out = none) := Lib.hid (by rw [HO3.out, six2_some, hf]; rfl)
        clear hf HO3
        go_wp2_with (refine ip_store rfl _ _ rfl w.heap.size false (List.replicate 16 0) rfl rfl rfl 24 zip16 Hr3.out rfl ?_)
        refine bodyPost_ret (v := ipR true none) ?_ rfl ⟨by rw [HN.out], HB3.out.trans (below_setRow _ _ _ (Nat.le_refl _))⟩
        exact results_cell_slot rfl _ _ w.heap.size 24 _ _ _ rfl rfl (Blk.setRow Hr3.out _) Tryd.underlying24 rfl (by kernel_rfl)
      · have hab : a.length + b.length ≤ 8 := by
          cases sh
          · simp at hf; omega
          · simp at hf; omega
        have HN : Hid (out = some (ungrp (a ++ List.replicate (8 - (a.length + b.length)) 0 ++ b))) := Lib.hid (by rw [HO3.out, six2_some, hf]; rfl)
        clear hf HO3
        have Hg0 : Hid ((w3.alloc (.cells zg 130)).heap[w3.heap.size]? = some (.cells (u16s (List.replicate 8 0)).toArray 130 (0, 0))) := Lib.hid (Blk.new w3 130 zg)
        have HB0 : Hid (Below w3.heap.size w3 (w3.alloc (.cells zg 130))) := Lib.hid ((Below.refl _ _).alloc (Nat.le_refl _) _)
        have Hs1 := Lib.hid (splice_a a (by omega))
        have Hn1 : Hid ((u16s a).length = Nat.min a.length 8) := Lib.hid (by rw [List.length_map]; exact (Nat.min_eq_left (by omega)).symm)
        have Hn2 : Hid ((u16s b).length = Nat.min b.length b.length) := Lib.hid (by rw [List.length_map]; exact (Nat.min_self _).symm)
        have Hf1 : Hid (0 + (u16s a).length ≤ (u16s (List.replicate 8 0)).length) := Lib.hid (by rw [List.length_map, List.length_map, List.length_replicate]; omega)
        have Hf2 : Hid (8 - b.length + (u16s b).length ≤ (u16s (a ++ List.replicate (8 - a.length) 0)).length) := Lib.hid (by rw [List.length_map, List.length_map, List.length_append, List.length_replicate]; omega)
        have Hs2 := Lib.hid (splice_b a b hab)
        obtain ⟨At, hAt, hslt⟩ := slice_arr_tail (P := Tryd.prog) (t := 130) (e := 50) (n := 8) Tryd.underlying130 (by kernel_rfl) w3.heap.size 0 (8 - b.length) (by omega) ((8 : Int) - (b.length : Int)) (by omega)
        rw [Nat.zero_add, show 8 - (8 - b.length) = b.length by omega] at hAt
        rw [show 8 - (8 - b.length) = b.length by omega] at hslt
        obtain ⟨w4, hcp1, hg4, hB4⟩ := run_copy_ex (P := Tryd.prog) (w3.alloc (.cells zg 130)) 134 134 3 50 Tryd.underlying134 (by kernel_rfl) (some ⟨w3.heap.size, 0, none⟩) A 8 8 a.length ca w3.heap.size 0 (u16s (List.replicate 8 0)) 130 Hg0.out (u16s a) Hn1.out (src16 HRa3.out HB0.out _ _ (fun _ => rfl)) Hf1.out (u16_one a) w3.heap.size w3 HB0.out (Nat.le_refl _)
        rw [splice_a a (by omega)] at hg4
        obtain ⟨w5, hcp2, hg5, hB5⟩ := run_copy_ex (P := Tryd.prog) w4 134 134 3 50 Tryd.underlying134 (by kernel_rfl) At Ab b.length b.length b.length cb w3.heap.size (8 - b.length) (u16s (a ++ List.replicate (8 - a.length) 0)) 130 hg4 (u16s b) Hn2.out (src16 HRb.out hB4 _ _ hAt) Hf2.out (u16_one b) w3.heap.size w3 hB4 (Nat.le_refl _)
        rw [splice_b a b hab] at hg5
        have Hg5 : Hid (Blk w5 w3.heap.size 130 (u16s (a ++ List.replicate (8 - (a.length + b.length)) 0 ++ b)).toArray) := Lib.hid hg5
        have HB5 := Lib.hid hB5
        have Hr5 := Lib.hid (Hr3.out.below hB5 hs3)
        have HB05 := Lib.hid (HB3.out.trans (hB5.mono (Nat.le_of_lt hs3)))
        have Hgl : Hid ((a ++ List.replicate (8 - (a.length + b.length)) 0 ++ b).length = 8) := Lib.hid (by simp; omega)
        have Hgb : Hid (∀ x ∈ a ++ List.replicate (8 - (a.length + b.length)) 0 ++ b, 0 ≤ x ∧ x < 65536) := Lib.hid (by
          intro x hx
          rcases List.mem_append.1 hx with hx | hx
          · rcases List.mem_append.1 hx with hx | hx
            · exact HBa2.out x hx
            · have := (List.mem_replicate.1 hx).2; omega
          · exact HBb2.out x hx)
        have hs5 : w.heap.size < w5.heap.size := Nat.lt_of_lt_of_le hs3 hB5.size
        clear hAt hg4 hB4 hg5 hB5 Hs1 Hs2 Hn1 Hn2 Hf1 Hf2 Hg0 HB0
        generalize a ++ List.replicate (8 - (a.length + b.length)) 0 ++ b = gs at *
        go_wp2_with (refine grp_fetch rfl _ rfl w3.heap.size gs Hgl.out rfl Hg5.out.range ?_)
        refine (gip_is w5 gs Hgl.out Hgb.out).mono ?_
        rintro e w6 ⟨rfl, hB6⟩
        have Hr6 := Lib.hid (Hr5.out.below hB6 hs5)
        have HB06 := Lib.hid (HB05.out.trans (hB6.mono (Nat.le_of_lt hs5)))
        have Hul := Lib.hid (show (ungrp gs).length = 16 by rw [ungrp_len, Hgl.out])
        clear hB6
        go_wp2_with (refine ip_store rfl _ _ rfl w.heap.size true (ungrp gs) Hul.out rfl rfl 24 zip16 Hr6.out rfl ?_)
        refine bodyPost_ret (v := ipR true (some (ungrp gs))) ?_ rfl ⟨by rw [HN.out], HB06.out.trans (below_setRow _ _ _ (Nat.le_refl _))⟩
        exact results_cell_slot rfl _ _ w.heap.size 24 _ _ _ rfl rfl (Blk.setRow Hr6.out _) Tryd.underlying24 rfl (by simpa using ip_size true _ Hul.out)
end Go.Proofs.YtkaimdcepnhkdaaDoor
