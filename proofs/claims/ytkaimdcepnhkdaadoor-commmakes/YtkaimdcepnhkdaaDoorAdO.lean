/-
  Layer 2 (addr): readGroup, readGroups.
-/
import Derived.Test.YtkaimdcepnhkdaaDoorAdN
namespace Go.Proofs.YtkaimdcepnhkdaaDoor
open Go.RowKit
set_option linter.unusedSimpArgs false
set_option linter.unusedVariables false

/-- Hexadecimal digits as a number. -/
def hexTo (l : List UInt8) : Option Int := l.foldlM (fun n c => (hexD (c.toNat : Int)).map (16 * n + ·)) 0
theorem hexTo_snoc (l : List UInt8) (c : UInt8) : hexTo (l ++ [c]) = (hexTo l).bind fun n => (hexD (c.toNat : Int)).map (16 * n + ·) := by
  unfold hexTo
  rw [List.foldlM_append]
  simp
theorem hexTo_bd (l : List UInt8) : ∀ (k : Nat) (n : Int), hexTo (l.take k) = some n → 0 ≤ n ∧ n < 16 ^ k
  | 0, n, h => by simp [hexTo] at h; subst h; simp
  | k + 1, n, h => by
    by_cases hk : k < l.length
    · rw [List.take_succ_eq_append_getElem hk, hexTo_snoc] at h
      simp only [Option.bind_eq_some_iff, Option.map_eq_some_iff] at h
      obtain ⟨a, ha, d, hd, rfl⟩ := h
      have h1 := hexTo_bd l k a ha
      have h2 := hexD_bd hd
      rw [Int.pow_succ]
      omega
    · rw [List.take_of_length_le (by omega)] at h
      have := hexTo_bd l k n (by rw [List.take_of_length_le (by omega)]; exact h)
      rw [Int.pow_succ]
      omega
theorem hexTo_fail (l : List UInt8) (k : Nat) (hk : k < l.length) (h : hexD (l[k].toNat : Int) = none) : hexTo l = none := by
  have e : l = l.take k ++ (l[k] :: l.drop (k + 1)) := by rw [← List.drop_eq_getElem_cons hk, List.take_append_drop]
  rw [e]
  unfold hexTo
  rw [List.foldlM_append]
  generalize (List.foldlM (fun n c => (hexD (UInt8.toNat c : Int)).map (16 * n + ·)) 0 (l.take k) : Option Int) = o
  cases o with
  | none => rfl
  | some a =>
    rw [Option.bind_eq_bind, Option.bind_some, List.foldlM_cons, h]
    rfl
def rdGroup (l : List UInt8) : Option Int := if 1 ≤ l.length ∧ l.length ≤ 4 then hexTo l else none
theorem or4 (n x : Int) (h0 : 0 ≤ n) (h1 : n < 4096) (hx0 : 0 ≤ x) (hx1 : x < 16) : bits .or .u16 (n * 16) x = 16 * n + x := by
  rw [u16_or _ _ (by omega) (by omega) (by omega) (by omega)]
  obtain ⟨m, rfl⟩ := Int.eq_ofNat_of_zero_le h0
  obtain ⟨y, rfl⟩ := Int.eq_ofNat_of_zero_le hx0
  have hy : y < 2 ^ 4 := by omega
  have e : ((m : Int) * 16).toNat = 2 ^ 4 * m := by omega
  rw [e, Int.toNat_natCast, ← Nat.two_pow_add_eq_or_of_lt hy]
  omega
def grpV (o : Option Int) : Value := .tuple #[.int .u16 (o.getD 0), .bool o.isSome]
def Grp1 (w : World) (o : Option Int) (e : Ending) (w' : World) : Prop := e = .returned (grpV o) ∧ w = w'
theorem pow16 : ∀ k, k ≤ 3 → (16 : Int) ^ k ≤ 4096 := by decide
set_option maxHeartbeats 1000000 in
theorem rgroup_is (w : World) (s : ByteArray) (hs : s.size < 4294967281) :
    Calls Tryd.prog 154 #[.string s] w (Grp1 w (rdGroup s.data.toList)) := by
  have HL := Lib.hid (str_len s)
  by_cases hlen : 1 ≤ s.size ∧ s.size ≤ 4
  · have HO : Hid (rdGroup s.data.toList = hexTo s.data.toList) := Lib.hid (by unfold rdGroup; rw [HL.out, if_pos hlen])
    obtain ⟨hl1, hl4⟩ := hlen
    go_enter Tryd.func154, Tryd.ntmps154
    go_wp2
    go_loop [4, 5, 6, 7, 18] (fun n _ _ _ i => ∃ (k : Nat) (m : Int), k ≤ s.size ∧ i = .int .i64 k ∧ n = .int .u16 m ∧ hexTo (s.data.toList.take k) = some m) (fun _ _ _ _ i => s.size - (intOf i).toNat)
    case atStart => exact ⟨0, 0, Nat.zero_le _, rfl, rfl, rfl⟩
    case round =>
      obtain ⟨k, m, hk, rfl, rfl, hm⟩ := hrel
      have hbd := hexTo_bd s.data.toList k m hm
      have HM := Lib.hid hm
      clear hm
      by_cases hlt : k < s.size
      · have hp := pow16 k (by omega)
        have HS := Lib.hid (take_snoc s k hlt)
        have HF := Lib.hid (hexTo_fail s.data.toList k (by rw [HL.out]; exact hlt))
        have HG := Lib.hid (str_get s k hlt)
        have hc256 : (s[k].toNat : Int) < 256 := by have := s[k].toNat_lt; omega
        go_wp2_with fail
        refine (hex_is w (s[k].toNat : Int) (by omega) hc256).mono ?_
        rintro e w' ⟨rfl, rfl⟩
        cases hd : hexD (s[k].toNat : Int) with
        | none =>
          have HN : Hid (rdGroup s.data.toList = none) := Lib.hid (by rw [HO.out]; exact HF.out (by rw [HG.out]; exact hd))
          clear hd HF
          simp only [hexV, Option.getD_none, Option.isSome_none]
          go_wp2
          go_ret2
          exact ⟨by rw [HN.out]; rfl, rfl⟩
        | some d =>
          have hdb := hexD_bd hd
          have HN : Hid (hexTo (s.data.toList.take (k + 1)) = some (16 * m + d)) := Lib.hid (by rw [HS.out, hexTo_snoc, HM.out, Option.bind_some, hd, Option.map_some])
          have HOr := Lib.hid (or4 m d hbd.1 (by omega) hdb.1 hdb.2)
          clear hd HF
          simp only [hexV, Option.getD_some, Option.isSome_some]
          go_wp2
          exact ⟨⟨k + 1, 16 * m + d, by omega, by go_num, by rw [HOr.out], HN.out⟩, by simp [intOf]; omega⟩
      · obtain rfl : k = s.size := by omega
        have HN : Hid (rdGroup s.data.toList = some m) := Lib.hid (by rw [HO.out, ← HM.out, ← HL.out, List.take_length])
        go_wp2
        go_ret2
        exact ⟨by rw [HN.out]; rfl, rfl⟩
  · have HN : Hid (rdGroup s.data.toList = none) := Lib.hid (by unfold rdGroup; rw [HL.out, if_neg hlen])
    rcases (show s.size < 1 ∨ 4 < s.size by omega) with h | h
    · have hd : decide ((s.size : Int) < 1) = true := decide_eq_true (by omega)
      clear hlen
      go_enter Tryd.func154, Tryd.ntmps154
      go_wp2
      go_ret2
      exact ⟨by rw [HN.out]; rfl, rfl⟩
    · have hd : decide ((s.size : Int) < 1) = false := decide_eq_false (by omega)
      have hd2 : decide ((s.size : Int) > 4) = true := decide_eq_true (by omega)
      clear hlen
      go_enter Tryd.func154, Tryd.ntmps154
      go_wp2
      go_ret2
      exact ⟨by rw [HN.out]; rfl, rfl⟩

theorem info_u16 : (Tryd.prog.info? 50).map (fun i => (i.zero, i.size, i.bytes)) = some (some (.int .u16 0), 1, 2) := by kernel_rfl
theorem u16_made (w : World) (n : Nat) (t : TypeId) : Blk (w.alloc (.cells (madeCells #[.int .u16 0] n) t)) w.heap.size t (u16s (List.replicate n 0)).toArray := by
  unfold Blk
  show (w.heap.push _)[w.heap.size]? = _
  rw [Array.getElem?_push, if_pos rfl]
  congr 2
  apply Array.ext_getElem?
  intro i
  by_cases hi : i < n <;> simp [madeCells, hi, Nat.mod_one]
theorem rdGroup_bd {l : List UInt8} {n : Int} (h : rdGroup l = some n) : 0 ≤ n ∧ n < 65536 := by
  unfold rdGroup at h
  split at h
  · rename_i hl
    have := hexTo_bd l l.length n (by rw [List.take_length]; exact h)
    have h2 : ∀ m, m ≤ 4 → (16 : Int) ^ m ≤ 65536 := by decide
    have := h2 l.length hl.2
    omega
  · cases h
/-- Groups with : between; at most nine. -/
def rdGroups (s : ByteArray) : Option (List Int) := if s.size = 0 then some [] else (splitS s 58 9).mapM (fun x => rdGroup x.data.toList)
theorem rdGroups_bd {s : ByteArray} {ds : List Int} (h : rdGroups s = some ds) : (∀ x ∈ ds, 0 ≤ x ∧ x < 65536) ∧ ds.length ≤ 9 := by
  unfold rdGroups at h
  split at h
  · cases h; exact ⟨(fun x hx => by cases hx), by simp⟩
  · have hl := splitS_len s 58 9 (by omega)
    generalize splitS s 58 9 = xs at *
    refine ⟨?_, by rw [mapM_len _ _ _ h]; exact hl⟩
    clear hl
    induction xs generalizing ds with
    | nil => simp at h; subst h; intro x hx; cases hx
    | cons y ys ih =>
      simp only [List.mapM_cons, Option.bind_eq_bind, Option.bind_eq_some_iff, Option.pure_def, Option.some.injEq] at h
      obtain ⟨a, ha, zs, hz, rfl⟩ := h
      intro x hx
      rcases List.mem_cons.1 hx with rfl | hx
      · exact rdGroup_bd ha
      · exact ih hz x hx
/-- A new slice of numbers of 16 bits (or nothing), in a block of its own. -/
def Grps (w : World) (o : Option (List Int)) (e : Ending) (w' : World) : Prop :=
  Below w.heap.size w w' ∧ match o with
  | none => e = .returned (.tuple #[.slice none 0 0, .bool false])
  | some ds => ∃ A c, e = .returned (.tuple #[.slice A ds.length c, .bool true]) ∧ R16 w' w'.heap.size A ds.length ds ∧ ds.length ≤ c
set_option maxHeartbeats 1000000 in
theorem rgroups_none (w : World) (s : ByteArray) (h : s.size = 0) : Calls Tryd.prog 134 #[.string s] w (Grps w (rdGroups s)) := by
  have HN : Hid (rdGroups s = some []) := Lib.hid (by unfold rdGroups; rw [if_pos h])
  have he : s.toList = [] := by rw [ByteArray.toList_eq]; exact List.eq_nil_of_length_eq_zero (by rw [str_len]; exact h)
  clear h
  go_enter Tryd.func134, Tryd.ntmps134
  go_wp2
  go_ret2
  exact ⟨Below.refl _ _, by rw [HN.out]; exact ⟨none, 0, rfl, ⟨rfl, (fun x h => by cases h), fun h => absurd h (by simp)⟩, by simp⟩⟩
set_option maxHeartbeats 1000000 in
set_option maxRecDepth 100000 in
theorem rgroups_go (w : World) (E : Env w) (s : ByteArray) (hs : s.size < 4294967281) (h : 0 < s.size) : Calls Tryd.prog 134 #[.string s] w (Grps w (rdGroups s)) := by
  have HO : Hid (rdGroups s = (splitS s 58 9).mapM (fun x => rdGroup x.data.toList)) := Lib.hid (by unfold rdGroups; rw [if_neg (by omega)])
  have he := toList_isEmpty s h
  have hn := toList_ne s h
  have HS := Lib.hid (splitS_size s 58 9)
  have HL := Lib.hid (splitS_len s 58 9 (by omega))
  have HBD := Lib.hid (fun ds => rdGroups_bd (s := s) (ds := ds))
  go_enter Tryd.func134, Tryd.ntmps134
  go_wp2_with fail
  refine (split_is w E s 58 9 hs (by omega) (by omega) 9 rfl).mono ?_
  rintro e w1 ⟨rfl, hst, hB1, hsz⟩
  have HB1 := Lib.hid hB1
  have HT := Lib.hid hst
  have hs1 : w.heap.size < w1.heap.size := by omega
  generalize splitS s 58 9 = xs at *
  have hl9 := HL.out
  clear hst hB1 hsz he hn h
  have hmk := run_make_row' (P := Tryd.prog) 134 50 (.int .u16 0) 2 Tryd.underlying134 info_u16 rfl .i64 .i64 xs.length (by omega) (by omega) w1
  have H0 := Lib.hid (u16_made w1 xs.length 50)
  have HT0 : Hid (Strs (w1.alloc (.cells (madeCells #[.int .u16 0] xs.length) 50)) w.heap.size xs) := Lib.hid (HT.out.below ((Below.refl _ _).alloc (Nat.le_refl _) _) hs1)
  have HB0 : Hid (Below w.heap.size w (w1.alloc (.cells (madeCells #[.int .u16 0] xs.length) 50))) := Lib.hid (HB1.out.alloc (by omega) _)
  go_wp2
  go_loopw [6, 7, 8, 9, 19] (fun _ _ _ _ i wr => ∃ (k : Nat) (ds : List Int), k ≤ xs.length ∧ i = .int .i64 k ∧ (xs.take k).mapM (fun x => rdGroup x.data.toList) = some ds ∧ Blk wr w1.heap.size 50 (u16s (ds ++ List.replicate (xs.length - k) 0)).toArray ∧ Strs wr w.heap.size xs ∧ Below w.heap.size w wr) (fun _ _ _ _ i _ => xs.length - (intOf i).toNat)
  case atStart => exact ⟨0, [], Nat.zero_le _, rfl, rfl, by simpa using H0.out, HT0.out, HB0.out⟩
  case round =>
    obtain ⟨k, ds, hk, rfl, hds, ha, hst, hB⟩ := hrel
    have hdl : ds.length = k := by have := mapM_len _ _ _ hds; simpa [Nat.min_eq_left hk] using this
    have HD := Lib.hid hds
    have HA := Lib.hid ha
    have HTt := Lib.hid hst
    have HBb := Lib.hid hB
    have HDL := Lib.hid hdl
    clear hds ha hst hB hdl
    by_cases hlt : k < xs.length
    · have hc := HTt.out k hlt
      have hxs : xs[k].size ≤ s.size := HS.out _ (List.getElem_mem hlt)
      have HSn := Lib.hid (mapM_snoc (fun x => rdGroup x.data.toList) xs k hlt ds)
      have HFa := Lib.hid (mapM_fail (fun x : ByteArray => rdGroup x.data.toList) xs k hlt)
      generalize xs[k] = x at *
      go_wp2_with fail
      refine (rgroup_is wr x (by omega)).mono ?_
      rintro e w' ⟨rfl, rfl⟩
      cases hd : rdGroup x.data.toList with
      | none =>
        have HN : Hid (rdGroups s = none) := Lib.hid (by rw [HO.out]; exact HFa.out hd)
        clear hd
        simp only [grpV, Option.getD_none, Option.isSome_none]
        go_wp2
        go_ret2
        exact ⟨HBb.out, by rw [HN.out]; rfl⟩
      | some d =>
        have HS2 := Lib.hid (HSn.out d HD.out hd)
        have hA := HA.out
        rw [show xs.length - k = xs.length - (k + 1) + 1 by omega, List.replicate_succ] at hA
        have hcell := hA.cell k
        rw [u16s_get ds _ _ k HDL.out] at hcell
        have hfz := hA.frozen k
        have hset := hA.set_ k (.int .u16 d)
        rw [u16s_set ds _ _ _ k HDL.out, show ds ++ d :: List.replicate (xs.length - (k + 1)) 0 = (ds ++ [d]) ++ List.replicate (xs.length - (k + 1)) 0 by simp] at hset
        have HSet := Lib.hid hset
        have HT2 : Hid (Strs (wr.setCell ⟨w1.heap.size, k, none⟩ (.int .u16 d)) w.heap.size xs) := Lib.hid (HTt.out.below ((Below.refl (w.heap.size + 1) wr).setCell (p := ⟨w1.heap.size, k, none⟩) (show w.heap.size + 1 ≤ w1.heap.size by omega) _) (by omega))
        have HB2 := Lib.hid (HBb.out.setCell (p := ⟨w1.heap.size, k, none⟩) (show w.heap.size ≤ w1.heap.size by omega) (.int .u16 d))
        clear hd hset hA
        simp only [grpV, Option.getD_some, Option.isSome_some]
        go_wp2
        refine ⟨⟨k + 1, ds ++ [d], by omega, by go_num, HS2.out, HSet.out, HT2.out, HB2.out⟩, by simp [intOf]; omega⟩
    · obtain rfl : k = xs.length := by omega
      have hds := HD.out
      rw [List.take_length] at hds
      have HM : Hid (rdGroups s = some ds) := Lib.hid (by rw [HO.out]; exact hds)
      have hA := HA.out
      rw [Nat.sub_self, List.replicate_zero, List.append_nil] at hA
      have HR : Hid (R16 wr wr.heap.size (some ⟨w1.heap.size, 0, none⟩) ds.length ds) := Lib.hid (⟨rfl, (HBD.out ds HM.out).1, fun hn => ⟨_, _, rfl, hA.lt, fun i hi => by
        rw [Nat.zero_add, hA.cell]
        simp [List.getD, hi]⟩⟩)
      clear hds hA
      go_wp2
      go_ret2
      refine ⟨HBb.out, ?_⟩
      rw [HM.out]
      exact ⟨some ⟨w1.heap.size, 0, none⟩, xs.length, by rw [HDL.out]; rfl, HR.out, by rw [HDL.out]; exact Nat.le_refl _⟩

theorem rgroups_is (w : World) (E : Env w) (s : ByteArray) (hs : s.size < 4294967281) : Calls Tryd.prog 134 #[.string s] w (Grps w (rdGroups s)) := by
  rcases Nat.eq_zero_or_pos s.size with h | h
  · exact rgroups_none w s h
  · exact rgroups_go w E s hs h
end Go.Proofs.YtkaimdcepnhkdaaDoor
