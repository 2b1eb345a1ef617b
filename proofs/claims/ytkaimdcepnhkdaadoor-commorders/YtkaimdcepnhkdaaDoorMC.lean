/-
  Put together: AdL AdN AdO AdP AdQ AdR.
-/
import Derived.Test.YtkaimdcepnhkdaaDoorMB
import Derived.Test.YtkaimdcepnhkdaaDoorMA
namespace Go.Proofs.YtkaimdcepnhkdaaDoor
open Go.RowKit
set_option linter.unusedSimpArgs false
set_option linter.unusedVariables false

theorem fourS_size (l : List Int) (ho : Oct l) : (fourS l).size ≤ l.length * 21 := by
  have := joinS_size (l.map decS) [46] 20 (by
    intro x hx
    obtain ⟨y, hy, rfl⟩ := List.mem_map.1 hx
    have := ho y hy
    exact decS_size y this.1 (by omega))
  simpa [fourS] using this
theorem ba_size_append (a b : ByteArray) : (a ++ b).size = a.size + b.size := ByteArray.size_append
theorem sixS_size (l : List Int) : (sixS l).size ≤ 1000 := by
  unfold sixS
  have hl := grp_len l
  split
  · have := groupsS_size (grp l); omega
  · rw [ba_size_append, ba_size_append]
    have h1 := groupsS_size ((grp l).take (lzTo (grp l) 8).1)
    have h2 := groupsS_size ((grp l).drop ((lzTo (grp l) 8).1 + (lzTo (grp l) 8).2))
    have h3 : ((grp l).take (lzTo (grp l) 8).1).length ≤ 8 := by rw [List.length_take]; omega
    have h4 : ((grp l).drop ((lzTo (grp l) 8).1 + (lzTo (grp l) 8).2)).length ≤ 8 := by rw [List.length_drop]; omega
    have h5 : (⟨#[58, 58]⟩ : ByteArray).size = 2 := rfl
    omega
theorem ipS_size (v : Bool) (l : List Int) (hl : l.length = 16) (ho : Oct l) : (ipS v l).size ≤ 1000 := by
  unfold ipS
  split
  · exact sixS_size l
  · have := fourS_size (l.take 4) (fun x hx => ho x (List.mem_of_mem_take hx))
    rw [List.length_take] at this
    omega
def pfS (v : Bool) (l : List Int) (n : Int) : ByteArray := ipS v l ++ ⟨#[47]⟩ ++ decS n
def PfT (w : World) (v : Bool) (l : List Int) (n : Int) (e : Ending) (w' : World) : Prop :=
  Below w.heap.size w w' ∧ e = .returned (if rightPfB v l n then .tuple #[.string (pfS v l n), .int .i64 0] else .tuple #[.string ⟨#[]⟩, .int .i64 2])
theorem rightPf_bd {v : Bool} {l : List Int} {n : Int} (h : rightPfB v l n = true) : rightB v l = true ∧ 0 ≤ n ∧ n ≤ 128 := by
  unfold rightPfB hasB cutB at h
  simp only [Bool.and_eq_true, decide_eq_true_eq] at h
  refine ⟨h.1.1, h.1.2.1, ?_⟩
  have := h.1.2.2
  unfold bitsOf at this
  split at this <;> omega
set_option maxHeartbeats 1000000 in
set_option maxRecDepth 100000 in
theorem pftext_is (w : World) (E : Env w) (v : Bool) (l : List Int) (n : Int) (hl : l.length = 16) (ho : Oct l) (hn : I64 n) :
    Calls Tryd.prog 28 #[.agg (pfc v l n).toArray] w (PfT w v l n) := by
  have hr0 := range_new w 40 (pfc v l n)
  have HR := Lib.hid hr0
  clear hr0
  go_enter Tryd.func28, Tryd.ntmps28
  go_wp2_with (refine pf_fetch rfl _ rfl w.heap.size v l n hl rfl HR.out ?_)
  refine (rpf_is _ v l n hl ho hn).mono ?_
  rintro e w1 ⟨rfl, hB1⟩
  have HB1 : Hid (Below w.heap.size w w1) := Lib.hid (((Below.refl w.heap.size w).alloc (Nat.le_refl _) _).trans (hB1.mono (by simp)))
  have hs1 : w.heap.size < w1.heap.size := by have := hB1.size; simp at this; omega
  have HR1 := Lib.hid (range_below HR.out hB1 (by simp))
  have HE := Lib.hid (E.below HB1.out)
  clear hB1 HR
  cases hrt : rightPfB v l n
  · have HC := Lib.hid hrt
    clear hrt
    go_wp2
    go_ret2
    exact ⟨HB1.out, by rw [HC.out]; rfl⟩
  · have HC := Lib.hid hrt
    obtain ⟨hright, hn0, hn128⟩ := rightPf_bd hrt
    have HRi := Lib.hid hright
    clear hrt hright
    have Ha := Lib.hid (range_pre (cs := ipc v l) (ds := [Value.int .i64 n]) HR1.out)
    go_wp2_with (refine ip_fetch rfl _ rfl w.heap.size 0 v l hl rfl Ha.out ?_)
    refine (iptext_is w1 HE.out v l hl ho).mono ?_
    rintro e w2 ⟨hB2, he⟩
    rw [HRi.out] at he
    subst he
    have HB2 := Lib.hid (HB1.out.trans (hB2.mono HB1.out.size))
    have HR2 := Lib.hid (range_below HR1.out hB2 hs1)
    have hc2 := (range_post (cs := ipc v l) (ds := [Value.int .i64 n]) HR2.out) 0 _ rfl
    rw [show 0 + (ipc v l).length + 0 = 17 by simp [hl]] at hc2
    have HE2 := Lib.hid (E.below HB2.out)
    have hz1 : ¬ 9223372036854775807 < (ipS v l).size + 1 := by have := ipS_size v l hl ho; omega
    have hz2 : ¬ 9223372036854775807 < (ipS v l).size + 1 + (decS n).size := by have := ipS_size v l hl ho; have := decS_size n hn0 (by omega); omega
    have HP : Hid (pfS v l n = ipS v l ++ ⟨#[47]⟩ ++ decS n) := Lib.hid rfl
    have hw64 : IntKind.u64.wrap n = n := by rw [IntKind.wrap_u64]; exact Int.emod_eq_of_lt hn0 (by omega)
    clear hB2 HR1
    generalize ipS v l = s at *
    go_wp2_with fail
    refine (dec_is w2 HE2.out n hn0 (by omega)).mono ?_
    rintro e w3 ⟨rfl, hB3⟩
    have HB3 := Lib.hid (HB2.out.trans (hB3.mono HB2.out.size))
    clear hB3
    generalize decS n = d at *
    go_wp2
    go_ret2
    exact ⟨HB3.out, by rw [HC.out, HP.out]; rfl⟩
end Go.Proofs.YtkaimdcepnhkdaaDoor
namespace Go.Proofs.YtkaimdcepnhkdaaDoor
open Go.RowKit
set_option linter.unusedSimpArgs false
set_option linter.unusedVariables false

/-- s, parted at each c, into n parts at most. -/
def splitS (s : ByteArray) (c : UInt8) (n : Nat) : List ByteArray := Lib.splitB ⟨#[c]⟩ 0 (min n (s.size + 1) - 1) s
theorem splitB_size (sep : ByteArray) : ∀ (k : Nat) (s x : ByteArray), x ∈ Lib.splitB sep 0 k s → x.size ≤ s.size
  | 0, s, x, h => by rw [Lib.splitB_zero] at h; simp at h; rw [h]; exact Nat.le_refl _
  | k + 1, s, x, h => by
    unfold Lib.splitB at h
    split at h
    · simp at h; rw [h]; exact Nat.le_refl _
    · rcases List.mem_cons.1 h with rfl | h
      · rw [ByteArray.size_extract]; omega
      · have := splitB_size sep k _ x h
        rw [ByteArray.size_extract] at this
        omega
theorem splitS_size (s : ByteArray) (c : UInt8) (n : Nat) : ∀ x ∈ splitS s c n, x.size ≤ s.size := fun x hx => splitB_size _ _ _ x hx
theorem splitS_len (s : ByteArray) (c : UInt8) (n : Nat) (hn : 1 ≤ n) : (splitS s c n).length ≤ n := by
  have := Lib.splitB_length_le ⟨#[c]⟩ 0 (min n (s.size + 1) - 1) s
  unfold splitS
  omega
/-- The cells hold the strings xs. -/
def Strs (w : World) (g : Nat) (xs : List ByteArray) : Prop := ∀ i (h : i < xs.length), w.cell? ⟨g, i, none⟩ = some (.string xs[i])
theorem Strs.below {w w' : World} {g B : Nat} {xs : List ByteArray} (h : Strs w g xs) (hB : Below B w w') (hg : g < B) : Strs w' g xs := fun i hi => (hB.cell (p := ⟨g, i, none⟩) hg).trans (h i hi)
theorem split_is (w : World) (E : Env w) (s : ByteArray) (c : UInt8) (n : Nat) (hs : s.size < 4294967281) (h1 : 1 ≤ n) (h2 : n ≤ 9223372036854775807) (m : Int) (hm : m = n) :
    Calls Tryd.prog 133 #[.string s, .string ⟨#[c]⟩, .int .i64 m] w fun e w' => e = .returned (.slice (some ⟨w.heap.size, 0, none⟩) (splitS s c n).length (min n (s.size + 1))) ∧ Strs w' w.heap.size (splitS s c n) ∧ Below w.heap.size w w' ∧ w'.heap.size = w.heap.size + 1 := by
  subst hm
  obtain ⟨mx, hmx⟩ := E.mx
  refine (Tryd.strings_SplitN s ⟨#[c]⟩ n mx w hs hmx (by show 1 ≤ (#[c] : Array UInt8).size; simp) h1 h2).mono ?_
  rintro e w' ⟨rfl, rfl⟩
  refine ⟨rfl, fun i hi => ?_, (Below.refl _ _).alloc (Nat.le_refl _) _, by simp⟩
  rw [World.cell?_alloc_new]
  have hi' : i < (Lib.splitB ⟨#[c]⟩ 0 (min n (s.size + 1) - 1) s).length := hi
  simp [Lib.cellsOf, List.getElem?_append_left, hi']
  rfl

/-- Four numbers. -/
def octs (xs : List ByteArray) : Option (List Int) := if xs.length = 4 then xs.mapM (fun x => digits x.data.toList 255) else none
def ipOf (o : Option (List Int)) : Value := match o with
  | some ds => .tuple #[.agg (ipc false (ds ++ List.replicate 12 0)).toArray, .bool true]
  | none => .tuple #[.agg (ipc false (List.replicate 16 0)).toArray, .bool false]
theorem mapM_snoc {α β : Type} (f : α → Option β) (xs : List α) (k : Nat) (hk : k < xs.length) (ds : List β) (d : β) (h : (xs.take k).mapM f = some ds) (hd : f xs[k] = some d) : (xs.take (k + 1)).mapM f = some (ds ++ [d]) := by
  rw [List.take_succ_eq_append_getElem hk, List.mapM_append, h]
  simp [hd]
theorem mapM_fail {α β : Type} (f : α → Option β) : ∀ (xs : List α) (k : Nat) (hk : k < xs.length), f xs[k] = none → xs.mapM f = none
  | x :: xs, 0, _, h => by simp at h; simp [List.mapM_cons, h]
  | x :: xs, k + 1, hk, h => by
    have := mapM_fail f xs k (by simpa using hk) (by simpa using h)
    simp [List.mapM_cons, this]
theorem mapM_len {α β : Type} (f : α → Option β) : ∀ (xs : List α) (ds : List β), xs.mapM f = some ds → ds.length = xs.length
  | [], ds, h => by simp at h; simp [← h]
  | x :: xs, ds, h => by
    simp only [List.mapM_cons, Option.bind_eq_bind, Option.bind_eq_some_iff, Option.pure_def, Option.some.injEq] at h
    obtain ⟨y, _, ys, hy, rfl⟩ := h
    simp [mapM_len f xs ys hy]
abbrev zip16 : Array Value := #[Value.bool false, Value.int .u8 0, Value.int .u8 0, Value.int .u8 0, Value.int .u8 0, Value.int .u8 0, Value.int .u8 0, Value.int .u8 0, Value.int .u8 0, Value.int .u8 0, Value.int .u8 0, Value.int .u8 0, Value.int .u8 0, Value.int .u8 0, Value.int .u8 0, Value.int .u8 0, Value.int .u8 0]
theorem ip_store {ops : Array Oper} {rest : List Oper} {o : Oper} {a : Act} {w : World} {Q : Exit → Act → World → Prop} (hgd : o.guard = none) (x y : Operand) (ho : o.op = .store 24 x y) (g : Nat) (v : Bool) (l : List Int) (hl : l.length = 16)
    (hx : a.eval x = .pointer (some ⟨g, 0, none⟩)) (hy : a.eval y = .agg (ipc v l).toArray) (t : TypeId) (old : Array Value) (hg : Blk w g t old) (hold : old.size = 17)
    (h : wpList Tryd.prog ops Q rest (a.put o.dst undef) (w.setRow g (ipc v l).toArray)) : wpList Tryd.prog ops Q (o :: rest) a w :=
  wpList_store_row hgd 24 x y ho g _ hx hy t old hg (by simpa using ip_size v l hl) (by rw [hold]; simp [hl]) (all_oneCell_toArray (by
    intro z hz
    rcases List.mem_cons.1 hz with rfl | hz
    · rfl
    · exact u8s_one l z hz)) h
theorem octs_fill (ds : List Int) (k : Nat) (hk : ds.length = k) (h4 : k < 4) (d : Int) : (ipc false (ds ++ List.replicate (16 - k) 0)).toArray.setIfInBounds (1 + k) (.int .u8 d) = (ipc false ((ds ++ [d]) ++ List.replicate (16 - (k + 1)) 0)).toArray ∧ (ipc false (ds ++ List.replicate (16 - k) 0)).toArray[1 + k]? = some (.int .u8 0) := by
  rw [show 16 - k = 16 - (k + 1) + 1 by omega, List.replicate_succ]
  exact ⟨by rw [ipc_set false ds _ _ _ k hk]; simp, ipc_get false ds _ _ k hk⟩
def ReadIp (w : World) (o : Option (List Int)) (e : Ending) (w' : World) : Prop := e = .returned (ipOf o) ∧ Below w.heap.size w w'

set_option maxHeartbeats 1000000 in
set_option maxRecDepth 100000 in
theorem rfour_is (w : World) (E : Env w) (s : ByteArray) (hs : s.size < 4294967281) :
    Calls Tryd.prog 114 #[.string s] w (ReadIp w (octs (splitS s 46 5))) := by
  have HE := Lib.hid (E.alloc (.cells zip16 24))
  have HS := Lib.hid (splitS_size s 46 5)
  have HL := Lib.hid (splitS_len s 46 5 (by omega))
  go_enter Tryd.func114, Tryd.ntmps114
  go_wp2_with fail
  refine (split_is _ HE.out s 46 5 hs (by omega) (by omega) 5 rfl).mono ?_
  rintro e w1 ⟨rfl, hst, hB1, hsz⟩
  rw [show (w.alloc (.cells zip16 24)).heap.size = w.heap.size + 1 by simp] at *
  have HB1 : Hid (Below w.heap.size w w1) := Lib.hid (((Below.refl w.heap.size w).alloc (Nat.le_refl _) _).trans (hB1.mono (by omega)))
  have Hr := Lib.hid ((Blk.new w 24 zip16).below hB1 (by omega))
  have HT := Lib.hid hst
  have HZ := Lib.hid hsz
  have hs1 : w.heap.size + 1 < w1.heap.size := by omega
  generalize hX : splitS s 46 5 = xs at *
  have HX := Lib.hid hX
  have hl5 := HL.out
  clear hst hB1 hsz hX
  by_cases h4 : xs.length = 4
  · have hb4 : ((xs.length : Int) != 4) = false := by simp [h4]
    have HO : Hid (octs xs = xs.mapM (fun x => digits x.data.toList 255)) := Lib.hid (by unfold octs; rw [if_pos h4])
    have H4 := Lib.hid h4
    have hl4 : xs.length ≤ 4 := by omega
    clear h4
    go_wp2
    have Ha0 := Lib.hid (Blk.new w1 24 zip16)
    have Hr0 := Lib.hid (Hr.out.alloc (.cells zip16 24))
    have HT0 : Hid (Strs (w1.alloc (.cells zip16 24)) (w.heap.size + 1) xs) := Lib.hid (HT.out.below ((Below.refl _ _).alloc (Nat.le_refl _) _) hs1)
    have HB0 : Hid (Below w.heap.size w (w1.alloc (.cells zip16 24))) := Lib.hid (HB1.out.alloc (by omega) _)
    go_loopw [6, 7, 8, 9, 18] (fun _ _ _ _ i wr => ∃ (k : Nat) (ds : List Int), k ≤ xs.length ∧ i = .int .i64 k ∧ (xs.take k).mapM (fun x => digits x.data.toList 255) = some ds ∧ Blk wr w1.heap.size 24 (ipc false (ds ++ List.replicate (16 - k) 0)).toArray ∧ Blk wr w.heap.size 24 zip16 ∧ Strs wr (w.heap.size + 1) xs ∧ Below w.heap.size w wr) (fun _ _ _ _ i _ => xs.length - (intOf i).toNat)
    case atStart => exact ⟨0, [], Nat.zero_le _, rfl, rfl, Ha0.out, Hr0.out, HT0.out, HB0.out⟩
    case round =>
      obtain ⟨k, ds, hk, rfl, hds, ha, hr, hst, hB⟩ := hrel
      have hdl : ds.length = k := by have := mapM_len _ _ _ hds; simpa [Nat.min_eq_left hk] using this
      have HD := Lib.hid hds
      have HA := Lib.hid ha
      have HRr := Lib.hid hr
      have HTt := Lib.hid hst
      have HBb := Lib.hid hB
      have HDL := Lib.hid hdl
      clear hds ha hr hst hB hdl
      by_cases hlt : k < xs.length
      · have hc := HTt.out k hlt
        have hxs : xs[k].size ≤ s.size := HS.out _ (List.getElem_mem hlt)
        have HSn := Lib.hid (mapM_snoc (fun x => digits x.data.toList 255) xs k hlt ds)
        have HFa := Lib.hid (mapM_fail (fun x : ByteArray => digits x.data.toList 255) xs k hlt)
        generalize xs[k] = x at *
        go_wp2_with fail
        refine (digits_is wr x 255 (by omega) (by omega) (by omega)).mono ?_
        rintro e w' ⟨rfl, rfl⟩
        cases hd : digits x.data.toList 255 with
        | none =>
          have HN : Hid (octs xs = none) := Lib.hid (by rw [HO.out]; exact HFa.out hd)
          clear hd
          simp only [digV, Option.getD_none, Option.isSome_none]
          go_wp2_with (refine ip_store rfl _ _ rfl w.heap.size false (List.replicate 16 0) rfl rfl rfl 24 zip16 HRr.out rfl ?_)
          refine bodyPost_ret (v := ipOf none) ?_ rfl ⟨by rw [HN.out], HBb.out.trans (below_setRow _ _ _ (Nat.le_refl _))⟩
          exact results_cell_slot rfl _ _ w.heap.size 24 _ _ _ rfl rfl (Blk.setRow HRr.out _) Tryd.underlying24 rfl (by kernel_rfl)
        | some d =>
          have hdb := digits_lt _ _ _ hd
          have HS2 := Lib.hid (HSn.out d HD.out hd)
          have hcell := HA.out.cell (1 + k)
          rw [(octs_fill ds k HDL.out (by omega) d).2] at hcell
          have hfz := HA.out.frozen (1 + k)
          have hset := HA.out.set_ (1 + k) (.int .u8 d)
          rw [(octs_fill ds k HDL.out (by omega) d).1] at hset
          have HSet := Lib.hid hset
          have HR2 := Lib.hid (show Blk (wr.setCell ⟨w1.heap.size, 1 + k, none⟩ (.int .u8 d)) w.heap.size 24 zip16 from HRr.out.far (show w.heap.size ≠ w1.heap.size by omega) _)
          have HT2 : Hid (Strs (wr.setCell ⟨w1.heap.size, 1 + k, none⟩ (.int .u8 d)) (w.heap.size + 1) xs) := Lib.hid (HTt.out.below ((Below.refl (w.heap.size + 1 + 1) wr).setCell (p := ⟨w1.heap.size, 1 + k, none⟩) (show w.heap.size + 1 + 1 ≤ w1.heap.size by omega) _) (by omega))
          have HB2 := Lib.hid (HBb.out.setCell (p := ⟨w1.heap.size, 1 + k, none⟩) (show w.heap.size ≤ w1.heap.size by omega) (.int .u8 d))
          clear hd hset
          simp only [digV, Option.getD_some, Option.isSome_some]
          go_wp2
          refine ⟨⟨k + 1, ds ++ [d], by omega, by go_num, HS2.out, HSet.out, HR2.out, HT2.out, HB2.out⟩, by simp [intOf]; omega⟩
      · obtain rfl : k = xs.length := by omega
        have hds := HD.out
        rw [List.take_length] at hds
        have HM : Hid (octs xs = some ds) := Lib.hid (by rw [HO.out]; exact hds)
        have hdl : ds.length = 4 := by rw [HDL.out]; exact H4.out
        have h12 := H4.out
        have HA2 := Lib.hid (show Blk wr w1.heap.size 24 (ipc false (ds ++ List.replicate 12 0)).toArray by have := HA.out; rw [show 16 - xs.length = 12 by omega] at this; exact this)
        have HD4 := Lib.hid (show (ds ++ List.replicate 12 0).length = 16 by simp [hdl])
        clear hds hdl h12
        go_wp2_with (first
          | (refine ip_fetch rfl _ rfl w1.heap.size 0 false (ds ++ List.replicate 12 0) HD4.out rfl HA2.out.range ?_)
          | (refine ip_store rfl _ _ rfl w.heap.size false (ds ++ List.replicate 12 0) HD4.out rfl rfl 24 zip16 HRr.out rfl ?_))
        refine bodyPost_ret (v := ipOf (some ds)) ?_ rfl ⟨by rw [HM.out], HBb.out.trans (below_setRow _ _ _ (Nat.le_refl _))⟩
        exact results_cell_slot rfl _ _ w.heap.size 24 _ _ _ rfl rfl (Blk.setRow HRr.out _) Tryd.underlying24 rfl (by simpa using ip_size false _ HD4.out)
  · have hb4 : ((xs.length : Int) != 4) = true := by simp; omega
    have HN : Hid (octs xs = none) := Lib.hid (by unfold octs; rw [if_neg h4])
    clear h4
    go_wp2_with (refine ip_store rfl _ _ rfl w.heap.size false (List.replicate 16 0) rfl rfl rfl 24 zip16 Hr.out rfl ?_)
    refine bodyPost_ret (v := ipOf none) ?_ rfl ⟨by rw [HN.out], HB1.out.trans (below_setRow _ _ _ (Nat.le_refl _))⟩
    exact results_cell_slot rfl _ _ w.heap.size 24 _ _ _ rfl rfl (Blk.setRow Hr.out _) Tryd.underlying24 rfl (by kernel_rfl)
end Go.Proofs.YtkaimdcepnhkdaaDoor
namespace Go.Proofs.YtkaimdcepnhkdaaDoor
open Go.RowKit
set_option linter.unusedSimpArgs false
set_option linter.unusedVariables false

/-- Hexadecimal digits as a number. -/
def hexTo (l : List UInt8) : Option Int := l.foldlM (fun n c => (hexD (c.toNat : Int)).map (16 * n + ·)) 0
theorem hexTo_snoc (l : List UInt8) (c : UInt8) : hexTo (l ++ [c]) = (hexTo l).bind fun n => (hexD (c.toNat : Int)).map (16 * n + ·) := by
  unfold hexTo
  rw [List.foldlM_append]
  simp
theorem hexTo_bd (l : List UInt8) : ∀ (k : Nat) (n : Int), hexTo (l.take k) = some n → 0 ≤ n ∧ n < 16 ^ k
  | 0, n, h => by simp [hexTo] at h; subst h; simp
  | k + 1, n, h => by
    by_cases hk : k < l.length
    · rw [List.take_succ_eq_append_getElem hk, hexTo_snoc] at h
      simp only [Option.bind_eq_some_iff, Option.map_eq_some_iff] at h
      obtain ⟨a, ha, d, hd, rfl⟩ := h
      have h1 := hexTo_bd l k a ha
      have h2 := hexD_bd hd
      rw [Int.pow_succ]
      omega
    · rw [List.take_of_length_le (by omega)] at h
      have := hexTo_bd l k n (by rw [List.take_of_length_le (by omega)]; exact h)
      rw [Int.pow_succ]
      omega
theorem hexTo_fail (l : List UInt8) (k : Nat) (hk : k < l.length) (h : hexD (l[k].toNat : Int) = none) : hexTo l = none := by
  have e : l = l.take k ++ (l[k] :: l.drop (k + 1)) := by rw [← List.drop_eq_getElem_cons hk, List.take_append_drop]
  rw [e]
  unfold hexTo
  rw [List.foldlM_append]
  generalize (List.foldlM (fun n c => (hexD (UInt8.toNat c : Int)).map (16 * n + ·)) 0 (l.take k) : Option Int) = o
  cases o with
  | none => rfl
  | some a =>
    rw [Option.bind_eq_bind, Option.bind_some, List.foldlM_cons, h]
    rfl
def rdGroup (l : List UInt8) : Option Int := if 1 ≤ l.length ∧ l.length ≤ 4 then hexTo l else none
theorem or4 (n x : Int) (h0 : 0 ≤ n) (h1 : n < 4096) (hx0 : 0 ≤ x) (hx1 : x < 16) : bits .or .u16 (n * 16) x = 16 * n + x := by
  rw [u16_or _ _ (by omega) (by omega) (by omega) (by omega)]
  obtain ⟨m, rfl⟩ := Int.eq_ofNat_of_zero_le h0
  obtain ⟨y, rfl⟩ := Int.eq_ofNat_of_zero_le hx0
  have hy : y < 2 ^ 4 := by omega
  have e : ((m : Int) * 16).toNat = 2 ^ 4 * m := by omega
  rw [e, Int.toNat_natCast, ← Nat.two_pow_add_eq_or_of_lt hy]
  omega
def grpV (o : Option Int) : Value := .tuple #[.int .u16 (o.getD 0), .bool o.isSome]
def Grp1 (w : World) (o : Option Int) (e : Ending) (w' : World) : Prop := e = .returned (grpV o) ∧ w = w'
theorem pow16 : ∀ k, k ≤ 3 → (16 : Int) ^ k ≤ 4096 := by decide
set_option maxHeartbeats 1000000 in
theorem rgroup_is (w : World) (s : ByteArray) (hs : s.size < 4294967281) :
    Calls Tryd.prog 154 #[.string s] w (Grp1 w (rdGroup s.data.toList)) := by
  have HL := Lib.hid (str_len s)
  by_cases hlen : 1 ≤ s.size ∧ s.size ≤ 4
  · have HO : Hid (rdGroup s.data.toList = hexTo s.data.toList) := Lib.hid (by unfold rdGroup; rw [HL.out, if_pos hlen])
    obtain ⟨hl1, hl4⟩ := hlen
    go_enter Tryd.func154, Tryd.ntmps154
    go_wp2
    go_loop [4, 5, 6, 7, 18] (fun n _ _ _ i => ∃ (k : Nat) (m : Int), k ≤ s.size ∧ i = .int .i64 k ∧ n = .int .u16 m ∧ hexTo (s.data.toList.take k) = some m) (fun _ _ _ _ i => s.size - (intOf i).toNat)
    case atStart => exact ⟨0, 0, Nat.zero_le _, rfl, rfl, rfl⟩
    case round =>
      obtain ⟨k, m, hk, rfl, rfl, hm⟩ := hrel
      have hbd := hexTo_bd s.data.toList k m hm
      have HM := Lib.hid hm
      clear hm
      by_cases hlt : k < s.size
      · have hp := pow16 k (by omega)
        have HS := Lib.hid (take_snoc s k hlt)
        have HF := Lib.hid (hexTo_fail s.data.toList k (by rw [HL.out]; exact hlt))
        have HG := Lib.hid (str_get s k hlt)
        have hc256 : (s[k].toNat : Int) < 256 := by have := s[k].toNat_lt; omega
        go_wp2_with fail
        refine (hex_is w (s[k].toNat : Int) (by omega) hc256).mono ?_
        rintro e w' ⟨rfl, rfl⟩
        cases hd : hexD (s[k].toNat : Int) with
        | none =>
          have HN : Hid (rdGroup s.data.toList = none) := Lib.hid (by rw [HO.out]; exact HF.out (by rw [HG.out]; exact hd))
          clear hd HF
          simp only [hexV, Option.getD_none, Option.isSome_none]
          go_wp2
          go_ret2
          exact ⟨by rw [HN.out]; rfl, rfl⟩
        | some d =>
          have hdb := hexD_bd hd
          have HN : Hid (hexTo (s.data.toList.take (k + 1)) = some (16 * m + d)) := Lib.hid (by rw [HS.out, hexTo_snoc, HM.out, Option.bind_some, hd, Option.map_some])
          have HOr := Lib.hid (or4 m d hbd.1 (by omega) hdb.1 hdb.2)
          clear hd HF
          simp only [hexV, Option.getD_some, Option.isSome_some]
          go_wp2
          exact ⟨⟨k + 1, 16 * m + d, by omega, by go_num, by rw [HOr.out], HN.out⟩, by simp [intOf]; omega⟩
      · obtain rfl : k = s.size := by omega
        have HN : Hid (rdGroup s.data.toList = some m) := Lib.hid (by rw [HO.out, ← HM.out, ← HL.out, List.take_length])
        go_wp2
        go_ret2
        exact ⟨by rw [HN.out]; rfl, rfl⟩
  · have HN : Hid (rdGroup s.data.toList = none) := Lib.hid (by unfold rdGroup; rw [HL.out, if_neg hlen])
    rcases (show s.size < 1 ∨ 4 < s.size by omega) with h | h
    · have hd : decide ((s.size : Int) < 1) = true := decide_eq_true (by omega)
      clear hlen
      go_enter Tryd.func154, Tryd.ntmps154
      go_wp2
      go_ret2
      exact ⟨by rw [HN.out]; rfl, rfl⟩
    · have hd : decide ((s.size : Int) < 1) = false := decide_eq_false (by omega)
      have hd2 : decide ((s.size : Int) > 4) = true := decide_eq_true (by omega)
      clear hlen
      go_enter Tryd.func154, Tryd.ntmps154
      go_wp2
      go_ret2
      exact ⟨by rw [HN.out]; rfl, rfl⟩

theorem info_u16 : (Tryd.prog.info? 50).map (fun i => (i.zero, i.size, i.bytes)) = some (some (.int .u16 0), 1, 2) := by kernel_rfl
theorem u16_made (w : World) (n : Nat) (t : TypeId) : Blk (w.alloc (.cells (madeCells #[.int .u16 0] n) t)) w.heap.size t (u16s (List.replicate n 0)).toArray := by
  unfold Blk
  show (w.heap.push _)[w.heap.size]? = _
  rw [Array.getElem?_push, if_pos rfl]
  congr 2
  apply Array.ext_getElem?
  intro i
  by_cases hi : i < n <;> simp [madeCells, hi, Nat.mod_one]
theorem rdGroup_bd {l : List UInt8} {n : Int} (h : rdGroup l = some n) : 0 ≤ n ∧ n < 65536 := by
  unfold rdGroup at h
  split at h
  · rename_i hl
    have := hexTo_bd l l.length n (by rw [List.take_length]; exact h)
    have h2 : ∀ m, m ≤ 4 → (16 : Int) ^ m ≤ 65536 := by decide
    have := h2 l.length hl.2
    omega
  · cases h
/-- Groups with : between; at most nine. -/
def rdGroups (s : ByteArray) : Option (List Int) := if s.size = 0 then some [] else (splitS s 58 9).mapM (fun x => rdGroup x.data.toList)
theorem rdGroups_bd {s : ByteArray} {ds : List Int} (h : rdGroups s = some ds) : (∀ x ∈ ds, 0 ≤ x ∧ x < 65536) ∧ ds.length ≤ 9 := by
  unfold rdGroups at h
  split at h
  · cases h; exact ⟨(fun x hx => by cases hx), by simp⟩
  · have hl := splitS_len s 58 9 (by omega)
    generalize splitS s 58 9 = xs at *
    refine ⟨?_, by rw [mapM_len _ _ _ h]; exact hl⟩
    clear hl
    induction xs generalizing ds with
    | nil => simp at h; subst h; intro x hx; cases hx
    | cons y ys ih =>
      simp only [List.mapM_cons, Option.bind_eq_bind, Option.bind_eq_some_iff, Option.pure_def, Option.some.injEq] at h
      obtain ⟨a, ha, zs, hz, rfl⟩ := h
      intro x hx
      rcases List.mem_cons.1 hx with rfl | hx
      · exact rdGroup_bd ha
      · exact ih hz x hx
/-- A new slice of numbers of 16 bits (or nothing), in a block of its own. -/
def Grps (w : World) (o : Option (List Int)) (e : Ending) (w' : World) : Prop :=
  Below w.heap.size w w' ∧ match o with
  | none => e = .returned (.tuple #[.slice none 0 0, .bool false])
  | some ds => ∃ A c, e = .returned (.tuple #[.slice A ds.length c, .bool true]) ∧ R16 w' w'.heap.size A ds.length ds ∧ ds.length ≤ c
set_option maxHeartbeats 1000000 in
theorem rgroups_none (w : World) (s : ByteArray) (h : s.size = 0) : Calls Tryd.prog 134 #[.string s] w (Grps w (rdGroups s)) := by
  have HN : Hid (rdGroups s = some []) := Lib.hid (by unfold rdGroups; rw [if_pos h])
  have he : s.toList = [] := by rw [ByteArray.toList_eq]; exact List.eq_nil_of_length_eq_zero (by rw [str_len]; exact h)
  clear h
  go_enter Tryd.func134, Tryd.ntmps134
  go_wp2
  go_ret2
  exact ⟨Below.refl _ _, by rw [HN.out]; exact ⟨none, 0, rfl, ⟨rfl, (fun x h => by cases h), fun h => absurd h (by simp)⟩, by simp⟩⟩
set_option maxHeartbeats 1000000 in
set_option maxRecDepth 100000 in
theorem rgroups_go (w : World) (E : Env w) (s : ByteArray) (hs : s.size < 4294967281) (h : 0 < s.size) : Calls Tryd.prog 134 #[.string s] w (Grps w (rdGroups s)) := by
  have HO : Hid (rdGroups s = (splitS s 58 9).mapM (fun x => rdGroup x.data.toList)) := Lib.hid (by unfold rdGroups; rw [if_neg (by omega)])
  have he := toList_isEmpty s h
  have hn := toList_ne s h
  have HS := Lib.hid (splitS_size s 58 9)
  have HL := Lib.hid (splitS_len s 58 9 (by omega))
  have HBD := Lib.hid (fun ds => rdGroups_bd (s := s) (ds := ds))
  go_enter Tryd.func134, Tryd.ntmps134
  go_wp2_with fail
  refine (split_is w E s 58 9 hs (by omega) (by omega) 9 rfl).mono ?_
  rintro e w1 ⟨rfl, hst, hB1, hsz⟩
  have HB1 := Lib.hid hB1
  have HT := Lib.hid hst
  have hs1 : w.heap.size < w1.heap.size := by omega
  generalize splitS s 58 9 = xs at *
  have hl9 := HL.out
  clear hst hB1 hsz he hn h
  have hmk := run_make_row' (P := Tryd.prog) 134 50 (.int .u16 0) 2 Tryd.underlying134 info_u16 rfl .i64 .i64 xs.length (by omega) (by omega) w1
  have H0 := Lib.hid (u16_made w1 xs.length 50)
  have HT0 : Hid (Strs (w1.alloc (.cells (madeCells #[.int .u16 0] xs.length) 50)) w.heap.size xs) := Lib.hid (HT.out.below ((Below.refl _ _).alloc (Nat.le_refl _) _) hs1)
  have HB0 : Hid (Below w.heap.size w (w1.alloc (.cells (madeCells #[.int .u16 0] xs.length) 50))) := Lib.hid (HB1.out.alloc (by omega) _)
  go_wp2
  go_loopw [6, 7, 8, 9, 19] (fun _ _ _ _ i wr => ∃ (k : Nat) (ds : List Int), k ≤ xs.length ∧ i = .int .i64 k ∧ (xs.take k).mapM (fun x => rdGroup x.data.toList) = some ds ∧ Blk wr w1.heap.size 50 (u16s (ds ++ List.replicate (xs.length - k) 0)).toArray ∧ Strs wr w.heap.size xs ∧ Below w.heap.size w wr) (fun _ _ _ _ i _ => xs.length - (intOf i).toNat)
  case atStart => exact ⟨0, [], Nat.zero_le _, rfl, rfl, by simpa using H0.out, HT0.out, HB0.out⟩
  case round =>
    obtain ⟨k, ds, hk, rfl, hds, ha, hst, hB⟩ := hrel
    have hdl : ds.length = k := by have := mapM_len _ _ _ hds; simpa [Nat.min_eq_left hk] using this
    have HD := Lib.hid hds
    have HA := Lib.hid ha
    have HTt := Lib.hid hst
    have HBb := Lib.hid hB
    have HDL := Lib.hid hdl
    clear hds ha hst hB hdl
    by_cases hlt : k < xs.length
    · have hc := HTt.out k hlt
      have hxs : xs[k].size ≤ s.size := HS.out _ (List.getElem_mem hlt)
      have HSn := Lib.hid (mapM_snoc (fun x => rdGroup x.data.toList) xs k hlt ds)
      have HFa := Lib.hid (mapM_fail (fun x : ByteArray => rdGroup x.data.toList) xs k hlt)
      generalize xs[k] = x at *
      go_wp2_with fail
      refine (rgroup_is wr x (by omega)).mono ?_
      rintro e w' ⟨rfl, rfl⟩
      cases hd : rdGroup x.data.toList with
      | none =>
        have HN : Hid (rdGroups s = none) := Lib.hid (by rw [HO.out]; exact HFa.out hd)
        clear hd
        simp only [grpV, Option.getD_none, Option.isSome_none]
        go_wp2
        go_ret2
        exact ⟨HBb.out, by rw [HN.out]; rfl⟩
      | some d =>
        have HS2 := Lib.hid (HSn.out d HD.out hd)
        have hA := HA.out
        rw [show xs.length - k = xs.length - (k + 1) + 1 by omega, List.replicate_succ] at hA
        have hcell := hA.cell k
        rw [u16s_get ds _ _ k HDL.out] at hcell
        have hfz := hA.frozen k
        have hset := hA.set_ k (.int .u16 d)
        rw [u16s_set ds _ _ _ k HDL.out, show ds ++ d :: List.replicate (xs.length - (k + 1)) 0 = (ds ++ [d]) ++ List.replicate (xs.length - (k + 1)) 0 by simp] at hset
        have HSet := Lib.hid hset
        have HT2 : Hid (Strs (wr.setCell ⟨w1.heap.size, k, none⟩ (.int .u16 d)) w.heap.size xs) := Lib.hid (HTt.out.below ((Below.refl (w.heap.size + 1) wr).setCell (p := ⟨w1.heap.size, k, none⟩) (show w.heap.size + 1 ≤ w1.heap.size by omega) _) (by omega))
        have HB2 := Lib.hid (HBb.out.setCell (p := ⟨w1.heap.size, k, none⟩) (show w.heap.size ≤ w1.heap.size by omega) (.int .u16 d))
        clear hd hset hA
        simp only [grpV, Option.getD_some, Option.isSome_some]
        go_wp2
        refine ⟨⟨k + 1, ds ++ [d], by omega, by go_num, HS2.out, HSet.out, HT2.out, HB2.out⟩, by simp [intOf]; omega⟩
    · obtain rfl : k = xs.length := by omega
      have hds := HD.out
      rw [List.take_length] at hds
      have HM : Hid (rdGroups s = some ds) := Lib.hid (by rw [HO.out]; exact hds)
      have hA := HA.out
      rw [Nat.sub_self, List.replicate_zero, List.append_nil] at hA
      have HR : Hid (R16 wr wr.heap.size (some ⟨w1.heap.size, 0, none⟩) ds.length ds) := Lib.hid (⟨rfl, (HBD.out ds HM.out).1, fun hn => ⟨_, _, rfl, hA.lt, fun i hi => by
        rw [Nat.zero_add, hA.cell]
        simp [List.getD, hi]⟩⟩)
      clear hds hA
      go_wp2
      go_ret2
      refine ⟨HBb.out, ?_⟩
      rw [HM.out]
      exact ⟨some ⟨w1.heap.size, 0, none⟩, xs.length, by rw [HDL.out]; rfl, HR.out, by rw [HDL.out]; exact Nat.le_refl _⟩

theorem rgroups_is (w : World) (E : Env w) (s : ByteArray) (hs : s.size < 4294967281) : Calls Tryd.prog 134 #[.string s] w (Grps w (rdGroups s)) := by
  rcases Nat.eq_zero_or_pos s.size with h | h
  · exact rgroups_none w s h
  · exact rgroups_go w E s hs h
end Go.Proofs.YtkaimdcepnhkdaaDoor
namespace Go.Proofs.YtkaimdcepnhkdaaDoor
open Go.RowKit
set_option linter.unusedSimpArgs false
set_option linter.unusedVariables false

/-- Two bytes a group. -/
def ungrp : List Int → List Int
  | [] => []
  | x :: r => x / 256 :: x % 256 :: ungrp r
theorem ungrp_len : ∀ l, (ungrp l).length = 2 * l.length
  | [] => rfl
  | x :: r => by simp [ungrp, ungrp_len r]; omega
theorem ungrp_app : ∀ a b, ungrp (a ++ b) = ungrp a ++ ungrp b
  | [], b => rfl
  | x :: a, b => by simp [ungrp, ungrp_app a b]
theorem ungrp_oct : ∀ l : List Int, (∀ x ∈ l, 0 ≤ x ∧ x < 65536) → Oct (ungrp l)
  | [], _ => by intro x h; cases h
  | y :: r, h => by
    have hy := h y (by simp)
    intro x hx
    simp only [ungrp, List.mem_cons] at hx
    rcases hx with rfl | rfl | hx
    · omega
    · omega
    · exact ungrp_oct r (fun z hz => h z (by simp [hz])) x hx

theorem fill_is (w : World) (n : Int) (b : Bool) : Calls Tryd.prog 135 #[.int .i64 n, .bool b] w fun e w' => e = .returned (.bool (if b then decide (n < 8) else decide (n = 8))) ∧ w = w' := by
  cases b
  · by_cases h : n = 8
    · subst h
      go_enter Tryd.func135, Tryd.ntmps135
      go_wp2
      go_ret
      exact ⟨rfl, rfl⟩
    · have hb : (n == 8) = false := by simpa using h
      have hd : Hid (decide (n = 8) = false) := Lib.hid (by simpa using h)
      clear h
      go_enter Tryd.func135, Tryd.ntmps135
      go_wp2
      go_ret
      refine ⟨?_, rfl⟩
      show _ = Ending.returned (.bool (decide (n = 8)))
      rw [hd.out]
      rfl
  · go_enter Tryd.func135, Tryd.ntmps135
    go_wp2
    go_ret
    exact ⟨rfl, rfl⟩

abbrev zip6 : Array Value := #[Value.bool true, Value.int .u8 0, Value.int .u8 0, Value.int .u8 0, Value.int .u8 0, Value.int .u8 0, Value.int .u8 0, Value.int .u8 0, Value.int .u8 0, Value.int .u8 0, Value.int .u8 0, Value.int .u8 0, Value.int .u8 0, Value.int .u8 0, Value.int .u8 0, Value.int .u8 0, Value.int .u8 0]
/-- 'x[k]' of an array of one-cell elements that is a value. -/
theorem run_index_one {P : Program} {t e : TypeId} {n : Nat} (hu : P.underlying t = some (.array n e)) (hi0 : (P.info? e).map (·.size) = some 1) (ha : ∀ W, (isAgg e).run P W = .ok false W) (cs : Array Value) (k : Nat) (v : Value) (hk : k < n) (hv : cs[k]? = some v) (W : World) :
    (Instr.index t (.agg cs) (.int .i64 (k : Int))).run P W = .ok v W := by
  obtain ⟨i, hi, hs⟩ := Option.map_eq_some_iff.1 hi0
  simp [Instr.index, asIntOf, run_underlying hu, part, ha, sizeOf, typeInfo, hi, hs, hk, hv]
set_option maxHeartbeats 1000000 in
set_option maxRecDepth 100000 in
theorem gip_is (w : World) (gs : List Int) (hl : gs.length = 8) (hbd : ∀ x ∈ gs, 0 ≤ x ∧ x < 65536) :
    Calls Tryd.prog 136 #[.agg (u16s gs).toArray] w fun e w' => e = .returned (.agg (ipc true (ungrp gs)).toArray) ∧ Below w.heap.size w w' := by
  have HR := Lib.hid (range_new w 130 (u16s gs))
  have HR1 := Lib.hid (range_alloc HR.out (.cells zip16 24) (by simp))
  have HR2 := Lib.hid (range_alloc HR1.out (.cells zip16 24) (by simp; omega))
  have HN := Lib.hid (Blk.new ((w.alloc (.cells (u16s gs).toArray 130)).alloc (.cells zip16 24)) 24 zip16)
  rw [show ((w.alloc (.cells (u16s gs).toArray 130)).alloc (.cells zip16 24)).heap.size = w.heap.size + 1 + 1 by simp] at HN
  have HR3 : Hid (((((w.alloc (.cells (u16s gs).toArray 130)).alloc (.cells zip16 24)).alloc (.cells zip16 24)).setRow (w.heap.size + 1 + 1) (ipc true (List.replicate 16 0)).toArray).rangeAt w.heap.size 0 (u16s gs)) := Lib.hid (range_below HR2.out (below_setRow _ (w.heap.size + 1 + 1) _ (Nat.le_refl _)) (by omega))
  have HN2 := Lib.hid (Blk.setRow HN.out (ipc true (List.replicate 16 0)).toArray)
  have HZ0 : Hid (Blk ((w.alloc (.cells (u16s gs).toArray 130)).alloc (.cells zip16 24)) (w.heap.size + 1) 24 zip16) := Lib.hid (by have h := Blk.new (w.alloc (.cells (u16s gs).toArray 130)) 24 zip16; simpa using h)
  have HZ : Hid (Blk ((((w.alloc (.cells (u16s gs).toArray 130)).alloc (.cells zip16 24)).alloc (.cells zip16 24)).setRow (w.heap.size + 1 + 1) (ipc true (List.replicate 16 0)).toArray) (w.heap.size + 1) 24 zip16) := Lib.hid ((HZ0.out.alloc _).below (below_setRow _ (w.heap.size + 1 + 1) _ (Nat.le_refl _)) (by omega))
  have HB : Hid (Below w.heap.size w ((((w.alloc (.cells (u16s gs).toArray 130)).alloc (.cells zip16 24)).alloc (.cells zip16 24)).setRow (w.heap.size + 1 + 1) (ipc true (List.replicate 16 0)).toArray)) := Lib.hid (((((Below.refl _ _).alloc (Nat.le_refl _) _).alloc (by simp) _).alloc (by simp; omega) _).trans (below_setRow _ _ _ (by omega)))
  go_enter Tryd.func136, Tryd.ntmps136
  go_wp2_with (first
    | (refine ip_store rfl _ _ rfl (w.heap.size + 1 + 1) true (List.replicate 16 0) rfl rfl rfl 24 zip16 HN.out rfl ?_)
    | (refine grp_fetch rfl _ rfl w.heap.size gs hl rfl HR3.out ?_))
  go_loopw [4, 5, 8] (fun _ _ i wr => ∃ k : Nat, k ≤ 8 ∧ i = .int .i64 k ∧ Blk wr (w.heap.size + 1 + 1) 24 (ipc true (ungrp (gs.take k) ++ List.replicate (16 - 2 * k) 0)).toArray ∧ Blk wr (w.heap.size + 1) 24 zip16 ∧ Below w.heap.size w wr) (fun _ _ i _ => 8 - (intOf i).toNat)
  case atStart => exact ⟨0, by omega, rfl, HN2.out, HZ.out, HB.out⟩
  case round =>
    obtain ⟨k, hk, rfl, ha, hz, hB⟩ := hrel
    have HA := Lib.hid ha
    have HZz := Lib.hid hz
    have HBb := Lib.hid hB
    clear ha hz hB HR HR1 HR2 HR3 HN HN2 HZ0 HZ HB
    by_cases hlt : k < 8
    · have hx := hbd gs[k] (List.getElem_mem (by omega))
      have hkl : (ungrp (gs.take k)).length = 2 * k := by rw [ungrp_len, List.length_take]; omega
      have HS : Hid (ungrp (gs.take (k + 1)) = ungrp (gs.take k) ++ [gs[k] / 256, gs[k] % 256]) := Lib.hid (by rw [List.take_succ_eq_append_getElem (by omega), ungrp_app]; rfl)
      have hA := HA.out
      rw [show 16 - 2 * k = 16 - 2 * (k + 1) + 1 + 1 by omega, List.replicate_succ, List.replicate_succ] at hA
      have hc1 := hA.cell (1 + 2 * k)
      rw [ipc_get true _ _ _ (2 * k) hkl] at hc1
      have hf1 := hA.frozen (1 + 2 * k)
      have hA2 := hA.set_ (1 + 2 * k) (.int .u8 (gs[k] / 256))
      rw [ipc_set true _ _ _ _ (2 * k) hkl, show ungrp (gs.take k) ++ gs[k] / 256 :: 0 :: List.replicate (16 - 2 * (k + 1)) 0 = (ungrp (gs.take k) ++ [gs[k] / 256]) ++ 0 :: List.replicate (16 - 2 * (k + 1)) 0 by simp] at hA2
      have hkl2 : (ungrp (gs.take k) ++ [gs[k] / 256]).length = 2 * k + 1 := by simp [hkl]
      have hc2 := hA2.cell (1 + (2 * k + 1))
      rw [ipc_get true _ _ _ (2 * k + 1) hkl2] at hc2
      have hf2 := hA2.frozen (1 + (2 * k + 1))
      have hA3 := hA2.set_ (1 + (2 * k + 1)) (.int .u8 (gs[k] % 256))
      rw [ipc_set true _ _ _ _ (2 * k + 1) hkl2, show (ungrp (gs.take k) ++ [gs[k] / 256]) ++ gs[k] % 256 :: List.replicate (16 - 2 * (k + 1)) 0 = ungrp (gs.take (k + 1)) ++ List.replicate (16 - 2 * (k + 1)) 0 by rw [HS.out]; simp] at hA3
      have HA3 := Lib.hid hA3
      have HG := Lib.hid (show (u16s gs).toArray[k]? = some (.int .u16 gs[k]) by simp [show k < gs.length by omega])
      have hg := HG.out
      have Hz3 := Lib.hid ((HZz.out.far (p := ⟨w.heap.size + 1 + 1, 1 + 2 * k, none⟩) (by simp) (.int .u8 (gs[k] / 256))).far (p := ⟨w.heap.size + 1 + 1, 1 + (2 * k + 1), none⟩) (by simp) (.int .u8 (gs[k] % 256)))
      have HB3 := Lib.hid ((HBb.out.setCell (p := ⟨w.heap.size + 1 + 1, 1 + 2 * k, none⟩) (show w.heap.size ≤ w.heap.size + 1 + 1 by omega) (.int .u8 (gs[k] / 256))).setCell (p := ⟨w.heap.size + 1 + 1, 1 + (2 * k + 1), none⟩) (show w.heap.size ≤ w.heap.size + 1 + 1 by omega) (.int .u8 (gs[k] % 256)))
      have hidx := run_index_one (P := Tryd.prog) (t := 130) (e := 50) (n := 8) Tryd.underlying130 (by kernel_rfl) (run_isAgg_plain Tryd.underlying50 rfl) (u16s gs).toArray k _ (by omega) hg
      clear hA hA2 hA3 hkl hkl2 HS HA HZz HBb hg
      generalize gs[k] = x at *
      go_wp2
      exact ⟨⟨k + 1, by omega, by go_num, HA3.out, Hz3.out, HB3.out⟩, by simp [intOf]; omega⟩
    · obtain rfl : k = 8 := by omega
      have hA := HA.out
      rw [show 16 - 2 * 8 = 0 by omega, List.replicate_zero, List.append_nil, List.take_of_length_le (by omega)] at hA
      have HA2 := Lib.hid hA
      have HL := Lib.hid (show (ungrp gs).length = 16 by rw [ungrp_len]; omega)
      clear hA HA
      go_wp2_with (first
        | (refine ip_fetch rfl _ rfl (w.heap.size + 1 + 1) 0 true (ungrp gs) HL.out rfl HA2.out.range ?_)
        | (refine ip_store rfl _ _ rfl (w.heap.size + 1) true (ungrp gs) HL.out rfl rfl 24 zip16 HZz.out rfl ?_))
      refine bodyPost_ret (v := .agg (ipc true (ungrp gs)).toArray) ?_ rfl ⟨rfl, HBb.out.trans (below_setRow _ _ _ (by omega))⟩
      exact results_cell_row rfl _ _ (w.heap.size + 1) 24 _ (0, 0) _ rfl (Blk.setRow HZz.out _) Tryd.underlying24 rfl (by simpa using ip_size true _ HL.out)
end Go.Proofs.YtkaimdcepnhkdaaDoor
namespace Go.Proofs.YtkaimdcepnhkdaaDoor
open Go.RowKit
set_option linter.unusedSimpArgs false
set_option linter.unusedVariables false

/-- What is ahead of the first sep, what is behind it, and whether it is there. -/
def cutS (s : ByteArray) (sep : List UInt8) : ByteArray × ByteArray × Bool := (⟨(Lib.cut s.data.toList sep).1.toArray⟩, ⟨(Lib.cut s.data.toList sep).2.1.toArray⟩, (Lib.cut s.data.toList sep).2.2)
theorem cut_len (l sep : List UInt8) : (Lib.cut l sep).1.length ≤ l.length ∧ (Lib.cut l sep).2.1.length ≤ l.length := by
  unfold Lib.cut
  split
  · simp; omega
  · simp
theorem cutS_size (s : ByteArray) (sep : List UInt8) : (cutS s sep).1.size ≤ s.size ∧ (cutS s sep).2.1.size ≤ s.size := by
  have h := cut_len s.data.toList sep
  rw [Array.length_toList] at h
  unfold cutS
  constructor
  · show (Lib.cut s.data.toList sep).1.toArray.size ≤ s.data.size
    rw [List.size_toArray]; exact h.1
  · show (Lib.cut s.data.toList sep).2.1.toArray.size ≤ s.data.size
    rw [List.size_toArray]; exact h.2
theorem cut_call (w : World) (E : Env w) (s sep : ByteArray) (hs : s.size < 4294967281) :
    Calls Tryd.prog 82 #[.string s, .string sep] w fun e w' => e = .returned (.tuple #[.string (cutS s sep.data.toList).1, .string (cutS s sep.data.toList).2.1, .bool (cutS s sep.data.toList).2.2]) ∧ Below w.heap.size w w' ∧ w'.heap.size = w.heap.size := by
  obtain ⟨mx, hmx⟩ := E.mx
  refine (Tryd.strings_Cut s sep mx w hs hmx).mono ?_
  rintro e w' ⟨rfl, n, rfl⟩
  exact ⟨rfl, below_drewN (Below.refl _ _) n, rfl⟩

def ipR (v : Bool) (o : Option (List Int)) : Value := match o with
  | some l => .tuple #[.agg (ipc v l).toArray, .bool true]
  | none => .tuple #[.agg (ipc false (List.replicate 16 0)).toArray, .bool false]
theorem ipOf_eq (o : Option (List Int)) : ipOf o = ipR false (o.map (· ++ List.replicate 12 0)) := by cases o <;> rfl
def six2 (short : Bool) (a b : Option (List Int)) : Option (List Int) := match a, b with
  | some a, some b => if (if short then decide (((a.length : Int) + (b.length : Int)) < 8) else decide ((a.length : Int) + (b.length : Int) = 8)) then some (ungrp (a ++ List.replicate (8 - (a.length + b.length)) 0 ++ b)) else none
  | _, _ => none
theorem six2_some (sh : Bool) (a b : List Int) : six2 sh (some a) (some b) = if (if sh then decide (((a.length : Int) + (b.length : Int)) < 8) else decide ((a.length : Int) + (b.length : Int) = 8)) then some (ungrp (a ++ List.replicate (8 - (a.length + b.length)) 0 ++ b)) else none := rfl
theorem splice_a (a : List Int) (h : a.length ≤ 8) : splice (u16s (List.replicate 8 0)) 0 (u16s a) = u16s (a ++ List.replicate (8 - a.length) 0) := by
  unfold splice
  rw [List.take_zero, List.nil_append, Nat.zero_add, u16s, u16s, u16s, List.length_map, ← List.map_drop, List.drop_replicate, List.map_append]
theorem splice_b (a b : List Int) (h : a.length + b.length ≤ 8) : splice (u16s (a ++ List.replicate (8 - a.length) 0)) (8 - b.length) (u16s b) = u16s (a ++ List.replicate (8 - (a.length + b.length)) 0 ++ b) := by
  have e : 8 - a.length = (8 - (a.length + b.length)) + b.length := by omega
  have hl : (u16s (a ++ List.replicate (8 - (a.length + b.length)) 0)).length = 8 - b.length := by simp; omega
  have h2 : u16s (a ++ List.replicate (8 - a.length) 0) = u16s (a ++ List.replicate (8 - (a.length + b.length)) 0) ++ u16s (List.replicate b.length 0) := by
    rw [e, ← List.replicate_append_replicate, ← List.append_assoc, u16s, List.map_append]
  rw [h2]
  unfold splice
  rw [← hl, List.take_left, ← List.drop_drop, List.drop_left, List.drop_of_length_le (by simp), List.append_nil, u16s, u16s, u16s, ← List.map_append]
theorem run_copy_ex {P : Program} (w : World) (dT sT ty elem : TypeId) (hu : P.underlying dT = some (.slice elem)) (hsz : (P.info? elem).map (·.size) = some 1) (dp sp : Option Addr) (dLen dCap sLen sCap : Nat)
    (g off : Nat) (cur : List Value) (t : TypeId) (hg : w.heap[g]? = some (.cells cur.toArray t (0, 0))) (cs : List Value) (hn : cs.length = Nat.min sLen dLen)
    (hpos : 0 < cs.length → dp = some ⟨g, off, none⟩ ∧ ∃ ad, sp = some ad ∧ ∀ j v, cs[j]? = some v → w.cell? (ad.add j) = some v)
    (hfit : off + cs.length ≤ cur.length) (h1 : ∀ v ∈ cs, v.oneCell' = true) (B : Nat) (w0 : World) (hb : Below B w0 w) (hBg : B ≤ g) :
    ∃ w', (Builtin.copy_ #[dT, sT] ty #[.slice dp dLen dCap, .slice sp sLen sCap]).run P w = .ok (.int .i64 cs.length) w' ∧ w'.heap[g]? = some (.cells (splice cur off cs).toArray t (0, 0)) ∧ Below B w0 w' := by
  by_cases h0 : cs.length = 0
  · obtain rfl : cs = [] := List.eq_nil_of_length_eq_zero h0
    refine ⟨w, run_copy_none (P := P) w dT sT ty elem dp sp dLen dCap sLen sCap hu hsz (by simpa using hn.symm), ?_, hb⟩
    simpa [splice] using hg
  · obtain ⟨rfl, ad, rfl, hsrc⟩ := hpos (by omega)
    refine ⟨_, run_copy_row (P := P) w dT sT ty elem g off dLen dCap ad sLen sCap cur.toArray t cs hu hsz hg hn hsrc (by simpa using hfit) h1, ?_, hb.trans (below_setRow _ _ _ hBg)⟩
    rw [setRow_heap w g _ _ t _ hg]
    simp [splice]
theorem src16 {w W : World} {A : Option Addr} {a : List Int} (h : R16 w w.heap.size A a.length a) (hB : Below w.heap.size w W) (dp : Option Addr) (x : Addr) (hx : 0 < a.length → dp = some x) :
    0 < (u16s a).length → dp = some x ∧ ∃ ad, A = some ad ∧ ∀ j v, (u16s a)[j]? = some v → W.cell? (ad.add j) = some v := fun hp => by
  have hp' : 0 < a.length := by simpa using hp
  refine ⟨hx hp', ?_⟩
  obtain ⟨bk, off, rfl, hb, hc⟩ := h.at_ hp'
  refine ⟨_, rfl, fun j v hv => ?_⟩
  have hj : j < a.length := by have := (List.getElem?_eq_some_iff.1 hv).1; simpa using this
  rw [Lib.add_plain, hB.cell (p := ⟨bk, off + j, none⟩) hb, hc j hj, ← hv]
  simp [List.getD, hj]
def rdSix (s : ByteArray) : Option (List Int) := six2 (cutS s [58, 58]).2.2 (rdGroups (cutS s [58, 58]).1) (rdGroups (cutS s [58, 58]).2.1)
def ReadR (w : World) (v : Bool) (o : Option (List Int)) (e : Ending) (w' : World) : Prop := e = .returned (ipR v o) ∧ Below w.heap.size w w'

set_option maxHeartbeats 1000000 in
set_option maxRecDepth 100000 in
theorem rsix_is (w : World) (E : Env w) (s : ByteArray) (hs : s.size < 4294967281) :
    Calls Tryd.prog 115 #[.string s] w (ReadR w true (rdSix s)) := by
  have HE := Lib.hid (E.alloc (.cells zip16 24))
  have HS := Lib.hid (cutS_size s [58, 58])
  have HO : Hid (rdSix s = six2 (cutS s [58, 58]).2.2 (rdGroups (cutS s [58, 58]).1) (rdGroups (cutS s [58, 58]).2.1)) := Lib.hid rfl
  generalize hX : rdSix s = out at *
  clear hX
  go_enter Tryd.func115, Tryd.ntmps115
  go_wp2_with fail
  refine (cut_call _ HE.out s ⟨#[58, 58]⟩ hs).mono ?_
  rintro e w1 ⟨rfl, hB1, hsz⟩
  rw [show (w.alloc (.cells zip16 24)).heap.size = w.heap.size + 1 by simp] at *
  have HE1 := Lib.hid (HE.out.below (by rw [show (w.alloc (.cells zip16 24)).heap.size = w.heap.size + 1 by simp]; exact hB1))
  have HB1 : Hid (Below w.heap.size w w1) := Lib.hid (((Below.refl w.heap.size w).alloc (Nat.le_refl _) _).trans (hB1.mono (by omega)))
  have Hr := Lib.hid ((Blk.new w 24 zip16).below hB1 (by omega))
  have hs1 : w.heap.size < w1.heap.size := by omega
  clear hB1 hsz HE
  generalize cutS s [58, 58] = c at *
  obtain ⟨hd, tl, sh⟩ := c
  simp only at HS HO
  have hhd : hd.size < 4294967281 := by have := HS.out.1; omega
  have htl : tl.size < 4294967281 := by have := HS.out.2; omega
  go_wp2_with fail
  refine (rgroups_is w1 HE1.out hd hhd).mono ?_
  rintro e w2 ⟨hB2, he⟩
  have HE2 := Lib.hid (HE1.out.below hB2)
  have HB2 := Lib.hid (HB1.out.trans (hB2.mono HB1.out.size))
  have Hr2 := Lib.hid (Hr.out.below hB2 hs1)
  have hs2 : w.heap.size < w2.heap.size := Nat.lt_of_lt_of_le hs1 hB2.size
  clear hB2
  have HBa := Lib.hid (fun ds => rdGroups_bd (s := hd) (ds := ds))
  have HBt := Lib.hid (fun ds => rdGroups_bd (s := tl) (ds := ds))
  cases ha : rdGroups hd with
  | none =>
    rw [ha] at he
    subst he
    have HN : Hid (out = none) := Lib.hid (by rw [HO.out, ha]; rfl)
    clear ha HO
    go_wp2_with fail
    refine (rgroups_is w2 HE2.out tl htl).mono ?_
    rintro e w3 ⟨hB3, he⟩
    have HB3 := Lib.hid (HB2.out.trans (hB3.mono HB2.out.size))
    have Hr3 := Lib.hid (Hr2.out.below hB3 hs2)
    have hex : ∃ x y, e = .returned (.tuple #[x, y]) := by
      cases hb : rdGroups tl with
      | none => rw [hb] at he; exact ⟨_, _, he⟩
      | some b => rw [hb] at he; obtain ⟨A, c, h, _⟩ := he; exact ⟨_, _, h⟩
    clear he hB3
    obtain ⟨x, y, rfl⟩ := hex
    go_wp2_with (refine ip_store rfl _ _ rfl w.heap.size false (List.replicate 16 0) rfl rfl rfl 24 zip16 Hr3.out rfl ?_)
    refine bodyPost_ret (v := ipR true none) ?_ rfl ⟨by rw [HN.out], HB3.out.trans (below_setRow _ _ _ (Nat.le_refl _))⟩
    exact results_cell_slot rfl _ _ w.heap.size 24 _ _ _ rfl rfl (Blk.setRow Hr3.out _) Tryd.underlying24 rfl (by kernel_rfl)
  | some a =>
    rw [ha] at he
    obtain ⟨A, ca, rfl, hra, hca⟩ := he
    have hba := HBa.out a ha
    have HO2 : Hid (out = six2 sh (some a) (rdGroups tl)) := Lib.hid (by rw [HO.out, ha])
    have HRa := Lib.hid hra
    clear ha HO hra
    go_wp2_with fail
    refine (rgroups_is w2 HE2.out tl htl).mono ?_
    rintro e w3 ⟨hB3, he⟩
    have HB3 := Lib.hid (HB2.out.trans (hB3.mono HB2.out.size))
    have Hr3 := Lib.hid (Hr2.out.below hB3 hs2)
    have hs3 : w.heap.size < w3.heap.size := Nat.lt_of_lt_of_le hs2 hB3.size
    have HRa3 : Hid (R16 w3 w3.heap.size A a.length a) := Lib.hid ⟨HRa.out.len, HRa.out.bd, fun hn => by
      obtain ⟨b, off, e, hb, hc⟩ := HRa.out.at_ hn
      exact ⟨b, off, e, Nat.lt_of_lt_of_le hb hB3.size, fun i hi => (hB3.cell (p := ⟨b, off + i, none⟩) hb).trans (hc i hi)⟩⟩
    clear hB3 HRa
    cases hb : rdGroups tl with
    | none =>
      rw [hb] at he
      subst he
      have HN : Hid (out = none) := Lib.hid (by rw [HO2.out, hb]; rfl)
      clear hb HO2
      go_wp2_with (refine ip_store rfl _ _ rfl w.heap.size false (List.replicate 16 0) rfl rfl rfl 24 zip16 Hr3.out rfl ?_)
      refine bodyPost_ret (v := ipR true none) ?_ rfl ⟨by rw [HN.out], HB3.out.trans (below_setRow _ _ _ (Nat.le_refl _))⟩
      exact results_cell_slot rfl _ _ w.heap.size 24 _ _ _ rfl rfl (Blk.setRow Hr3.out _) Tryd.underlying24 rfl (by kernel_rfl)
    | some b =>
      rw [hb] at he
      obtain ⟨Ab, cb, rfl, hrb, hcb⟩ := he
      have hbb := HBt.out b hb
      have HO3 : Hid (out = six2 sh (some a) (some b)) := Lib.hid (by rw [HO2.out, hb])
      have HRb := Lib.hid hrb
      have hla := hba.2
      have hlb := hbb.2
      have HBa2 := Lib.hid hba.1
      have HBb2 := Lib.hid hbb.1
      clear hb HO2 hrb hba hbb HBa HBt
      go_wp2_with fail
      refine (fill_is w3 ((a.length : Int) + (b.length : Int)) sh).mono ?_
      rintro e w' ⟨rfl, rfl⟩
      cases hf : (if sh then decide (((a.length : Int) + (b.length : Int)) < 8) else decide ((a.length : Int) + (b.length : Int) = 8))
      · have HN : Hid (out = none) := Lib.hid (by rw [HO3.out, six2_some, hf]; rfl)
        clear hf HO3
        go_wp2_with (refine ip_store rfl _ _ rfl w.heap.size false (List.replicate 16 0) rfl rfl rfl 24 zip16 Hr3.out rfl ?_)
        refine bodyPost_ret (v := ipR true none) ?_ rfl ⟨by rw [HN.out], HB3.out.trans (below_setRow _ _ _ (Nat.le_refl _))⟩
        exact results_cell_slot rfl _ _ w.heap.size 24 _ _ _ rfl rfl (Blk.setRow Hr3.out _) Tryd.underlying24 rfl (by kernel_rfl)
      · have hab : a.length + b.length ≤ 8 := by
          cases sh
          · simp at hf; omega
          · simp at hf; omega
        have HN : Hid (out = some (ungrp (a ++ List.replicate (8 - (a.length + b.length)) 0 ++ b))) := Lib.hid (by rw [HO3.out, six2_some, hf]; rfl)
        clear hf HO3
        have Hg0 : Hid ((w3.alloc (.cells zg 130)).heap[w3.heap.size]? = some (.cells (u16s (List.replicate 8 0)).toArray 130 (0, 0))) := Lib.hid (Blk.new w3 130 zg)
        have HB0 : Hid (Below w3.heap.size w3 (w3.alloc (.cells zg 130))) := Lib.hid ((Below.refl _ _).alloc (Nat.le_refl _) _)
        have Hs1 := Lib.hid (splice_a a (by omega))
        have Hn1 : Hid ((u16s a).length = Nat.min a.length 8) := Lib.hid (by rw [List.length_map]; exact (Nat.min_eq_left (by omega)).symm)
        have Hn2 : Hid ((u16s b).length = Nat.min b.length b.length) := Lib.hid (by rw [List.length_map]; exact (Nat.min_self _).symm)
        have Hf1 : Hid (0 + (u16s a).length ≤ (u16s (List.replicate 8 0)).length) := Lib.hid (by rw [List.length_map, List.length_map, List.length_replicate]; omega)
        have Hf2 : Hid (8 - b.length + (u16s b).length ≤ (u16s (a ++ List.replicate (8 - a.length) 0)).length) := Lib.hid (by rw [List.length_map, List.length_map, List.length_append, List.length_replicate]; omega)
        have Hs2 := Lib.hid (splice_b a b hab)
        obtain ⟨At, hAt, hslt⟩ := slice_arr_tail (P := Tryd.prog) (t := 130) (e := 50) (n := 8) Tryd.underlying130 (by kernel_rfl) w3.heap.size 0 (8 - b.length) (by omega) ((8 : Int) - (b.length : Int)) (by omega)
        rw [Nat.zero_add, show 8 - (8 - b.length) = b.length by omega] at hAt
        rw [show 8 - (8 - b.length) = b.length by omega] at hslt
        obtain ⟨w4, hcp1, hg4, hB4⟩ := run_copy_ex (P := Tryd.prog) (w3.alloc (.cells zg 130)) 134 134 3 50 Tryd.underlying134 (by kernel_rfl) (some ⟨w3.heap.size, 0, none⟩) A 8 8 a.length ca w3.heap.size 0 (u16s (List.replicate 8 0)) 130 Hg0.out (u16s a) Hn1.out (src16 HRa3.out HB0.out _ _ (fun _ => rfl)) Hf1.out (u16_one a) w3.heap.size w3 HB0.out (Nat.le_refl _)
        rw [splice_a a (by omega)] at hg4
        obtain ⟨w5, hcp2, hg5, hB5⟩ := run_copy_ex (P := Tryd.prog) w4 134 134 3 50 Tryd.underlying134 (by kernel_rfl) At Ab b.length b.length b.length cb w3.heap.size (8 - b.length) (u16s (a ++ List.replicate (8 - a.length) 0)) 130 hg4 (u16s b) Hn2.out (src16 HRb.out hB4 _ _ hAt) Hf2.out (u16_one b) w3.heap.size w3 hB4 (Nat.le_refl _)
        rw [splice_b a b hab] at hg5
        have Hg5 : Hid (Blk w5 w3.heap.size 130 (u16s (a ++ List.replicate (8 - (a.length + b.length)) 0 ++ b)).toArray) := Lib.hid hg5
        have HB5 := Lib.hid hB5
        have Hr5 := Lib.hid (Hr3.out.below hB5 hs3)
        have HB05 := Lib.hid (HB3.out.trans (hB5.mono (Nat.le_of_lt hs3)))
        have Hgl : Hid ((a ++ List.replicate (8 - (a.length + b.length)) 0 ++ b).length = 8) := Lib.hid (by simp; omega)
        have Hgb : Hid (∀ x ∈ a ++ List.replicate (8 - (a.length + b.length)) 0 ++ b, 0 ≤ x ∧ x < 65536) := Lib.hid (by
          intro x hx
          rcases List.mem_append.1 hx with hx | hx
          · rcases List.mem_append.1 hx with hx | hx
            · exact HBa2.out x hx
            · have := (List.mem_replicate.1 hx).2; omega
          · exact HBb2.out x hx)
        have hs5 : w.heap.size < w5.heap.size := Nat.lt_of_lt_of_le hs3 hB5.size
        clear hAt hg4 hB4 hg5 hB5 Hs1 Hs2 Hn1 Hn2 Hf1 Hf2 Hg0 HB0
        generalize a ++ List.replicate (8 - (a.length + b.length)) 0 ++ b = gs at *
        go_wp2_with (refine grp_fetch rfl _ rfl w3.heap.size gs Hgl.out rfl Hg5.out.range ?_)
        refine (gip_is w5 gs Hgl.out Hgb.out).mono ?_
        rintro e w6 ⟨rfl, hB6⟩
        have Hr6 := Lib.hid (Hr5.out.below hB6 hs5)
        have HB06 := Lib.hid (HB05.out.trans (hB6.mono (Nat.le_of_lt hs5)))
        have Hul := Lib.hid (show (ungrp gs).length = 16 by rw [ungrp_len, Hgl.out])
        clear hB6
        go_wp2_with (refine ip_store rfl _ _ rfl w.heap.size true (ungrp gs) Hul.out rfl rfl 24 zip16 Hr6.out rfl ?_)
        refine bodyPost_ret (v := ipR true (some (ungrp gs))) ?_ rfl ⟨by rw [HN.out], HB06.out.trans (below_setRow _ _ _ (Nat.le_refl _))⟩
        exact results_cell_slot rfl _ _ w.heap.size 24 _ _ _ rfl rfl (Blk.setRow Hr6.out _) Tryd.underlying24 rfl (by simpa using ip_size true _ Hul.out)
end Go.Proofs.YtkaimdcepnhkdaaDoor
namespace Go.Proofs.YtkaimdcepnhkdaaDoor
open Go.RowKit
set_option linter.unusedSimpArgs false
set_option linter.unusedVariables false

def dotB (s : ByteArray) : Bool := decide (0 ≤ Lib.indexByte s.data.toList 46)
def rdIp (s : ByteArray) : Option (Bool × List Int) :=
  if dotB s then (octs (splitS s 46 5)).map fun ds => (false, ds ++ List.replicate 12 0) else (rdSix s).map fun l => (true, l)
def ipP (o : Option (Bool × List Int)) : Value := match o with
  | some (v, l) => .tuple #[.agg (ipc v l).toArray, .bool true]
  | none => .tuple #[.agg (ipc false (List.replicate 16 0)).toArray, .bool false]
theorem octs_bd {xs : List ByteArray} {ds : List Int} (h : octs xs = some ds) : ds.length = 4 ∧ Oct ds := by
  unfold octs at h
  split at h
  · rename_i h4
    refine ⟨by rw [mapM_len _ _ _ h]; exact h4, ?_⟩
    clear h4
    induction xs generalizing ds with
    | nil => simp at h; subst h; intro x hx; cases hx
    | cons y ys ih =>
      simp only [List.mapM_cons, Option.bind_eq_bind, Option.bind_eq_some_iff, Option.pure_def, Option.some.injEq] at h
      obtain ⟨a, ha, zs, hz, rfl⟩ := h
      intro x hx
      rcases List.mem_cons.1 hx with rfl | hx
      · have := digits_lt _ _ _ ha; omega
      · exact ih hz x hx
  · cases h
theorem rdSix_bd {s : ByteArray} {l : List Int} (h : rdSix s = some l) : l.length = 16 ∧ Oct l := by
  unfold rdSix at h
  cases ha : rdGroups (cutS s [58, 58]).1 with
  | none => rw [ha] at h; cases h
  | some a =>
    cases hb : rdGroups (cutS s [58, 58]).2.1 with
    | none => rw [ha, hb] at h; cases h
    | some b =>
      rw [ha, hb, six2_some] at h
      by_cases hc : (if (cutS s [58, 58]).2.2 then decide (((a.length : Int) + (b.length : Int)) < 8) else decide ((a.length : Int) + (b.length : Int) = 8)) = true
      · rw [if_pos hc] at h
        have hba := rdGroups_bd ha
        have hbb := rdGroups_bd hb
        have hab : a.length + b.length ≤ 8 := by
          split at hc
          · simp at hc; omega
          · simp at hc; omega
        cases h
        constructor
        · rw [ungrp_len]; simp; omega
        · refine ungrp_oct _ ?_
          intro x hx
          rcases List.mem_append.1 hx with hx | hx
          · rcases List.mem_append.1 hx with hx | hx
            · exact hba.1 x hx
            · have := (List.mem_replicate.1 hx).2; omega
          · exact hbb.1 x hx
      · rw [if_neg hc] at h; cases h
theorem rdIp_bd {s : ByteArray} {v : Bool} {l : List Int} (h : rdIp s = some (v, l)) : l.length = 16 ∧ Oct l ∧ rightB v l = true := by
  unfold rdIp at h
  split at h
  · obtain ⟨ds, hd, he⟩ := Option.map_eq_some_iff.1 h
    simp only [Prod.mk.injEq] at he
    obtain ⟨rfl, rfl⟩ := he
    have := octs_bd hd
    refine ⟨by simp [this.1], ?_, ?_⟩
    · intro x hx
      rcases List.mem_append.1 hx with hx | hx
      · exact this.2 x hx
      · have := (List.mem_replicate.1 hx).2; omega
    · unfold rightB
      rw [show (ds ++ List.replicate 12 (0 : Int)).drop 4 = List.replicate 12 0 by rw [← this.1, List.drop_left]]
      simp
  · obtain ⟨ds, hd, he⟩ := Option.map_eq_some_iff.1 h
    simp only [Prod.mk.injEq] at he
    obtain ⟨rfl, rfl⟩ := he
    have := rdSix_bd hd
    exact ⟨this.1, this.2, rfl⟩
def RIp (w : World) (o : Option (Bool × List Int)) (e : Ending) (w' : World) : Prop := e = .returned (ipP o) ∧ Below w.heap.size w w'
theorem ipP_four (o : Option (List Int)) : ipOf o = ipP (o.map fun ds => (false, ds ++ List.replicate 12 0)) := by cases o <;> rfl
theorem ipP_six (o : Option (List Int)) : ipR true o = ipP (o.map fun l => (true, l)) := by cases o <;> rfl

set_option maxHeartbeats 1000000 in
set_option maxRecDepth 100000 in
theorem rip_is (w : World) (E : Env w) (s : ByteArray) (hs : s.size < 4294967281) : Calls Tryd.prog 73 #[.string s] w (RIp w (rdIp s)) := by
  have HE := Lib.hid (E.alloc (.cells zip16 24))
  have HR := Lib.hid (Blk.new w 24 zip16)
  have HBD := Lib.hid (fun v l => rdIp_bd (s := s) (v := v) (l := l))
  have HO : Hid (rdIp s = if dotB s then (octs (splitS s 46 5)).map fun ds => (false, ds ++ List.replicate 12 0) else (rdSix s).map fun l => (true, l)) := Lib.hid rfl
  have Hc : Hid (Calls Tryd.prog 113 #[.string s, .string ⟨#[46]⟩] (w.alloc (.cells zip16 24)) fun e w' => e = .returned (.bool (dotB s)) ∧ w' = (w.alloc (.cells zip16 24))) := Lib.hid (Tryd.strings_Contains_one s 46 _)
  generalize hX : rdIp s = out at *
  clear hX
  go_enter Tryd.func73, Tryd.ntmps73
  go_wp2_with fail
  refine Hc.out.mono ?_
  rintro e w' ⟨rfl, rfl⟩
  clear Hc
  cases hd : dotB s
  · rw [hd] at HO
    have HO2 : Hid (out = (rdSix s).map fun l => (true, l)) := Lib.hid HO.out
    clear HO hd
    go_wp2_with fail
    refine (rsix_is _ HE.out s hs).mono ?_
    rintro e w1 ⟨he, hB⟩
    rw [ipP_six, ← HO2.out] at he
    subst he
    have HB : Hid (Below w.heap.size w w1) := Lib.hid (((Below.refl _ _).alloc (Nat.le_refl _) _).trans (hB.mono (by simp)))
    have Hr := Lib.hid (HR.out.below hB (by simp))
    clear hB HO2 HR
    cases out with
    | none =>
      simp only [ipP]
      go_wp2_with (refine ip_store rfl _ _ rfl w.heap.size false (List.replicate 16 0) rfl rfl rfl 24 zip16 Hr.out rfl ?_)
      refine bodyPost_ret (v := ipP none) ?_ rfl ⟨rfl, HB.out.trans (below_setRow _ _ _ (Nat.le_refl _))⟩
      exact results_cell_slot rfl _ _ w.heap.size 24 _ _ _ rfl rfl (Blk.setRow Hr.out _) Tryd.underlying24 rfl (by kernel_rfl)
    | some x =>
      obtain ⟨v, l⟩ := x
      have Hl := Lib.hid (HBD.out v l rfl).1
      simp only [ipP]
      go_wp2_with (refine ip_store rfl _ _ rfl w.heap.size v l Hl.out rfl rfl 24 zip16 Hr.out rfl ?_)
      refine bodyPost_ret (v := ipP (some (v, l))) ?_ rfl ⟨rfl, HB.out.trans (below_setRow _ _ _ (Nat.le_refl _))⟩
      exact results_cell_slot rfl _ _ w.heap.size 24 _ _ _ rfl rfl (Blk.setRow Hr.out _) Tryd.underlying24 rfl (by simpa using ip_size v l Hl.out)
  · rw [hd] at HO
    have HO2 : Hid (out = (octs (splitS s 46 5)).map fun ds => (false, ds ++ List.replicate 12 0)) := Lib.hid HO.out
    clear HO hd
    go_wp2_with fail
    refine (rfour_is _ HE.out s hs).mono ?_
    rintro e w1 ⟨he, hB⟩
    rw [ipP_four, ← HO2.out] at he
    subst he
    have HB : Hid (Below w.heap.size w w1) := Lib.hid (((Below.refl _ _).alloc (Nat.le_refl _) _).trans (hB.mono (by simp)))
    have Hr := Lib.hid (HR.out.below hB (by simp))
    clear hB HO2 HR
    cases out with
    | none =>
      simp only [ipP]
      go_wp2_with (refine ip_store rfl _ _ rfl w.heap.size false (List.replicate 16 0) rfl rfl rfl 24 zip16 Hr.out rfl ?_)
      refine bodyPost_ret (v := ipP none) ?_ rfl ⟨rfl, HB.out.trans (below_setRow _ _ _ (Nat.le_refl _))⟩
      exact results_cell_slot rfl _ _ w.heap.size 24 _ _ _ rfl rfl (Blk.setRow Hr.out _) Tryd.underlying24 rfl (by kernel_rfl)
    | some x =>
      obtain ⟨v, l⟩ := x
      have Hl := Lib.hid (HBD.out v l rfl).1
      simp only [ipP]
      go_wp2_with (refine ip_store rfl _ _ rfl w.heap.size v l Hl.out rfl rfl 24 zip16 Hr.out rfl ?_)
      refine bodyPost_ret (v := ipP (some (v, l))) ?_ rfl ⟨rfl, HB.out.trans (below_setRow _ _ _ (Nat.le_refl _))⟩
      exact results_cell_slot rfl _ _ w.heap.size 24 _ _ _ rfl rfl (Blk.setRow Hr.out _) Tryd.underlying24 rfl (by simpa using ip_size v l Hl.out)

def ipE (o : Option (Bool × List Int)) : Value := match o with
  | some (v, l) => .tuple #[.agg (ipc v l).toArray, .int .i64 0]
  | none => .tuple #[.agg (ipc false (List.replicate 16 0)).toArray, .int .i64 4]
def PIp (w : World) (o : Option (Bool × List Int)) (e : Ending) (w' : World) : Prop := e = .returned (ipE o) ∧ Below w.heap.size w w'
set_option maxHeartbeats 1000000 in
set_option maxRecDepth 100000 in
theorem pip_is (w : World) (E : Env w) (s : ByteArray) (hs : s.size < 4294967281) : Calls Tryd.prog 13 #[.string s] w (PIp w (rdIp s)) := by
  have HE := Lib.hid (E.alloc (.cells zip16 24))
  have HR := Lib.hid (Blk.new w 24 zip16)
  have HBD := Lib.hid (fun v l => rdIp_bd (s := s) (v := v) (l := l))
  have HC := Lib.hid (rip_is (w.alloc (.cells zip16 24)) HE.out s hs)
  generalize rdIp s = out at *
  go_enter Tryd.func13, Tryd.ntmps13
  go_wp2_with fail
  refine HC.out.mono ?_
  rintro e w1 ⟨rfl, hB⟩
  have HB : Hid (Below w.heap.size w w1) := Lib.hid (((Below.refl _ _).alloc (Nat.le_refl _) _).trans (hB.mono (by simp)))
  have Hr := Lib.hid (HR.out.below hB (by simp))
  have hs1 : w.heap.size < w1.heap.size := by have := hB.size; simp at this; omega
  clear hB HR HC
  have Hn0 := Lib.hid (Blk.new w1 24 zip16)
  cases out with
  | none =>
    simp only [ipP]
    have Hr2 : Hid (Blk ((w1.alloc (.cells zip16 24)).setRow w1.heap.size (ipc false (List.replicate 16 0)).toArray) w.heap.size 24 zip16) := Lib.hid ((Hr.out.alloc _).below (below_setRow _ w1.heap.size _ (Nat.le_refl _)) hs1)
    have HB2 : Hid (Below w.heap.size w ((w1.alloc (.cells zip16 24)).setRow w1.heap.size (ipc false (List.replicate 16 0)).toArray)) := Lib.hid ((HB.out.alloc (Nat.le_of_lt hs1) _).trans (below_setRow _ _ _ (Nat.le_of_lt hs1)))
    go_wp2_with (first
      | (refine ip_store (o := ⟨none, .store _ (.tmp 4) _, _, _, _, _⟩) rfl _ _ rfl w1.heap.size false (List.replicate 16 0) rfl rfl rfl 24 zip16 Hn0.out rfl ?_)
      | (refine ip_store (o := ⟨none, .store _ (.tmp 2) _, _, _, _, _⟩) rfl _ _ rfl w.heap.size false (List.replicate 16 0) rfl rfl rfl 24 zip16 Hr2.out rfl ?_))
    refine bodyPost_ret (v := ipE none) ?_ rfl ⟨rfl, HB2.out.trans (below_setRow _ _ _ (Nat.le_refl _))⟩
    exact results_cell_slot rfl _ _ w.heap.size 24 _ _ _ rfl rfl (Blk.setRow Hr2.out _) Tryd.underlying24 rfl (by kernel_rfl)
  | some x =>
    obtain ⟨v, l⟩ := x
    have Hl := Lib.hid (HBD.out v l rfl).1
    simp only [ipP]
    have Hn2 : Hid (Blk ((w1.alloc (.cells zip16 24)).setRow w1.heap.size (ipc v l).toArray) w1.heap.size 24 (ipc v l).toArray) := Lib.hid (Blk.setRow Hn0.out _)
    have Hr2 : Hid (Blk ((w1.alloc (.cells zip16 24)).setRow w1.heap.size (ipc v l).toArray) w.heap.size 24 zip16) := Lib.hid ((Hr.out.alloc _).below (below_setRow _ w1.heap.size _ (Nat.le_refl _)) hs1)
    have HB2 : Hid (Below w.heap.size w ((w1.alloc (.cells zip16 24)).setRow w1.heap.size (ipc v l).toArray)) := Lib.hid ((HB.out.alloc (Nat.le_of_lt hs1) _).trans (below_setRow _ _ _ (Nat.le_of_lt hs1)))
    go_wp2_with (first
      | (refine ip_store (o := ⟨none, .store _ (.tmp 4) _, _, _, _, _⟩) rfl _ _ rfl w1.heap.size v l Hl.out rfl rfl 24 zip16 Hn0.out rfl ?_)
      | (refine ip_fetch rfl _ rfl w1.heap.size 0 v l Hl.out rfl Hn2.out.range ?_)
      | (refine ip_store (o := ⟨none, .store _ (.tmp 2) _, _, _, _, _⟩) rfl _ _ rfl w.heap.size v l Hl.out rfl rfl 24 zip16 Hr2.out rfl ?_))
    refine bodyPost_ret (v := ipE (some (v, l))) ?_ rfl ⟨rfl, HB2.out.trans (below_setRow _ _ _ (Nat.le_refl _))⟩
    exact results_cell_slot rfl _ _ w.heap.size 24 _ _ _ rfl rfl (Blk.setRow Hr2.out _) Tryd.underlying24 rfl (by simpa using ip_size v l Hl.out)
end Go.Proofs.YtkaimdcepnhkdaaDoor
