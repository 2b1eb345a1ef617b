/-
  Layer 2 (addr): readFour.
-/
import Derived.Test.YtkaimdcepnhkdaaDoorAdL
namespace Go.Proofs.YtkaimdcepnhkdaaDoor
open Go.RowKit
set_option linter.unusedSimpArgs false
set_option linter.unusedVariables false

/-- s, parted at each c, into n parts at most. -/
def splitS (s : ByteArray) (c : UInt8) (n : Nat) : List ByteArray := Lib.splitB ⟨#[c]⟩ 0 (min n (s.size + 1) - 1) s
theorem splitB_size (sep : ByteArray) : ∀ (k : Nat) (s x : ByteArray), x ∈ Lib.splitB sep 0 k s → x.size ≤ s.size
  | 0, s, x, h => by rw [Lib.splitB_zero] at h; simp at h; rw [h]; exact Nat.le_refl _
  | k + 1, s, x, h => by
    unfold Lib.splitB at h
    split at h
    · simp at h; rw [h]; exact Nat.le_refl _
    · rcases List.mem_cons.1 h with rfl | h
      · rw [ByteArray.size_extract]; omega
      · have := splitB_size sep k _ x h
        rw [ByteArray.size_extract] at this
        omega
theorem splitS_size (s : ByteArray) (c : UInt8) (n : Nat) : ∀ x ∈ splitS s c n, x.size ≤ s.size := fun x hx => splitB_size _ _ _ x hx
theorem splitS_len (s : ByteArray) (c : UInt8) (n : Nat) (hn : 1 ≤ n) : (splitS s c n).length ≤ n := by
  have := Lib.splitB_length_le ⟨#[c]⟩ 0 (min n (s.size + 1) - 1) s
  unfold splitS
  omega
/-- The cells hold the strings xs. -/
def Strs (w : World) (g : Nat) (xs : List ByteArray) : Prop := ∀ i (h : i < xs.length), w.cell? ⟨g, i, none⟩ = some (.string xs[i])
theorem Strs.below {w w' : World} {g B : Nat} {xs : List ByteArray} (h : Strs w g xs) (hB : Below B w w') (hg : g < B) : Strs w' g xs := fun i hi => (hB.cell (p := ⟨g, i, none⟩) hg).trans (h i hi)
theorem split_is (w : World) (E : Env w) (s : ByteArray) (c : UInt8) (n : Nat) (hs : s.size < 4294967281) (h1 : 1 ≤ n) (h2 : n ≤ 9223372036854775807) (m : Int) (hm : m = n) :
    Calls Tryd.prog 133 #[.string s, .string ⟨#[c]⟩, .int .i64 m] w fun e w' => e = .returned (.slice (some ⟨w.heap.size, 0, none⟩) (splitS s c n).length (min n (s.size + 1))) ∧ Strs w' w.heap.size (splitS s c n) ∧ Below w.heap.size w w' ∧ w'.heap.size = w.heap.size + 1 := by
  subst hm
  obtain ⟨mx, hmx⟩ := E.mx
  refine (Tryd.strings_SplitN s ⟨#[c]⟩ n mx w hs hmx (by show 1 ≤ (#[c] : Array UInt8).size; simp) h1 h2).mono ?_
  rintro e w' ⟨rfl, rfl⟩
  refine ⟨rfl, fun i hi => ?_, (Below.refl _ _).alloc (Nat.le_refl _) _, by simp⟩
  rw [World.cell?_alloc_new]
  have hi' : i < (Lib.splitB ⟨#[c]⟩ 0 (min n (s.size + 1) - 1) s).length := hi
  simp [Lib.cellsOf, List.getElem?_append_left, hi']
  rfl

/-- Four numbers. -/
def octs (xs : List ByteArray) : Option (List Int) := if xs.length = 4 then xs.mapM (fun x => digits x.data.toList 255) else none
def ipOf (o : Option (List Int)) : Value := match o with
  | some ds => .tuple #[.agg (ipc false (ds ++ List.replicate 12 0)).toArray, .bool true]
  | none => .tuple #[.agg (ipc false (List.replicate 16 0)).toArray, .bool false]
theorem mapM_snoc {α β : Type} (f : α → Option β) (xs : List α) (k : Nat) (hk : k < xs.length) (ds : List β) (d : β) (h : (xs.take k).mapM f = some ds) (hd : f xs[k] = some d) : (xs.take (k + 1)).mapM f = some (ds ++ [d]) := by
  rw [List.take_succ_eq_append_getElem hk, List.mapM_append, h]
  simp [hd]
theorem mapM_fail {α β : Type} (f : α → Option β) : ∀ (xs : List α) (k : Nat) (hk : k < xs.length), f xs[k] = none → xs.mapM f = none
  | x :: xs, 0, _, h => by simp at h; simp [List.mapM_cons, h]
  | x :: xs, k + 1, hk, h => by
    have := mapM_fail f xs k (by simpa using hk) (by simpa using h)
    simp [List.mapM_cons, this]
theorem mapM_len {α β : Type} (f : α → Option β) : ∀ (xs : List α) (ds : List β), xs.mapM f = some ds → ds.length = xs.length
  | [], ds, h => by simp at h; simp [← h]
  | x :: xs, ds, h => by
    simp only [List.mapM_cons, Option.bind_eq_bind, Option.bind_eq_some_iff, Option.pure_def, Option.some.injEq] at h
    obtain ⟨y, _, ys, hy, rfl⟩ := h
    simp [mapM_len f xs ys hy]
abbrev zip16 : Array Value := #[Value.bool false, Value.int .u8 0, Value.int .u8 0, Value.int .u8 0, Value.int .u8 0, Value.int .u8 0, Value.int .u8 0, Value.int .u8 0, Value.int .u8 0, Value.int .u8 0, Value.int .u8 0, Value.int .u8 0, Value.int .u8 0, Value.int .u8 0, Value.int .u8 0, Value.int .u8 0, Value.int .u8 0]
theorem ip_store {ops : Array Oper} {rest : List Oper} {o : Oper} {a : Act} {w : World} {Q : Exit → Act → World → Prop} (hgd : o.guard = none) (x y : Operand) (ho : o.op = .store 24 x y) (g : Nat) (v : Bool) (l : List Int) (hl : l.length = 16)
    (hx : a.eval x = .pointer (some ⟨g, 0, none⟩)) (hy : a.eval y = .agg (ipc v l).toArray) (t : TypeId) (old : Array Value) (hg : Blk w g t old) (hold : old.size = 17)
    (h : wpList Tryd.prog ops Q rest (a.put o.dst undef) (w.setRow g (ipc v l).toArray)) : wpList Tryd.prog ops Q (o :: rest) a w :=
  wpList_store_row hgd 24 x y ho g _ hx hy t old hg (by simpa using ip_size v l hl) (by rw [hold]; simp [hl]) (all_oneCell_toArray (by
    intro z hz
    rcases List.mem_cons.1 hz with rfl | hz
    · rfl
    · exact u8s_one l z hz)) h
theorem octs_fill (ds : List Int) (k : Nat) (hk : ds.length = k) (h4 : k < 4) (d : Int) : (ipc false (ds ++ List.replicate (16 - k) 0)).toArray.setIfInBounds (1 + k) (.int .u8 d) = (ipc false ((ds ++ [d]) ++ List.replicate (16 - (k + 1)) 0)).toArray ∧ (ipc false (ds ++ List.replicate (16 - k) 0)).toArray[1 + k]? = some (.int .u8 0) := by
  rw [show 16 - k = 16 - (k + 1) + 1 by omega, List.replicate_succ]
  exact ⟨by rw [ipc_set false ds _ _ _ k hk]; simp, ipc_get false ds _ _ k hk⟩
def ReadIp (w : World) (o : Option (List Int)) (e : Ending) (w' : World) : Prop := e = .returned (ipOf o) ∧ Below w.heap.size w w'

set_option maxHeartbeats 1000000 in
set_option maxRecDepth 100000 in
theorem rfour_is (w : World) (E : Env w) (s : ByteArray) (hs : s.size < 4294967281) :
    Calls Tryd.prog 114 #[.string s] w (ReadIp w (octs (splitS s 46 5))) := by
  have HE := Lib.hid (E.alloc (.cells zip16 24))
  have HS := Lib.hid (splitS_size s 46 5)
  have HL := Lib.hid (splitS_len s 46 5 (by omega))
  go_enter Tryd.func114, Tryd.ntmps114
  go_wp2_with fail
  refine (split_is _ HE.out s 46 5 hs (by omega) (by omega) 5 rfl).mono ?_
  rintro e w1 ⟨rfl, hst, hB1, hsz⟩
  rw [show (w.alloc (.cells zip16 24)).heap.size = w.heap.size + 1 by simp] at *
  have HB1 : Hid (Below w.heap.size w w1) := Lib.hid (((Below.refl w.heap.size w).alloc (Nat.le_refl _) _).trans (hB1.mono (by omega)))
  have Hr := Lib.hid ((Blk.new w 24 zip16).below hB1 (by omega))
  have HT := Lib.hid hst
  have HZ := Lib.hid hsz
  have hs1 : w.heap.size + 1 < w1.heap.size := by omega
  generalize hX : splitS s 46 5 = xs at *
  have HX := Lib.hid hX
  have hl5 := HL.out
  clear hst hB1 hsz hX
  by_cases h4 : xs.length = 4
  · have hb4 : ((xs.length : Int) != 4) = false := by simp [h4]
    have HO : Hid (octs xs = xs.mapM (fun x => digits x.data.toList 255)) := Lib.hid (by unfold octs; rw [if_pos h4])
    have H4 := Lib.hid h4
    have hl4 : xs.length ≤ 4 := by omega
    clear h4
    go_wp2
    have Ha0 := Lib.hid (Blk.new w1 24 zip16)
    have Hr0 := Lib.hid (Hr.out.alloc (.cells zip16 24))
    have HT0 : Hid (Strs (w1.alloc (.cells zip16 24)) (w.heap.size + 1) xs) := Lib.hid (HT.out.below ((Below.refl _ _).alloc (Nat.le_refl _) _) hs1)
    have HB0 : Hid (Below w.heap.size w (w1.alloc (.cells zip16 24))) := Lib.hid (HB1.out.alloc (by omega) _)
    go_loopw [6, 7, 8, 9, 18] (fun _ _ _ _ i wr => ∃ (k : Nat) (ds : List Int), k ≤ xs.length ∧ i = .int .i64 k ∧ (xs.take k).mapM (fun x => digits x.data.toList 255) = some ds ∧ Blk wr w1.heap.size 24 (ipc false (ds ++ List.replicate (16 - k) 0)).toArray ∧ Blk wr w.heap.size 24 zip16 ∧ Strs wr (w.heap.size + 1) xs ∧ Below w.heap.size w wr) (fun _ _ _ _ i _ => xs.length - (intOf i).toNat)
    case atStart => exact ⟨0, [], Nat.zero_le _, rfl, rfl, Ha0.out, Hr0.out, HT0.out, HB0.out⟩
    case round =>
      obtain ⟨k, ds, hk, rfl, hds, ha, hr, hst, hB⟩ := hrel
      have hdl : ds.length = k := by have := mapM_len _ _ _ hds; simpa [Nat.min_eq_left hk] using this
      have HD := Lib.hid hds
      have HA := Lib.hid ha
      have HRr := Lib.hid hr
      have HTt := Lib.hid hst
      have HBb := Lib.hid hB
      have HDL := Lib.hid hdl
      clear hds ha hr hst hB hdl
      by_cases hlt : k < xs.length
      · have hc := HTt.out k hlt
        have hxs : xs[k].size ≤ s.size := HS.out _ (List.getElem_mem hlt)
        have HSn := Lib.hid (mapM_snoc (fun x => digits x.data.toList 255) xs k hlt ds)
        have HFa := Lib.hid (mapM_fail (fun x : ByteArray => digits x.data.toList 255) xs k hlt)
        generalize xs[k] = x at *
        go_wp2_with fail
        refine (digits_is wr x 255 (by omega) (by omega) (by omega)).mono ?_
        rintro e w' ⟨rfl, rfl⟩
        cases hd : digits x.data.toList 255 with
        | none =>
          have HN : Hid (octs xs = none) := Lib.hid (by rw [HO.out]; exact HFa.out hd)
          clear hd
          simp only [digV, Option.getD_none, Option.isSome_none]
          go_wp2_with (refine ip_store rfl _ _ rfl w.heap.size false (List.replicate 16 0) rfl rfl rfl 24 zip16 HRr.out rfl ?_)
          refine bodyPost_ret (v := ipOf none) ?_ rfl ⟨by rw [HN.out], HBb.out.trans (below_setRow _ _ _ (Nat.le_refl _))⟩
          exact results_cell_slot rfl _ _ w.heap.size 24 _ _ _ rfl rfl (Blk.setRow HRr.out _) Tryd.underlying24 rfl (by kernel_rfl)
        | some d =>
          have hdb := digits_lt _ _ _ hd
          have HS2 := Lib.hid (HSn.out d HD.out hd)
          have hcell := HA.out.cell (1 + k)
          rw [(octs_fill ds k HDL.out (by omega) d).2] at hcell
          have hfz := HA.out.frozen (1 + k)
          have hset := HA.out.set_ (1 + k) (.int .u8 d)
          rw [(octs_fill ds k HDL.out (by omega) d).1] at hset
          have HSet := Lib.hid hset
          have HR2 := Lib.hid (show Blk (wr.setCell ⟨w1.heap.size, 1 + k, none⟩ (.int .u8 d)) w.heap.size 24 zip16 from HRr.out.far (show w.heap.size ≠ w1.heap.size by omega) _)
          have HT2 : Hid (Strs (wr.setCell ⟨w1.heap.size, 1 + k, none⟩ (.int .u8 d)) (w.heap.size + 1) xs) := Lib.hid (HTt.out.below ((Below.refl (w.heap.size + 1 + 1) wr).setCell (p := ⟨w1.heap.size, 1 + k, none⟩) (show w.heap.size + 1 + 1 ≤ w1.heap.size by omega) _) (by omega))
          have HB2 := Lib.hid (HBb.out.setCell (p := ⟨w1.heap.size, 1 + k, none⟩) (show w.heap.size ≤ w1.heap.size by omega) (.int .u8 d))
          clear hd hset
          simp only [digV, Option.getD_some, Option.isSome_some]
          go_wp2
          refine ⟨⟨k + 1, ds ++ [d], by omega, by go_num, HS2.out, HSet.out, HR2.out, HT2.out, HB2.out⟩, by simp [intOf]; omega⟩
      · obtain rfl : k = xs.length := by omega
        have hds := HD.out
        rw [List.take_length] at hds
        have HM : Hid (octs xs = some ds) := Lib.hid (by rw [HO.out]; exact hds)
        have hdl : ds.length = 4 := by rw [HDL.out]; exact H4.out
        have h12 := H4.out
        have HA2 := Lib.hid (show Blk wr w1.heap.size 24 (ipc false (ds ++ List.replicate 12 0)).toArray by have := HA.out; rw [show 16 - xs.length = 12 by omega] at this; exact this)
        have HD4 := Lib.hid (show (ds ++ List.replicate 12 0).length = 16 by simp [hdl])
        clear hds hdl h12
        go_wp2_with (first
          | (refine ip_fetch rfl _ rfl w1.heap.size 0 false (ds ++ List.replicate 12 0) HD4.out rfl HA2.out.range ?_)
          | (refine ip_store rfl _ _ rfl w.heap.size false (ds ++ List.replicate 12 0) HD4.out rfl rfl 24 zip16 HRr.out rfl ?_))
        refine bodyPost_ret (v := ipOf (some ds)) ?_ rfl ⟨by rw [HM.out], HBb.out.trans (below_setRow _ _ _ (Nat.le_refl _))⟩
        exact results_cell_slot rfl _ _ w.heap.size 24 _ _ _ rfl rfl (Blk.setRow HRr.out _) Tryd.underlying24 rfl (by simpa using ip_size false _ HD4.out)
  · have hb4 : ((xs.length : Int) != 4) = true := by simp; omega
    have HN : Hid (octs xs = none) := Lib.hid (by unfold octs; rw [if_neg h4])
    clear h4
    go_wp2_with (refine ip_store rfl _ _ rfl w.heap.size false (List.replicate 16 0) rfl rfl rfl 24 zip16 Hr.out rfl ?_)
    refine bodyPost_ret (v := ipOf none) ?_ rfl ⟨by rw [HN.out], HB1.out.trans (below_setRow _ _ _ (Nat.le_refl _))⟩
    exact results_cell_slot rfl _ _ w.heap.size 24 _ _ _ rfl rfl (Blk.setRow Hr.out _) Tryd.underlying24 rfl (by kernel_rfl)
end Go.Proofs.YtkaimdcepnhkdaaDoor
