/-
  Layer 8: the document's Put (genHeT.py).
-/
import Derived.Test.YtgfjjkckamppoaaDoorHeS
import Derived.Test.YtgfjjkckamppoaaDoorHeN
namespace Go.Proofs.YtgfjjkckamppoaaDoor
open Go.RowKit
set_option maxRecDepth 100000
set_option linter.unusedSimpArgs false
set_option linter.unusedVariables false

/-- The memory of the document's Put: the hello's box, bytes of its own; what was put together before. -/
structure PqS (w W : World) (lo : Nat) (h : Hl) (A : Option Addr) (n : Nat) (cs : List Int) (v : Value) (l : List Int) : Prop where
  low : Below w.heap.size w W
  box : HlAt W w.heap.size h
  caps : Rd W lo A n cs
  own : OwnB lo W v l
  ll : lo ≤ W.heap.size
  lo : w.heap.size + 1 ≤ lo
section
variable {w W W' : World} {lo n : Nat} {h : Hl} {A : Option Addr} {cs l l' : List Int} {v v' : Value}
theorem PqS.below (k : PqS w W lo h A n cs v l) (hB : Below W.heap.size W W') : PqS w W' lo h A n cs v l := ⟨k.low.trans (hB.mono k.low.size), k.box.below hB k.box.lt, k.caps.below (hB.mono k.ll), k.own.below hB, Nat.le_trans k.ll hB.size, k.lo⟩
theorem PqS.app (k : PqS w W lo h A n cs v l) (ho : OwnB lo W' v' l') (hB : Below lo W W') : PqS w W' lo h A n cs v' l' := ⟨k.low.trans (hB.mono (Nat.le_trans (Nat.le_succ _) k.lo)), k.box.below hB k.lo, k.caps.below hB, ho, Nat.le_trans k.ll hB.size, k.lo⟩
theorem PqS.c (k : PqS w W lo h A n cs v l) : W.cell? ⟨w.heap.size, 0, none⟩ = some (.int .u32 h.as_) ∧ W.cell? ⟨w.heap.size, 1, none⟩ = some (.int .i64 h.hold) ∧ W.cell? ⟨w.heap.size, 2, none⟩ = some (.int .u32 h.id_) ∧ W.cell? ⟨w.heap.size, 3, none⟩ = some (.bool h.ev) ∧ W.cell? ⟨w.heap.size, 4, none⟩ = some (.bool h.wd) ∧ W.cell? ⟨w.heap.size, 5, none⟩ = some (.bool h.rf) :=
  ⟨k.box.cell 0, k.box.cell 1, k.box.cell 2, k.box.cell 3, k.box.cell 4, k.box.cell 5⟩
end
theorem OwnB.cap_le {lo : Nat} {w : World} {A : Option Addr} {n c : Nat} {l : List Int} (h : OwnB lo w (.slice A n c) l) : n ≤ c := by
  obtain ⟨A', c', e, hc, _, _⟩ := h.at_
  injection e with e1 e2 e3
  subst e1 e2 e3
  exact hc
theorem byt_new (W : World) (l : List Int) (ho : Oct l) : Rd (W.alloc (.cells (u8s l).toArray 5)) (W.alloc (.cells (u8s l).toArray 5)).heap.size (some ⟨W.heap.size, 0, none⟩) l.length l := by
  have h : Byt (W.alloc (.cells (u8s l).toArray 5)) W.heap.size 5 l := Blk.new W 5 (u8s l).toArray
  exact h.rd_all ho h.lt
theorem own_new (W : World) (l : List Int) (ho : Oct l) (hl : l.length ≤ 1000) : OwnB W.heap.size (W.alloc (.cells (u8s l).toArray 5)) (.slice (some ⟨W.heap.size, 0, none⟩) l.length l.length) l :=
  ⟨⟨by simp, Or.inr ⟨W.heap.size, l.length, (u8s l).toArray, rfl, Nat.le_refl _, Blk.new W 5 _, Nat.le_refl _, by unfold maxLen; omega, by simp, by simp [List.take_of_length_le]⟩⟩, ho⟩
theorem oct1 {x : Int} (hx : 0 ≤ x ∧ x < 256) : Oct [x] := fun y hy => by rw [List.mem_singleton] at hy; subst hy; exact hx
theorem oct3 {x y z : Int} (hx : 0 ≤ x ∧ x < 256) (hy : 0 ≤ y ∧ y < 256) (hz : 0 ≤ z ∧ z < 256) : Oct [x, y, z] := fun u hu => by
  simp only [List.mem_cons, List.mem_nil_iff, or_false] at hu
  rcases hu with rfl | rfl | rfl
  · exact hx
  · exact hy
  · exact hz
theorem oct5 {x y z u v : Int} (hx : 0 ≤ x ∧ x < 256) (hy : 0 ≤ y ∧ y < 256) (hz : 0 ≤ z ∧ z < 256) (hu : 0 ≤ u ∧ u < 256) (hv : 0 ≤ v ∧ v < 256) : Oct [x, y, z, u, v] := fun a ha => by
  simp only [List.mem_cons, List.mem_nil_iff, or_false] at ha
  rcases ha with rfl | rfl | rfl | rfl | rfl
  · exact hx
  · exact hy
  · exact hz
  · exact hu
  · exact hv
/-- The body as the document puts it together. -/
theorem putB_parts (h : Hl) (hp : rightH h = true) : putB h = [4, shA h.as_ / 256 % 256, shA h.as_ % 256, h.hold / 256 % 256, h.hold % 256] ++ be 4 h.id_ ++ (if capsB h = [] then [0] else [((capsB h).length : Int) + 2, 2, ((capsB h).length : Int)] ++ capsB h) := by
  have hle := capsB_le h
  have hc := putB_cons h
  rw [hc, be4]
  unfold parB
  split
  · simp
  · have e : ((2 :: ((capsB h).length : Int) :: capsB h).length : Int) % 256 = ((capsB h).length : Int) + 2 := by
      simp only [List.length_cons]
      omega
    rw [e]
    simp
theorem rput_no (w : World) (h : Hl) (hr : rightH h = false) : Calls Tryd.prog 11 #[.agg (hlc h).toArray] w (PutH w h) := by
  have HR : Hid (∀ W, Calls Tryd.prog _ _ W _) := Lib.hid (fun W => rright_is W h)
  have HBd : Hid (bodyH h = [] ∧ errH h = 2) := Lib.hid (by unfold bodyH errH; rw [if_neg (by rw [hr]; decide), if_neg (by rw [hr]; decide)]; exact ⟨rfl, rfl⟩)
  rw [hr] at HR
  have HB0 := Lib.hid (below_one8 w (.cells (hlc h).toArray 24))
  have HX0 := Lib.hid (Blk.new w 24 (hlc h).toArray)
  clear hr
  go_enter Tryd.func11, Tryd.ntmps11
  go_wp2_with (refine h_fetch rfl _ rfl w.heap.size h 24 rfl HX0.out ?_)
  refine (HR.out _).mono ?_
  rintro e W1 ⟨rfl, hB⟩
  have HB1 := Lib.hid (HB0.out.trans (hB.mono HB0.out.size))
  clear hB HB0 HX0 HR
  go_wp2
  go_ret2
  exact ⟨none, 0, 0, by rw [HBd.out.2]; rfl, by rw [HBd.out.1]; rfl, Nat.le_refl _, by rw [HBd.out.1]; exact Rd.nil_ _, HB1.out⟩
theorem app_wp8 {Q : Exit → Act → World → Prop} {K : Act → World → Prop} {o : Oper} {a : Act} (s x : Operand)
    (ho : o.op = .call { callee := .builtin .append, args := #[s, x], argTypes := #[25, 25] }) {lo : Nat} {w : World} {v : Value} {P : List Int} (h : OwnB lo w v P) (hlo : lo ≤ w.heap.size)
    {ad : Addr} {m c : Nat} {news : List Int} (hr : Rd w w.heap.size (some ad) m news) (hlen : P.length + m ≤ 140737488355328) (hs : a.eval s = v) (hx : a.eval x = .slice (some ad) m c)
    (hk : ∀ v' w', OwnB lo w' v' (P ++ news) → Below lo w w' → K (a.put o.dst v') w') : o.wp Tryd.prog a w K Q := by
  obtain ⟨i, hi, hz0, hz1, hz2⟩ := info_parts info_byte
  have hlm := hr.len
  have hsrc : ∀ j y, (u8s news)[j]? = some y → w.cell? (ad.add j) = some y := by
    rcases Nat.eq_zero_or_pos m with h0 | h0
    · intro j y hy
      have := (List.getElem?_eq_some_iff.1 hy).1
      simp at this
      omega
    · obtain ⟨b, off, e, _, hc⟩ := hr.at_ h0
      injection e with e
      subst e
      exact src_u8 hlm hc
  obtain ⟨v', w', hrun, hown, hgr, _, hloc⟩ := run_append_own_at (P := Tryd.prog) w lo 25 o.type 5 i _ 1 1 Tryd.underlying25 hi hz0 hz1 hz2 rfl (by decide) v P.length (u8s P) h.own ad m c (u8s news) (by simp [hlm]) hsrc (one_u8 news) (by unfold maxLen; omega) (by omega) hlo
  have h1 := hk v' w' ⟨by rw [List.length_append, hlm, show u8s (P ++ news) = u8s P ++ u8s news from List.map_append]; exact hown, fun y hy => (List.mem_append.1 hy).elim (h.oct y) (hr.oct y)⟩ ((Below.refl lo w).grown hgr hlo (fun i e => (h.own.lt i e).1))
  unfold Oper.wp execOp
  simp only [ho, resolve, invoke, builtin, Sem.run_bind, Sem.run_pure, Result.andThen_ok, List.map_toArray, List.map_cons, List.map_nil, hs, hx, hrun]
  exact h1

set_option maxHeartbeats 4000000 in
theorem rput_000 (w : World) (a o i : Int) (hk : HlOk ⟨a, o, i, false, false, false⟩) (hr : rightH ⟨a, o, i, false, false, false⟩ = true) : Calls Tryd.prog 11 #[.agg (hlc ⟨a, o, i, false, false, false⟩).toArray] w (PutH w ⟨a, o, i, false, false, false⟩) := by
  have ha : 0 ≤ a ∧ a < 4294967296 := hk.as_
  have hi : 0 ≤ i ∧ i < 4294967296 := hk.id_
  have hp := right_parts hr
  have ho : 0 ≤ o ∧ o ≤ 65535 := hp.2.2
  have HR : Hid (∀ W, Calls Tryd.prog _ _ W _) := Lib.hid (fun W => rright_is W ⟨a, o, i, false, false, false⟩)
  have HBd : Hid (bodyH ⟨a, o, i, false, false, false⟩ = putB ⟨a, o, i, false, false, false⟩ ∧ errH ⟨a, o, i, false, false, false⟩ = 0) := Lib.hid (by unfold bodyH errH; rw [if_pos hr, if_pos hr]; exact ⟨rfl, rfl⟩)
  have HPt := Lib.hid (putB_parts ⟨a, o, i, false, false, false⟩ hr)
  have hca : capsB ⟨a, o, i, false, false, false⟩ = [] := by simp [capsB]
  rw [hca] at HPt
  rw [hr] at HR
  have HX0 := Lib.hid (Blk.new w 24 (hlc ⟨a, o, i, false, false, false⟩).toArray)
  have HB0 := Lib.hid (below_one8 w (.cells (hlc ⟨a, o, i, false, false, false⟩).toArray 24))
  clear hr hk hp hca
  generalize hh : (⟨a, o, i, false, false, false⟩ : Hl) = h at *
  have HH : Hid (∀ W lo A n cs v l, PqS w W lo h A n cs v l → W.cell? ⟨w.heap.size, 0, none⟩ = some (.int .u32 a) ∧ W.cell? ⟨w.heap.size, 1, none⟩ = some (.int .i64 o) ∧ W.cell? ⟨w.heap.size, 2, none⟩ = some (.int .u32 i) ∧ W.cell? ⟨w.heap.size, 3, none⟩ = some (.bool false) ∧ W.cell? ⟨w.heap.size, 4, none⟩ = some (.bool false) ∧ W.cell? ⟨w.heap.size, 5, none⟩ = some (.bool false)) := Lib.hid (by
    intro W lo A n cs v l k
    have := k.c
    rw [← hh] at this
    exact this)
  have HA : Hid (h.as_ = a ∧ h.hold = o ∧ h.id_ = i) := Lib.hid (by rw [← hh]; exact ⟨rfl, rfl, rfl⟩)
  clear hh
  go_enter Tryd.func11, Tryd.ntmps11
  go_wp2_with (refine h_fetch rfl _ rfl w.heap.size h 24 rfl HX0.out ?_)
  refine (HR.out _).mono ?_
  rintro e W1 ⟨rfl, hB⟩
  have hs1 : w.heap.size + 1 ≤ W1.heap.size := by have := hB.size; simp at this; omega
  have HS1 : Hid (PqS w W1 (w.heap.size + 1) h none 0 [] (.slice none 0 0) []) := Lib.hid ⟨HB0.out.trans (hB.mono HB0.out.size), HX0.out.below hB HX0.out.lt, Rd.nil_ _, OwnB.nil_ _ _, hs1, Nat.le_refl _⟩
  clear hB HB0 HX0 HR hs1
  obtain ⟨d0, d1, d2, d3, d4, d5⟩ := HH.out _ _ _ _ _ _ _ HS1.out
  have HCap : Hid (Rd W1 W1.heap.size none 0 []) := Lib.hid HS1.out.own.rd_of
  by_cases hgt : 65535 < a
  · skip
    have HSh : Hid (shA h.as_ = 23456) := Lib.hid (by rw [HA.out.1]; unfold shA; rw [if_pos hgt])
    have HP2 : Hid (putB h = [4, 23456 / 256 % 256, 23456 % 256, o / 256 % 256, o % 256] ++ be 4 i ++ [0]) := Lib.hid (by rw [HPt.out, HSh.out, HA.out.2.1, HA.out.2.2]; simp)
    have ht1 : IntKind.i64.wrap (o.tdiv 256) = o / 256 := by rw [Int.tdiv_eq_ediv_of_nonneg ho.1, IntKind.wrap_i64]; omega
    have ht2 : o.tdiv 256 = o / 256 := Int.tdiv_eq_ediv_of_nonneg ho.1
    have ht3 : o.tmod 256 = o % 256 := Int.tmod_eq_emod_of_nonneg ho.1
    have ho5 : Oct [4, 91, 160, o / 256, o % 256] := oct5 (by omega) (by omega) (by omega) (by omega) (by omega)
    have hl5 := below_one8 W1 (.cells (u8s [4, 91, 160, o / 256, o % 256]).toArray 5)
    have hq5 := HS1.out.below hl5
    have HQ5 : Hid (PqS w (W1.alloc (.cells #[.int .u8 4, .int .u8 91, .int .u8 160, .int .u8 (o / 256), .int .u8 (o % 256)] 5)) W1.heap.size h none 0 [] (.slice (some ⟨W1.heap.size, 0, none⟩) 5 5) [4, 91, 160, o / 256, o % 256]) := Lib.hid ⟨hq5.low, hq5.box, HCap.out.below hl5, own_new W1 [4, 91, 160, o / 256, o % 256] ho5 (by simp), hl5.size, by have := HS1.out.ll; omega⟩
    have g2 : (W1.alloc (.cells #[.int .u8 4, .int .u8 91, .int .u8 160, .int .u8 (o / 256), .int .u8 (o % 256)] 5)).cell? ⟨w.heap.size, 2, none⟩ = some (.int .u32 i) := (HH.out _ _ _ _ _ _ _ HQ5.out).2.2.1
    clear ho5 hl5 hq5
    go_wp2_with fail
    refine (four_is _ i hi).mono ?_
    generalize (W1.alloc (.cells #[.int .u8 4, .int .u8 91, .int .u8 160, .int .u8 (o / 256), .int .u8 (o % 256)] 5)) = X1 at *
    rintro e X2 ⟨rfl, hby, hB⟩
    have HQ6 := Lib.hid (HQ5.out.below hB)
    have HF6 := Lib.hid (hby.rd_all (B := X2.heap.size) (be_oct 4 i) hby.lt)
    rw [be_len] at HF6
    clear hB hby HQ5 g2 d0 d1 d2 d3 d4 d5
    go_wp2_with (at_builtin; refine app_bs rfl _ _ rfl HQ6.out.own HQ6.out.ll HF6.out (by simp) rfl rfl ?_)
    intro v X3 ho3 hb3 _ _
    have hs3 := HQ6.out.app ho3 hb3
    obtain ⟨B3, k3, rfl, _, _, _⟩ := ho3.at_
    have HQ7 : Hid (PqS w X3 W1.heap.size h none 0 [] (.slice B3 9 k3) ([4, 91, 160, o / 256, o % 256] ++ be 4 i)) := Lib.hid (by simpa [be_len] using hs3)
    clear ho3 hb3 hs3 HQ6 HF6
    simp only [List.cons_append, List.nil_append, List.length_cons, List.length_nil, List.length_append, be_len, Nat.zero_add, Nat.reduceAdd]
    have hl1 := byt_new X3 [0] (oct1 (by omega))
    go_wp2_with (at_builtin; refine app_bs rfl _ _ rfl (HQ7.out.below (below_one8 X3 (.cells (u8s [0]).toArray 5))).own (HQ7.out.below (below_one8 X3 (.cells (u8s [0]).toArray 5))).ll hl1 (by simp [be_len]) rfl rfl ?_)
    intro v X4 ho3 hb3 _ _
    have hs3 := (HQ7.out.below (below_one8 X3 (.cells (u8s [0]).toArray 5))).app ho3 hb3
    clear hl1
    obtain ⟨B4, k4, rfl, _, _, _⟩ := ho3.at_
    have HQ9 : Hid (PqS w X4 W1.heap.size h none 0 [] (.slice B4 10 k4) ([4, 91, 160, o / 256, o % 256] ++ be 4 i ++ [0])) := Lib.hid (by simpa [be_len] using hs3)
    have HR4 : Hid (Rd X4 X4.heap.size B4 10 (bodyH h)) := Lib.hid (by rw [HBd.out.1, HP2.out, show [4, 23456 / 256 % 256, 23456 % 256, o / 256 % 256, o % 256] ++ be 4 i ++ [0] = ([4, 91, 160, o / 256, o % 256] ++ be 4 i ++ [0]) from by rw [show o / 256 % 256 = o / 256 by omega]; try simp]; exact HQ9.out.own.rd_of)
    have HL4 : Hid ((bodyH h).length = 10 ∧ 10 ≤ k4) := Lib.hid ⟨HR4.out.len, HQ9.out.own.cap_le⟩
    have HLow := Lib.hid HQ9.out.low
    clear hs3 ho3 hb3 HCap HQ9
    simp only [List.cons_append, List.nil_append, List.length_cons, List.length_nil, List.length_append, be_len, Nat.zero_add, Nat.reduceAdd]
    go_wp2
    go_ret2
    exact ⟨B4, 10, k4, by rw [HBd.out.2]; rfl, HL4.out.1.symm, HL4.out.2, HR4.out, HLow.out⟩
  · skip
    have HSh : Hid (shA h.as_ = a) := Lib.hid (by rw [HA.out.1]; unfold shA; rw [if_neg hgt])
    have HP2 : Hid (putB h = [4, a / 256 % 256, a % 256, o / 256 % 256, o % 256] ++ be 4 i ++ [0]) := Lib.hid (by rw [HPt.out, HSh.out, HA.out.2.1, HA.out.2.2]; simp)
    have hgt2 : ¬ (65535 : Int) < a := hgt
    have ht1 : IntKind.i64.wrap (o.tdiv 256) = o / 256 := by rw [Int.tdiv_eq_ediv_of_nonneg ho.1, IntKind.wrap_i64]; omega
    have ht2 : o.tdiv 256 = o / 256 := Int.tdiv_eq_ediv_of_nonneg ho.1
    have ht3 : o.tmod 256 = o % 256 := Int.tmod_eq_emod_of_nonneg ho.1
    have ho5 : Oct [4, a / 256, a % 256, o / 256, o % 256] := oct5 (by omega) (by omega) (by omega) (by omega) (by omega)
    have hl5 := below_one8 W1 (.cells (u8s [4, a / 256, a % 256, o / 256, o % 256]).toArray 5)
    have hq5 := HS1.out.below hl5
    have HQ5 : Hid (PqS w (W1.alloc (.cells #[.int .u8 4, .int .u8 (a / 256), .int .u8 (a % 256), .int .u8 (o / 256), .int .u8 (o % 256)] 5)) W1.heap.size h none 0 [] (.slice (some ⟨W1.heap.size, 0, none⟩) 5 5) [4, a / 256, a % 256, o / 256, o % 256]) := Lib.hid ⟨hq5.low, hq5.box, HCap.out.below hl5, own_new W1 [4, a / 256, a % 256, o / 256, o % 256] ho5 (by simp), hl5.size, by have := HS1.out.ll; omega⟩
    have g2 : (W1.alloc (.cells #[.int .u8 4, .int .u8 (a / 256), .int .u8 (a % 256), .int .u8 (o / 256), .int .u8 (o % 256)] 5)).cell? ⟨w.heap.size, 2, none⟩ = some (.int .u32 i) := (HH.out _ _ _ _ _ _ _ HQ5.out).2.2.1
    clear ho5 hl5 hq5
    go_wp2_with fail
    refine (four_is _ i hi).mono ?_
    generalize (W1.alloc (.cells #[.int .u8 4, .int .u8 (a / 256), .int .u8 (a % 256), .int .u8 (o / 256), .int .u8 (o % 256)] 5)) = X1 at *
    rintro e X2 ⟨rfl, hby, hB⟩
    have HQ6 := Lib.hid (HQ5.out.below hB)
    have HF6 := Lib.hid (hby.rd_all (B := X2.heap.size) (be_oct 4 i) hby.lt)
    rw [be_len] at HF6
    clear hB hby HQ5 g2 d0 d1 d2 d3 d4 d5
    go_wp2_with (at_builtin; refine app_bs rfl _ _ rfl HQ6.out.own HQ6.out.ll HF6.out (by simp) rfl rfl ?_)
    intro v X3 ho3 hb3 _ _
    have hs3 := HQ6.out.app ho3 hb3
    obtain ⟨B3, k3, rfl, _, _, _⟩ := ho3.at_
    have HQ7 : Hid (PqS w X3 W1.heap.size h none 0 [] (.slice B3 9 k3) ([4, a / 256, a % 256, o / 256, o % 256] ++ be 4 i)) := Lib.hid (by simpa [be_len] using hs3)
    clear ho3 hb3 hs3 HQ6 HF6
    simp only [List.cons_append, List.nil_append, List.length_cons, List.length_nil, List.length_append, be_len, Nat.zero_add, Nat.reduceAdd]
    have hl1 := byt_new X3 [0] (oct1 (by omega))
    go_wp2_with (at_builtin; refine app_bs rfl _ _ rfl (HQ7.out.below (below_one8 X3 (.cells (u8s [0]).toArray 5))).own (HQ7.out.below (below_one8 X3 (.cells (u8s [0]).toArray 5))).ll hl1 (by simp [be_len]) rfl rfl ?_)
    intro v X4 ho3 hb3 _ _
    have hs3 := (HQ7.out.below (below_one8 X3 (.cells (u8s [0]).toArray 5))).app ho3 hb3
    clear hl1
    obtain ⟨B4, k4, rfl, _, _, _⟩ := ho3.at_
    have HQ9 : Hid (PqS w X4 W1.heap.size h none 0 [] (.slice B4 10 k4) ([4, a / 256, a % 256, o / 256, o % 256] ++ be 4 i ++ [0])) := Lib.hid (by simpa [be_len] using hs3)
    have HR4 : Hid (Rd X4 X4.heap.size B4 10 (bodyH h)) := Lib.hid (by rw [HBd.out.1, HP2.out, show [4, a / 256 % 256, a % 256, o / 256 % 256, o % 256] ++ be 4 i ++ [0] = ([4, a / 256, a % 256, o / 256, o % 256] ++ be 4 i ++ [0]) from by rw [show a / 256 % 256 = a / 256 by omega, show o / 256 % 256 = o / 256 by omega]; try simp]; exact HQ9.out.own.rd_of)
    have HL4 : Hid ((bodyH h).length = 10 ∧ 10 ≤ k4) := Lib.hid ⟨HR4.out.len, HQ9.out.own.cap_le⟩
    have HLow := Lib.hid HQ9.out.low
    clear hs3 ho3 hb3 HCap HQ9
    simp only [List.cons_append, List.nil_append, List.length_cons, List.length_nil, List.length_append, be_len, Nat.zero_add, Nat.reduceAdd]
    go_wp2
    go_ret2
    exact ⟨B4, 10, k4, by rw [HBd.out.2]; rfl, HL4.out.1.symm, HL4.out.2, HR4.out, HLow.out⟩

set_option maxHeartbeats 4000000 in
theorem rput_001 (w : World) (a o i : Int) (hk : HlOk ⟨a, o, i, false, true, false⟩) (hr : rightH ⟨a, o, i, false, true, false⟩ = true) : Calls Tryd.prog 11 #[.agg (hlc ⟨a, o, i, false, true, false⟩).toArray] w (PutH w ⟨a, o, i, false, true, false⟩) := by
  have ha : 0 ≤ a ∧ a < 4294967296 := hk.as_
  have hi : 0 ≤ i ∧ i < 4294967296 := hk.id_
  have hp := right_parts hr
  have ho : 0 ≤ o ∧ o ≤ 65535 := hp.2.2
  have HR : Hid (∀ W, Calls Tryd.prog _ _ W _) := Lib.hid (fun W => rright_is W ⟨a, o, i, false, true, false⟩)
  have HBd : Hid (bodyH ⟨a, o, i, false, true, false⟩ = putB ⟨a, o, i, false, true, false⟩ ∧ errH ⟨a, o, i, false, true, false⟩ = 0) := Lib.hid (by unfold bodyH errH; rw [if_pos hr, if_pos hr]; exact ⟨rfl, rfl⟩)
  have HPt := Lib.hid (putB_parts ⟨a, o, i, false, true, false⟩ hr)
  have hca : capsB ⟨a, o, i, false, true, false⟩ = (65 :: 4 :: be 4 a) := by simp [capsB]
  rw [hca] at HPt
  rw [hr] at HR
  have HX0 := Lib.hid (Blk.new w 24 (hlc ⟨a, o, i, false, true, false⟩).toArray)
  have HB0 := Lib.hid (below_one8 w (.cells (hlc ⟨a, o, i, false, true, false⟩).toArray 24))
  clear hr hk hp hca
  generalize hh : (⟨a, o, i, false, true, false⟩ : Hl) = h at *
  have HH : Hid (∀ W lo A n cs v l, PqS w W lo h A n cs v l → W.cell? ⟨w.heap.size, 0, none⟩ = some (.int .u32 a) ∧ W.cell? ⟨w.heap.size, 1, none⟩ = some (.int .i64 o) ∧ W.cell? ⟨w.heap.size, 2, none⟩ = some (.int .u32 i) ∧ W.cell? ⟨w.heap.size, 3, none⟩ = some (.bool false) ∧ W.cell? ⟨w.heap.size, 4, none⟩ = some (.bool true) ∧ W.cell? ⟨w.heap.size, 5, none⟩ = some (.bool false)) := Lib.hid (by
    intro W lo A n cs v l k
    have := k.c
    rw [← hh] at this
    exact this)
  have HA : Hid (h.as_ = a ∧ h.hold = o ∧ h.id_ = i) := Lib.hid (by rw [← hh]; exact ⟨rfl, rfl, rfl⟩)
  clear hh
  go_enter Tryd.func11, Tryd.ntmps11
  go_wp2_with (refine h_fetch rfl _ rfl w.heap.size h 24 rfl HX0.out ?_)
  refine (HR.out _).mono ?_
  rintro e W1 ⟨rfl, hB⟩
  have hs1 : w.heap.size + 1 ≤ W1.heap.size := by have := hB.size; simp at this; omega
  have HS1 : Hid (PqS w W1 (w.heap.size + 1) h none 0 [] (.slice none 0 0) []) := Lib.hid ⟨HB0.out.trans (hB.mono HB0.out.size), HX0.out.below hB HX0.out.lt, Rd.nil_ _, OwnB.nil_ _ _, hs1, Nat.le_refl _⟩
  clear hB HB0 HX0 HR hs1
  obtain ⟨d0, d1, d2, d3, d4, d5⟩ := HH.out _ _ _ _ _ _ _ HS1.out
  go_wp2_with fail
  refine wp_region_held_drew (S := fun W => PqS w W (w.heap.size + 1) h none 0 [] (.slice none 0 0) []) (by kernel_rfl) (⟨(HS1.out.below (below_drew8 W1)).low, (HS1.out.below (below_drew8 W1)).box, Rd.nil_ _, OwnB.nil_ _ _, (HS1.out.below (below_drew8 W1)).ll, Nat.le_refl _⟩) (fun hS => ?_)
  have h6 := HS1.out.below (below_drew8 W1)
  generalize W1.drew = W6 at *
  clear HS1 d0 d1 d2 d3 d4 d5
  refine wpAnyH_take (i := 0) (oi := ⟨some 24, _, _, _, _, _⟩) (v := ?_) rfl (by kernel_rfl) (by kernel_rfl) (by kernel_rfl) (fun _ _ _ h => h) (Or.inl ⟨by rfl, ?_⟩) hS ?_
  rotate_left
  · intro wq hq
    first | (go_simp; done) | (go_simp; rfl)
  try simp only [Act.put, List.setIfInBounds_toArray, List.set_cons_zero, List.set_cons_succ]
  refine wpAnyH_take (i := 3) (oi := ⟨some 27, _, _, _, _, _⟩) (v := ?_) rfl (by kernel_rfl) (by kernel_rfl) (by kernel_rfl) (fun _ _ _ h => h) (Or.inl ⟨by rfl, ?_⟩) hS ?_
  rotate_left
  · intro wq hq
    first | (go_simp; done) | (go_simp; rfl)
  try simp only [Act.put, List.setIfInBounds_toArray, List.set_cons_zero, List.set_cons_succ]
  refine wpAnyH_take (i := 4) (oi := ⟨some 28, _, _, _, _, _⟩) (v := ?_) rfl (by kernel_rfl) (by kernel_rfl) (by kernel_rfl) (fun _ _ _ h => h) (Or.inl ⟨by rfl, ?_⟩) hS ?_
  rotate_left
  · intro wq hq
    have c0 := (HH.out _ _ _ _ _ _ _ hq).1
    first | (go_simp; done) | (go_simp; rfl)
  try simp only [Act.put, List.setIfInBounds_toArray, List.set_cons_zero, List.set_cons_succ]
  refine wpAnyH_ready (rs := [1]) (by kernel_rfl) (by simp) ?_
  refine AllReadyH.cons (o := ⟨some 25, _, _, _, _, _⟩) rfl (fun K hK => ?_) AllReadyH.nil
  rw [if_pos (by rfl)]
  go_wp2
  have hl1 := byt_new W6 [65, 4] (oct2 (by omega) (by omega))
  have h7 := h6.below (below_one8 W6 (.cells (u8s [65, 4]).toArray 5))
  clear h6 hS
  refine hK.out _ _ ⟨h7.low, h7.box, Rd.nil_ _, OwnB.nil_ _ _, h7.ll, Nat.le_refl _⟩ (fun hS => ?_)
  clear hK K
  try simp only [Act.put, List.setIfInBounds_toArray, List.set_cons_zero, List.set_cons_succ]
  refine wpAnyH_ready (rs := [2]) (by kernel_rfl) (by simp) ?_
  refine AllReadyH.cons (o := ⟨some 26, _, _, _, _, _⟩) rfl (fun K hK => ?_) AllReadyH.nil
  rw [if_pos (by rfl)]
  refine app_wp8 _ _ rfl h7.own h7.ll hl1 (by simp) rfl rfl ?_
  intro v W8 ho2 hb2
  have h8 := h7.app ho2 hb2
  obtain ⟨A8, c8, rfl, _, _, _⟩ := ho2.at_
  clear hl1 h7 ho2 hb2 hS
  have h8 : PqS w W8 (w.heap.size + 1) h none 0 [] (.slice A8 2 c8) [65, 4] := h8
  refine hK.out _ _ ⟨h8.low, h8.box, Rd.nil_ _, OwnB.nil_ _ _, h8.ll, Nat.le_refl _⟩ (fun hS => ?_)
  clear hK K
  try simp only [Act.put, List.setIfInBounds_toArray, List.set_cons_zero, List.set_cons_succ, List.cons_append, List.nil_append, List.length_cons, List.length_nil, Nat.zero_add, Nat.reduceAdd]
  refine wpAnyH_ready (rs := [5]) (by kernel_rfl) (by simp) ?_
  refine AllReadyH.cons (o := ⟨some 29, _, _, _, _, _⟩) rfl (fun K hK => ?_) AllReadyH.nil
  rw [if_pos (by rfl)]
  go_wp2_with fail
  refine (four_is W8 a ha).mono ?_
  rintro e W9 ⟨rfl, hby, hB⟩
  have h9 := h8.below hB
  have hF9 := hby.rd_all (B := W9.heap.size) (be_oct 4 a) hby.lt
  rw [be_len] at hF9
  clear hB hby h8 hS
  refine hK.out _ _ ⟨h9.low, h9.box, Rd.nil_ _, OwnB.nil_ _ _, h9.ll, Nat.le_refl _⟩ (fun hS => ?_)
  clear hK K
  try simp only [Act.put, List.setIfInBounds_toArray, List.set_cons_zero, List.set_cons_succ]
  refine wpAnyH_ready (rs := [6]) (by kernel_rfl) (by simp) ?_
  refine AllReadyH.cons (o := ⟨some 30, _, _, _, _, _⟩) rfl (fun K hK => ?_) AllReadyH.nil
  rw [if_pos (by rfl)]
  refine app_wp8 _ _ rfl h9.own h9.ll hF9 (by simp) rfl rfl ?_
  intro v WA ho2 hb2
  have hA := h9.app ho2 hb2
  have hlA : (65 :: 4 :: be 4 a).length = 6 := by simp [be_len]
  obtain ⟨AA, cA, rfl, _, _, _⟩ := ho2.at_
  have hA : PqS w WA (w.heap.size + 1) h none 0 [] (.slice AA 6 cA) (65 :: 4 :: be 4 a) := by simpa [be_len] using hA
  clear h9 ho2 hb2 hF9 hS
  refine hK.out _ _ ⟨hA.low, hA.box, Rd.nil_ _, OwnB.nil_ _ _, hA.ll, Nat.le_refl _⟩ (fun hS => ?_)
  clear hK K
  have HSA := Lib.hid hA
  clear hA hlA
  try simp only [Act.put, List.setIfInBounds_toArray, List.set_cons_zero, List.set_cons_succ, List.cons_append, List.nil_append, List.length_cons, List.length_nil, be_len, Nat.zero_add, Nat.reduceAdd]
  refine wpAnyH_take (i := 7) (oi := ⟨some 4, _, _, _, _, _⟩) (v := ?_) rfl (by kernel_rfl) (by kernel_rfl) (by kernel_rfl) (fun _ _ _ h => h) (Or.inl ⟨by rfl, ?_⟩) hS ?_
  rotate_left
  · intro wq hq
    first | (go_simp; done) | (go_simp; rfl)
  try simp only [Act.put, List.setIfInBounds_toArray, List.set_cons_zero, List.set_cons_succ]
  refine wpAnyH_done (by kernel_rfl) ?_ _
  clear hS
  obtain ⟨d0, d1, d2, d3, d4, d5⟩ := HH.out _ _ _ _ _ _ _ HSA.out
  have HCap : Hid (Rd WA WA.heap.size AA 6 (65 :: 4 :: be 4 a)) := Lib.hid HSA.out.own.rd_of
  by_cases hgt : 65535 < a
  · skip
    have HSh : Hid (shA h.as_ = 23456) := Lib.hid (by rw [HA.out.1]; unfold shA; rw [if_pos hgt])
    have HP2 : Hid (putB h = [4, 23456 / 256 % 256, 23456 % 256, o / 256 % 256, o % 256] ++ be 4 i ++ (8 :: 2 :: 6 :: (65 :: 4 :: be 4 a))) := Lib.hid (by rw [HPt.out, HSh.out, HA.out.2.1, HA.out.2.2]; simp [be_len])
    have ht1 : IntKind.i64.wrap (o.tdiv 256) = o / 256 := by rw [Int.tdiv_eq_ediv_of_nonneg ho.1, IntKind.wrap_i64]; omega
    have ht2 : o.tdiv 256 = o / 256 := Int.tdiv_eq_ediv_of_nonneg ho.1
    have ht3 : o.tmod 256 = o % 256 := Int.tmod_eq_emod_of_nonneg ho.1
    have ho5 : Oct [4, 91, 160, o / 256, o % 256] := oct5 (by omega) (by omega) (by omega) (by omega) (by omega)
    have hl5 := below_one8 WA (.cells (u8s [4, 91, 160, o / 256, o % 256]).toArray 5)
    have hq5 := HSA.out.below hl5
    have HQ5 : Hid (PqS w (WA.alloc (.cells #[.int .u8 4, .int .u8 91, .int .u8 160, .int .u8 (o / 256), .int .u8 (o % 256)] 5)) WA.heap.size h AA 6 (65 :: 4 :: be 4 a) (.slice (some ⟨WA.heap.size, 0, none⟩) 5 5) [4, 91, 160, o / 256, o % 256]) := Lib.hid ⟨hq5.low, hq5.box, HCap.out.below hl5, own_new WA [4, 91, 160, o / 256, o % 256] ho5 (by simp), hl5.size, by have := HSA.out.ll; omega⟩
    have g2 : (WA.alloc (.cells #[.int .u8 4, .int .u8 91, .int .u8 160, .int .u8 (o / 256), .int .u8 (o % 256)] 5)).cell? ⟨w.heap.size, 2, none⟩ = some (.int .u32 i) := (HH.out _ _ _ _ _ _ _ HQ5.out).2.2.1
    clear ho5 hl5 hq5
    go_wp2_with fail
    refine (four_is _ i hi).mono ?_
    generalize (WA.alloc (.cells #[.int .u8 4, .int .u8 91, .int .u8 160, .int .u8 (o / 256), .int .u8 (o % 256)] 5)) = X1 at *
    rintro e X2 ⟨rfl, hby, hB⟩
    have HQ6 := Lib.hid (HQ5.out.below hB)
    have HF6 := Lib.hid (hby.rd_all (B := X2.heap.size) (be_oct 4 i) hby.lt)
    rw [be_len] at HF6
    clear hB hby HQ5 g2 d0 d1 d2 d3 d4 d5
    go_wp2_with (at_builtin; refine app_bs rfl _ _ rfl HQ6.out.own HQ6.out.ll HF6.out (by simp) rfl rfl ?_)
    intro v X3 ho3 hb3 _ _
    have hs3 := HQ6.out.app ho3 hb3
    obtain ⟨B3, k3, rfl, _, _, _⟩ := ho3.at_
    have HQ7 : Hid (PqS w X3 WA.heap.size h AA 6 (65 :: 4 :: be 4 a) (.slice B3 9 k3) ([4, 91, 160, o / 256, o % 256] ++ be 4 i)) := Lib.hid (by simpa [be_len] using hs3)
    clear ho3 hb3 hs3 HQ6 HF6
    simp only [List.cons_append, List.nil_append, List.length_cons, List.length_nil, List.length_append, be_len, Nat.zero_add, Nat.reduceAdd]
    have hl1 := byt_new X3 [8, 2, 6] (oct3 (by omega) (by omega) (by omega))
    go_wp2_with (at_builtin; refine app_bs rfl _ _ rfl (HQ7.out.below (below_one8 X3 (.cells (u8s [8, 2, 6]).toArray 5))).own (HQ7.out.below (below_one8 X3 (.cells (u8s [8, 2, 6]).toArray 5))).ll hl1 (by simp [be_len]) rfl rfl ?_)
    intro v X5 ho3 hb3 _ _
    have hs3 := (HQ7.out.below (below_one8 X3 (.cells (u8s [8, 2, 6]).toArray 5))).app ho3 hb3
    obtain ⟨B5, k5, rfl, _, _, _⟩ := ho3.at_
    have HQ8 : Hid (PqS w X5 WA.heap.size h AA 6 (65 :: 4 :: be 4 a) (.slice B5 12 k5) ([4, 91, 160, o / 256, o % 256] ++ be 4 i ++ [8, 2, 6])) := Lib.hid (by simpa [be_len] using hs3)
    have HC8 := Lib.hid (HQ8.out.caps.more HQ8.out.ll)
    clear hl1 ho3 hb3 hs3 HQ7
    simp only [List.cons_append, List.nil_append, List.length_cons, List.length_nil, List.length_append, be_len, Nat.zero_add, Nat.reduceAdd]
    go_wp2_with (at_builtin; refine app_bs rfl _ _ rfl HQ8.out.own HQ8.out.ll HC8.out (by simp [be_len]) rfl rfl ?_)
    intro v X4 ho3 hb3 _ _
    have hs3 := HQ8.out.app ho3 hb3
    obtain ⟨B4, k4, rfl, _, _, _⟩ := ho3.at_
    have HQ9 : Hid (PqS w X4 WA.heap.size h AA 6 (65 :: 4 :: be 4 a) (.slice B4 18 k4) ([4, 91, 160, o / 256, o % 256] ++ be 4 i ++ [8, 2, 6] ++ (65 :: 4 :: be 4 a))) := Lib.hid (by simpa [be_len] using hs3)
    have HR4 : Hid (Rd X4 X4.heap.size B4 18 (bodyH h)) := Lib.hid (by rw [HBd.out.1, HP2.out, show [4, 23456 / 256 % 256, 23456 % 256, o / 256 % 256, o % 256] ++ be 4 i ++ (8 :: 2 :: 6 :: (65 :: 4 :: be 4 a)) = ([4, 91, 160, o / 256, o % 256] ++ be 4 i ++ [8, 2, 6] ++ (65 :: 4 :: be 4 a)) from by rw [show o / 256 % 256 = o / 256 by omega]; try simp]; exact HQ9.out.own.rd_of)
    have HL4 : Hid ((bodyH h).length = 18 ∧ 18 ≤ k4) := Lib.hid ⟨HR4.out.len, HQ9.out.own.cap_le⟩
    have HLow := Lib.hid HQ9.out.low
    clear hs3 ho3 hb3 HCap HQ9
    simp only [List.cons_append, List.nil_append, List.length_cons, List.length_nil, List.length_append, be_len, Nat.zero_add, Nat.reduceAdd]
    go_wp2
    go_ret2
    exact ⟨B4, 18, k4, by rw [HBd.out.2]; rfl, HL4.out.1.symm, HL4.out.2, HR4.out, HLow.out⟩
  · skip
    have HSh : Hid (shA h.as_ = a) := Lib.hid (by rw [HA.out.1]; unfold shA; rw [if_neg hgt])
    have HP2 : Hid (putB h = [4, a / 256 % 256, a % 256, o / 256 % 256, o % 256] ++ be 4 i ++ (8 :: 2 :: 6 :: (65 :: 4 :: be 4 a))) := Lib.hid (by rw [HPt.out, HSh.out, HA.out.2.1, HA.out.2.2]; simp [be_len])
    have hgt2 : ¬ (65535 : Int) < a := hgt
    have ht1 : IntKind.i64.wrap (o.tdiv 256) = o / 256 := by rw [Int.tdiv_eq_ediv_of_nonneg ho.1, IntKind.wrap_i64]; omega
    have ht2 : o.tdiv 256 = o / 256 := Int.tdiv_eq_ediv_of_nonneg ho.1
    have ht3 : o.tmod 256 = o % 256 := Int.tmod_eq_emod_of_nonneg ho.1
    have ho5 : Oct [4, a / 256, a % 256, o / 256, o % 256] := oct5 (by omega) (by omega) (by omega) (by omega) (by omega)
    have hl5 := below_one8 WA (.cells (u8s [4, a / 256, a % 256, o / 256, o % 256]).toArray 5)
    have hq5 := HSA.out.below hl5
    have HQ5 : Hid (PqS w (WA.alloc (.cells #[.int .u8 4, .int .u8 (a / 256), .int .u8 (a % 256), .int .u8 (o / 256), .int .u8 (o % 256)] 5)) WA.heap.size h AA 6 (65 :: 4 :: be 4 a) (.slice (some ⟨WA.heap.size, 0, none⟩) 5 5) [4, a / 256, a % 256, o / 256, o % 256]) := Lib.hid ⟨hq5.low, hq5.box, HCap.out.below hl5, own_new WA [4, a / 256, a % 256, o / 256, o % 256] ho5 (by simp), hl5.size, by have := HSA.out.ll; omega⟩
    have g2 : (WA.alloc (.cells #[.int .u8 4, .int .u8 (a / 256), .int .u8 (a % 256), .int .u8 (o / 256), .int .u8 (o % 256)] 5)).cell? ⟨w.heap.size, 2, none⟩ = some (.int .u32 i) := (HH.out _ _ _ _ _ _ _ HQ5.out).2.2.1
    clear ho5 hl5 hq5
    go_wp2_with fail
    refine (four_is _ i hi).mono ?_
    generalize (WA.alloc (.cells #[.int .u8 4, .int .u8 (a / 256), .int .u8 (a % 256), .int .u8 (o / 256), .int .u8 (o % 256)] 5)) = X1 at *
    rintro e X2 ⟨rfl, hby, hB⟩
    have HQ6 := Lib.hid (HQ5.out.below hB)
    have HF6 := Lib.hid (hby.rd_all (B := X2.heap.size) (be_oct 4 i) hby.lt)
    rw [be_len] at HF6
    clear hB hby HQ5 g2 d0 d1 d2 d3 d4 d5
    go_wp2_with (at_builtin; refine app_bs rfl _ _ rfl HQ6.out.own HQ6.out.ll HF6.out (by simp) rfl rfl ?_)
    intro v X3 ho3 hb3 _ _
    have hs3 := HQ6.out.app ho3 hb3
    obtain ⟨B3, k3, rfl, _, _, _⟩ := ho3.at_
    have HQ7 : Hid (PqS w X3 WA.heap.size h AA 6 (65 :: 4 :: be 4 a) (.slice B3 9 k3) ([4, a / 256, a % 256, o / 256, o % 256] ++ be 4 i)) := Lib.hid (by simpa [be_len] using hs3)
    clear ho3 hb3 hs3 HQ6 HF6
    simp only [List.cons_append, List.nil_append, List.length_cons, List.length_nil, List.length_append, be_len, Nat.zero_add, Nat.reduceAdd]
    have hl1 := byt_new X3 [8, 2, 6] (oct3 (by omega) (by omega) (by omega))
    go_wp2_with (at_builtin; refine app_bs rfl _ _ rfl (HQ7.out.below (below_one8 X3 (.cells (u8s [8, 2, 6]).toArray 5))).own (HQ7.out.below (below_one8 X3 (.cells (u8s [8, 2, 6]).toArray 5))).ll hl1 (by simp [be_len]) rfl rfl ?_)
    intro v X5 ho3 hb3 _ _
    have hs3 := (HQ7.out.below (below_one8 X3 (.cells (u8s [8, 2, 6]).toArray 5))).app ho3 hb3
    obtain ⟨B5, k5, rfl, _, _, _⟩ := ho3.at_
    have HQ8 : Hid (PqS w X5 WA.heap.size h AA 6 (65 :: 4 :: be 4 a) (.slice B5 12 k5) ([4, a / 256, a % 256, o / 256, o % 256] ++ be 4 i ++ [8, 2, 6])) := Lib.hid (by simpa [be_len] using hs3)
    have HC8 := Lib.hid (HQ8.out.caps.more HQ8.out.ll)
    clear hl1 ho3 hb3 hs3 HQ7
    simp only [List.cons_append, List.nil_append, List.length_cons, List.length_nil, List.length_append, be_len, Nat.zero_add, Nat.reduceAdd]
    go_wp2_with (at_builtin; refine app_bs rfl _ _ rfl HQ8.out.own HQ8.out.ll HC8.out (by simp [be_len]) rfl rfl ?_)
    intro v X4 ho3 hb3 _ _
    have hs3 := HQ8.out.app ho3 hb3
    obtain ⟨B4, k4, rfl, _, _, _⟩ := ho3.at_
    have HQ9 : Hid (PqS w X4 WA.heap.size h AA 6 (65 :: 4 :: be 4 a) (.slice B4 18 k4) ([4, a / 256, a % 256, o / 256, o % 256] ++ be 4 i ++ [8, 2, 6] ++ (65 :: 4 :: be 4 a))) := Lib.hid (by simpa [be_len] using hs3)
    have HR4 : Hid (Rd X4 X4.heap.size B4 18 (bodyH h)) := Lib.hid (by rw [HBd.out.1, HP2.out, show [4, a / 256 % 256, a % 256, o / 256 % 256, o % 256] ++ be 4 i ++ (8 :: 2 :: 6 :: (65 :: 4 :: be 4 a)) = ([4, a / 256, a % 256, o / 256, o % 256] ++ be 4 i ++ [8, 2, 6] ++ (65 :: 4 :: be 4 a)) from by rw [show a / 256 % 256 = a / 256 by omega, show o / 256 % 256 = o / 256 by omega]; try simp]; exact HQ9.out.own.rd_of)
    have HL4 : Hid ((bodyH h).length = 18 ∧ 18 ≤ k4) := Lib.hid ⟨HR4.out.len, HQ9.out.own.cap_le⟩
    have HLow := Lib.hid HQ9.out.low
    clear hs3 ho3 hb3 HCap HQ9
    simp only [List.cons_append, List.nil_append, List.length_cons, List.length_nil, List.length_append, be_len, Nat.zero_add, Nat.reduceAdd]
    go_wp2
    go_ret2
    exact ⟨B4, 18, k4, by rw [HBd.out.2]; rfl, HL4.out.1.symm, HL4.out.2, HR4.out, HLow.out⟩

set_option maxHeartbeats 4000000 in
theorem rput_010 (w : World) (a o i : Int) (hk : HlOk ⟨a, o, i, false, false, true⟩) (hr : rightH ⟨a, o, i, false, false, true⟩ = true) : Calls Tryd.prog 11 #[.agg (hlc ⟨a, o, i, false, false, true⟩).toArray] w (PutH w ⟨a, o, i, false, false, true⟩) := by
  have ha : 0 ≤ a ∧ a < 4294967296 := hk.as_
  have hi : 0 ≤ i ∧ i < 4294967296 := hk.id_
  have hp := right_parts hr
  have ho : 0 ≤ o ∧ o ≤ 65535 := hp.2.2
  have HR : Hid (∀ W, Calls Tryd.prog _ _ W _) := Lib.hid (fun W => rright_is W ⟨a, o, i, false, false, true⟩)
  have HBd : Hid (bodyH ⟨a, o, i, false, false, true⟩ = putB ⟨a, o, i, false, false, true⟩ ∧ errH ⟨a, o, i, false, false, true⟩ = 0) := Lib.hid (by unfold bodyH errH; rw [if_pos hr, if_pos hr]; exact ⟨rfl, rfl⟩)
  have HPt := Lib.hid (putB_parts ⟨a, o, i, false, false, true⟩ hr)
  have hca : capsB ⟨a, o, i, false, false, true⟩ = [2, 0] := by simp [capsB]
  rw [hca] at HPt
  rw [hr] at HR
  have HX0 := Lib.hid (Blk.new w 24 (hlc ⟨a, o, i, false, false, true⟩).toArray)
  have HB0 := Lib.hid (below_one8 w (.cells (hlc ⟨a, o, i, false, false, true⟩).toArray 24))
  clear hr hk hp hca
  generalize hh : (⟨a, o, i, false, false, true⟩ : Hl) = h at *
  have HH : Hid (∀ W lo A n cs v l, PqS w W lo h A n cs v l → W.cell? ⟨w.heap.size, 0, none⟩ = some (.int .u32 a) ∧ W.cell? ⟨w.heap.size, 1, none⟩ = some (.int .i64 o) ∧ W.cell? ⟨w.heap.size, 2, none⟩ = some (.int .u32 i) ∧ W.cell? ⟨w.heap.size, 3, none⟩ = some (.bool false) ∧ W.cell? ⟨w.heap.size, 4, none⟩ = some (.bool false) ∧ W.cell? ⟨w.heap.size, 5, none⟩ = some (.bool true)) := Lib.hid (by
    intro W lo A n cs v l k
    have := k.c
    rw [← hh] at this
    exact this)
  have HA : Hid (h.as_ = a ∧ h.hold = o ∧ h.id_ = i) := Lib.hid (by rw [← hh]; exact ⟨rfl, rfl, rfl⟩)
  clear hh
  go_enter Tryd.func11, Tryd.ntmps11
  go_wp2_with (refine h_fetch rfl _ rfl w.heap.size h 24 rfl HX0.out ?_)
  refine (HR.out _).mono ?_
  rintro e W1 ⟨rfl, hB⟩
  have hs1 : w.heap.size + 1 ≤ W1.heap.size := by have := hB.size; simp at this; omega
  have HS1 : Hid (PqS w W1 (w.heap.size + 1) h none 0 [] (.slice none 0 0) []) := Lib.hid ⟨HB0.out.trans (hB.mono HB0.out.size), HX0.out.below hB HX0.out.lt, Rd.nil_ _, OwnB.nil_ _ _, hs1, Nat.le_refl _⟩
  clear hB HB0 HX0 HR hs1
  obtain ⟨d0, d1, d2, d3, d4, d5⟩ := HH.out _ _ _ _ _ _ _ HS1.out
  have hl1 := byt_new W1 [2, 0] (oct2 (by omega) (by omega))
  go_wp2_with (at_builtin; refine app_bs rfl _ _ rfl (HS1.out.below (below_one8 W1 (.cells (u8s [2, 0]).toArray 5))).own (HS1.out.below (below_one8 W1 (.cells (u8s [2, 0]).toArray 5))).ll hl1 (by simp) rfl rfl ?_)
  intro v W5 ho2 hb2 _ _
  have hs2 := (HS1.out.below (below_one8 W1 (.cells (u8s [2, 0]).toArray 5))).app ho2 hb2
  obtain ⟨A5, c5, rfl, _, _, _⟩ := ho2.at_
  have HS5 : Hid (PqS w W5 (w.heap.size + 1) h none 0 [] (.slice A5 2 c5) [2, 0]) := Lib.hid hs2
  clear hl1 ho2 hb2 hs2 HS1 d0 d1 d2 d3 d4 d5
  obtain ⟨d0, d1, d2, d3, d4, d5⟩ := HH.out _ _ _ _ _ _ _ HS5.out
  simp only [List.cons_append, List.nil_append, List.length_cons, List.length_nil, Nat.zero_add, Nat.reduceAdd]
  have HCap : Hid (Rd W5 W5.heap.size A5 2 [2, 0]) := Lib.hid HS5.out.own.rd_of
  by_cases hgt : 65535 < a
  · skip
    have HSh : Hid (shA h.as_ = 23456) := Lib.hid (by rw [HA.out.1]; unfold shA; rw [if_pos hgt])
    have HP2 : Hid (putB h = [4, 23456 / 256 % 256, 23456 % 256, o / 256 % 256, o % 256] ++ be 4 i ++ (4 :: 2 :: 2 :: [2, 0])) := Lib.hid (by rw [HPt.out, HSh.out, HA.out.2.1, HA.out.2.2]; simp [be_len])
    have ht1 : IntKind.i64.wrap (o.tdiv 256) = o / 256 := by rw [Int.tdiv_eq_ediv_of_nonneg ho.1, IntKind.wrap_i64]; omega
    have ht2 : o.tdiv 256 = o / 256 := Int.tdiv_eq_ediv_of_nonneg ho.1
    have ht3 : o.tmod 256 = o % 256 := Int.tmod_eq_emod_of_nonneg ho.1
    have ho5 : Oct [4, 91, 160, o / 256, o % 256] := oct5 (by omega) (by omega) (by omega) (by omega) (by omega)
    have hl5 := below_one8 W5 (.cells (u8s [4, 91, 160, o / 256, o % 256]).toArray 5)
    have hq5 := HS5.out.below hl5
    have HQ5 : Hid (PqS w (W5.alloc (.cells #[.int .u8 4, .int .u8 91, .int .u8 160, .int .u8 (o / 256), .int .u8 (o % 256)] 5)) W5.heap.size h A5 2 [2, 0] (.slice (some ⟨W5.heap.size, 0, none⟩) 5 5) [4, 91, 160, o / 256, o % 256]) := Lib.hid ⟨hq5.low, hq5.box, HCap.out.below hl5, own_new W5 [4, 91, 160, o / 256, o % 256] ho5 (by simp), hl5.size, by have := HS5.out.ll; omega⟩
    have g2 : (W5.alloc (.cells #[.int .u8 4, .int .u8 91, .int .u8 160, .int .u8 (o / 256), .int .u8 (o % 256)] 5)).cell? ⟨w.heap.size, 2, none⟩ = some (.int .u32 i) := (HH.out _ _ _ _ _ _ _ HQ5.out).2.2.1
    clear ho5 hl5 hq5
    go_wp2_with fail
    refine (four_is _ i hi).mono ?_
    generalize (W5.alloc (.cells #[.int .u8 4, .int .u8 91, .int .u8 160, .int .u8 (o / 256), .int .u8 (o % 256)] 5)) = X1 at *
    rintro e X2 ⟨rfl, hby, hB⟩
    have HQ6 := Lib.hid (HQ5.out.below hB)
    have HF6 := Lib.hid (hby.rd_all (B := X2.heap.size) (be_oct 4 i) hby.lt)
    rw [be_len] at HF6
    clear hB hby HQ5 g2 d0 d1 d2 d3 d4 d5
    go_wp2_with (at_builtin; refine app_bs rfl _ _ rfl HQ6.out.own HQ6.out.ll HF6.out (by simp) rfl rfl ?_)
    intro v X3 ho3 hb3 _ _
    have hs3 := HQ6.out.app ho3 hb3
    obtain ⟨B3, k3, rfl, _, _, _⟩ := ho3.at_
    have HQ7 : Hid (PqS w X3 W5.heap.size h A5 2 [2, 0] (.slice B3 9 k3) ([4, 91, 160, o / 256, o % 256] ++ be 4 i)) := Lib.hid (by simpa [be_len] using hs3)
    clear ho3 hb3 hs3 HQ6 HF6
    simp only [List.cons_append, List.nil_append, List.length_cons, List.length_nil, List.length_append, be_len, Nat.zero_add, Nat.reduceAdd]
    have hl1 := byt_new X3 [4, 2, 2] (oct3 (by omega) (by omega) (by omega))
    go_wp2_with (at_builtin; refine app_bs rfl _ _ rfl (HQ7.out.below (below_one8 X3 (.cells (u8s [4, 2, 2]).toArray 5))).own (HQ7.out.below (below_one8 X3 (.cells (u8s [4, 2, 2]).toArray 5))).ll hl1 (by simp [be_len]) rfl rfl ?_)
    intro v X5 ho3 hb3 _ _
    have hs3 := (HQ7.out.below (below_one8 X3 (.cells (u8s [4, 2, 2]).toArray 5))).app ho3 hb3
    obtain ⟨B5, k5, rfl, _, _, _⟩ := ho3.at_
    have HQ8 : Hid (PqS w X5 W5.heap.size h A5 2 [2, 0] (.slice B5 12 k5) ([4, 91, 160, o / 256, o % 256] ++ be 4 i ++ [4, 2, 2])) := Lib.hid (by simpa [be_len] using hs3)
    have HC8 := Lib.hid (HQ8.out.caps.more HQ8.out.ll)
    clear hl1 ho3 hb3 hs3 HQ7
    simp only [List.cons_append, List.nil_append, List.length_cons, List.length_nil, List.length_append, be_len, Nat.zero_add, Nat.reduceAdd]
    go_wp2_with (at_builtin; refine app_bs rfl _ _ rfl HQ8.out.own HQ8.out.ll HC8.out (by simp [be_len]) rfl rfl ?_)
    intro v X4 ho3 hb3 _ _
    have hs3 := HQ8.out.app ho3 hb3
    obtain ⟨B4, k4, rfl, _, _, _⟩ := ho3.at_
    have HQ9 : Hid (PqS w X4 W5.heap.size h A5 2 [2, 0] (.slice B4 14 k4) ([4, 91, 160, o / 256, o % 256] ++ be 4 i ++ [4, 2, 2] ++ [2, 0])) := Lib.hid (by simpa [be_len] using hs3)
    have HR4 : Hid (Rd X4 X4.heap.size B4 14 (bodyH h)) := Lib.hid (by rw [HBd.out.1, HP2.out, show [4, 23456 / 256 % 256, 23456 % 256, o / 256 % 256, o % 256] ++ be 4 i ++ (4 :: 2 :: 2 :: [2, 0]) = ([4, 91, 160, o / 256, o % 256] ++ be 4 i ++ [4, 2, 2] ++ [2, 0]) from by rw [show o / 256 % 256 = o / 256 by omega]; try simp]; exact HQ9.out.own.rd_of)
    have HL4 : Hid ((bodyH h).length = 14 ∧ 14 ≤ k4) := Lib.hid ⟨HR4.out.len, HQ9.out.own.cap_le⟩
    have HLow := Lib.hid HQ9.out.low
    clear hs3 ho3 hb3 HCap HQ9
    simp only [List.cons_append, List.nil_append, List.length_cons, List.length_nil, List.length_append, be_len, Nat.zero_add, Nat.reduceAdd]
    go_wp2
    go_ret2
    exact ⟨B4, 14, k4, by rw [HBd.out.2]; rfl, HL4.out.1.symm, HL4.out.2, HR4.out, HLow.out⟩
  · skip
    have HSh : Hid (shA h.as_ = a) := Lib.hid (by rw [HA.out.1]; unfold shA; rw [if_neg hgt])
    have HP2 : Hid (putB h = [4, a / 256 % 256, a % 256, o / 256 % 256, o % 256] ++ be 4 i ++ (4 :: 2 :: 2 :: [2, 0])) := Lib.hid (by rw [HPt.out, HSh.out, HA.out.2.1, HA.out.2.2]; simp [be_len])
    have hgt2 : ¬ (65535 : Int) < a := hgt
    have ht1 : IntKind.i64.wrap (o.tdiv 256) = o / 256 := by rw [Int.tdiv_eq_ediv_of_nonneg ho.1, IntKind.wrap_i64]; omega
    have ht2 : o.tdiv 256 = o / 256 := Int.tdiv_eq_ediv_of_nonneg ho.1
    have ht3 : o.tmod 256 = o % 256 := Int.tmod_eq_emod_of_nonneg ho.1
    have ho5 : Oct [4, a / 256, a % 256, o / 256, o % 256] := oct5 (by omega) (by omega) (by omega) (by omega) (by omega)
    have hl5 := below_one8 W5 (.cells (u8s [4, a / 256, a % 256, o / 256, o % 256]).toArray 5)
    have hq5 := HS5.out.below hl5
    have HQ5 : Hid (PqS w (W5.alloc (.cells #[.int .u8 4, .int .u8 (a / 256), .int .u8 (a % 256), .int .u8 (o / 256), .int .u8 (o % 256)] 5)) W5.heap.size h A5 2 [2, 0] (.slice (some ⟨W5.heap.size, 0, none⟩) 5 5) [4, a / 256, a % 256, o / 256, o % 256]) := Lib.hid ⟨hq5.low, hq5.box, HCap.out.below hl5, own_new W5 [4, a / 256, a % 256, o / 256, o % 256] ho5 (by simp), hl5.size, by have := HS5.out.ll; omega⟩
    have g2 : (W5.alloc (.cells #[.int .u8 4, .int .u8 (a / 256), .int .u8 (a % 256), .int .u8 (o / 256), .int .u8 (o % 256)] 5)).cell? ⟨w.heap.size, 2, none⟩ = some (.int .u32 i) := (HH.out _ _ _ _ _ _ _ HQ5.out).2.2.1
    clear ho5 hl5 hq5
    go_wp2_with fail
    refine (four_is _ i hi).mono ?_
    generalize (W5.alloc (.cells #[.int .u8 4, .int .u8 (a / 256), .int .u8 (a % 256), .int .u8 (o / 256), .int .u8 (o % 256)] 5)) = X1 at *
    rintro e X2 ⟨rfl, hby, hB⟩
    have HQ6 := Lib.hid (HQ5.out.below hB)
    have HF6 := Lib.hid (hby.rd_all (B := X2.heap.size) (be_oct 4 i) hby.lt)
    rw [be_len] at HF6
    clear hB hby HQ5 g2 d0 d1 d2 d3 d4 d5
    go_wp2_with (at_builtin; refine app_bs rfl _ _ rfl HQ6.out.own HQ6.out.ll HF6.out (by simp) rfl rfl ?_)
    intro v X3 ho3 hb3 _ _
    have hs3 := HQ6.out.app ho3 hb3
    obtain ⟨B3, k3, rfl, _, _, _⟩ := ho3.at_
    have HQ7 : Hid (PqS w X3 W5.heap.size h A5 2 [2, 0] (.slice B3 9 k3) ([4, a / 256, a % 256, o / 256, o % 256] ++ be 4 i)) := Lib.hid (by simpa [be_len] using hs3)
    clear ho3 hb3 hs3 HQ6 HF6
    simp only [List.cons_append, List.nil_append, List.length_cons, List.length_nil, List.length_append, be_len, Nat.zero_add, Nat.reduceAdd]
    have hl1 := byt_new X3 [4, 2, 2] (oct3 (by omega) (by omega) (by omega))
    go_wp2_with (at_builtin; refine app_bs rfl _ _ rfl (HQ7.out.below (below_one8 X3 (.cells (u8s [4, 2, 2]).toArray 5))).own (HQ7.out.below (below_one8 X3 (.cells (u8s [4, 2, 2]).toArray 5))).ll hl1 (by simp [be_len]) rfl rfl ?_)
    intro v X5 ho3 hb3 _ _
    have hs3 := (HQ7.out.below (below_one8 X3 (.cells (u8s [4, 2, 2]).toArray 5))).app ho3 hb3
    obtain ⟨B5, k5, rfl, _, _, _⟩ := ho3.at_
    have HQ8 : Hid (PqS w X5 W5.heap.size h A5 2 [2, 0] (.slice B5 12 k5) ([4, a / 256, a % 256, o / 256, o % 256] ++ be 4 i ++ [4, 2, 2])) := Lib.hid (by simpa [be_len] using hs3)
    have HC8 := Lib.hid (HQ8.out.caps.more HQ8.out.ll)
    clear hl1 ho3 hb3 hs3 HQ7
    simp only [List.cons_append, List.nil_append, List.length_cons, List.length_nil, List.length_append, be_len, Nat.zero_add, Nat.reduceAdd]
    go_wp2_with (at_builtin; refine app_bs rfl _ _ rfl HQ8.out.own HQ8.out.ll HC8.out (by simp [be_len]) rfl rfl ?_)
    intro v X4 ho3 hb3 _ _
    have hs3 := HQ8.out.app ho3 hb3
    obtain ⟨B4, k4, rfl, _, _, _⟩ := ho3.at_
    have HQ9 : Hid (PqS w X4 W5.heap.size h A5 2 [2, 0] (.slice B4 14 k4) ([4, a / 256, a % 256, o / 256, o % 256] ++ be 4 i ++ [4, 2, 2] ++ [2, 0])) := Lib.hid (by simpa [be_len] using hs3)
    have HR4 : Hid (Rd X4 X4.heap.size B4 14 (bodyH h)) := Lib.hid (by rw [HBd.out.1, HP2.out, show [4, a / 256 % 256, a % 256, o / 256 % 256, o % 256] ++ be 4 i ++ (4 :: 2 :: 2 :: [2, 0]) = ([4, a / 256, a % 256, o / 256, o % 256] ++ be 4 i ++ [4, 2, 2] ++ [2, 0]) from by rw [show a / 256 % 256 = a / 256 by omega, show o / 256 % 256 = o / 256 by omega]; try simp]; exact HQ9.out.own.rd_of)
    have HL4 : Hid ((bodyH h).length = 14 ∧ 14 ≤ k4) := Lib.hid ⟨HR4.out.len, HQ9.out.own.cap_le⟩
    have HLow := Lib.hid HQ9.out.low
    clear hs3 ho3 hb3 HCap HQ9
    simp only [List.cons_append, List.nil_append, List.length_cons, List.length_nil, List.length_append, be_len, Nat.zero_add, Nat.reduceAdd]
    go_wp2
    go_ret2
    exact ⟨B4, 14, k4, by rw [HBd.out.2]; rfl, HL4.out.1.symm, HL4.out.2, HR4.out, HLow.out⟩

set_option maxHeartbeats 4000000 in
theorem rput_011 (w : World) (a o i : Int) (hk : HlOk ⟨a, o, i, false, true, true⟩) (hr : rightH ⟨a, o, i, false, true, true⟩ = true) : Calls Tryd.prog 11 #[.agg (hlc ⟨a, o, i, false, true, true⟩).toArray] w (PutH w ⟨a, o, i, false, true, true⟩) := by
  have ha : 0 ≤ a ∧ a < 4294967296 := hk.as_
  have hi : 0 ≤ i ∧ i < 4294967296 := hk.id_
  have hp := right_parts hr
  have ho : 0 ≤ o ∧ o ≤ 65535 := hp.2.2
  have HR : Hid (∀ W, Calls Tryd.prog _ _ W _) := Lib.hid (fun W => rright_is W ⟨a, o, i, false, true, true⟩)
  have HBd : Hid (bodyH ⟨a, o, i, false, true, true⟩ = putB ⟨a, o, i, false, true, true⟩ ∧ errH ⟨a, o, i, false, true, true⟩ = 0) := Lib.hid (by unfold bodyH errH; rw [if_pos hr, if_pos hr]; exact ⟨rfl, rfl⟩)
  have HPt := Lib.hid (putB_parts ⟨a, o, i, false, true, true⟩ hr)
  have hca : capsB ⟨a, o, i, false, true, true⟩ = (2 :: 0 :: 65 :: 4 :: be 4 a) := by simp [capsB]
  rw [hca] at HPt
  rw [hr] at HR
  have HX0 := Lib.hid (Blk.new w 24 (hlc ⟨a, o, i, false, true, true⟩).toArray)
  have HB0 := Lib.hid (below_one8 w (.cells (hlc ⟨a, o, i, false, true, true⟩).toArray 24))
  clear hr hk hp hca
  generalize hh : (⟨a, o, i, false, true, true⟩ : Hl) = h at *
  have HH : Hid (∀ W lo A n cs v l, PqS w W lo h A n cs v l → W.cell? ⟨w.heap.size, 0, none⟩ = some (.int .u32 a) ∧ W.cell? ⟨w.heap.size, 1, none⟩ = some (.int .i64 o) ∧ W.cell? ⟨w.heap.size, 2, none⟩ = some (.int .u32 i) ∧ W.cell? ⟨w.heap.size, 3, none⟩ = some (.bool false) ∧ W.cell? ⟨w.heap.size, 4, none⟩ = some (.bool true) ∧ W.cell? ⟨w.heap.size, 5, none⟩ = some (.bool true)) := Lib.hid (by
    intro W lo A n cs v l k
    have := k.c
    rw [← hh] at this
    exact this)
  have HA : Hid (h.as_ = a ∧ h.hold = o ∧ h.id_ = i) := Lib.hid (by rw [← hh]; exact ⟨rfl, rfl, rfl⟩)
  clear hh
  go_enter Tryd.func11, Tryd.ntmps11
  go_wp2_with (refine h_fetch rfl _ rfl w.heap.size h 24 rfl HX0.out ?_)
  refine (HR.out _).mono ?_
  rintro e W1 ⟨rfl, hB⟩
  have hs1 : w.heap.size + 1 ≤ W1.heap.size := by have := hB.size; simp at this; omega
  have HS1 : Hid (PqS w W1 (w.heap.size + 1) h none 0 [] (.slice none 0 0) []) := Lib.hid ⟨HB0.out.trans (hB.mono HB0.out.size), HX0.out.below hB HX0.out.lt, Rd.nil_ _, OwnB.nil_ _ _, hs1, Nat.le_refl _⟩
  clear hB HB0 HX0 HR hs1
  obtain ⟨d0, d1, d2, d3, d4, d5⟩ := HH.out _ _ _ _ _ _ _ HS1.out
  have hl1 := byt_new W1 [2, 0] (oct2 (by omega) (by omega))
  go_wp2_with (at_builtin; refine app_bs rfl _ _ rfl (HS1.out.below (below_one8 W1 (.cells (u8s [2, 0]).toArray 5))).own (HS1.out.below (below_one8 W1 (.cells (u8s [2, 0]).toArray 5))).ll hl1 (by simp) rfl rfl ?_)
  intro v W5 ho2 hb2 _ _
  have hs2 := (HS1.out.below (below_one8 W1 (.cells (u8s [2, 0]).toArray 5))).app ho2 hb2
  obtain ⟨A5, c5, rfl, _, _, _⟩ := ho2.at_
  have HS5 : Hid (PqS w W5 (w.heap.size + 1) h none 0 [] (.slice A5 2 c5) [2, 0]) := Lib.hid hs2
  clear hl1 ho2 hb2 hs2 HS1 d0 d1 d2 d3 d4 d5
  obtain ⟨d0, d1, d2, d3, d4, d5⟩ := HH.out _ _ _ _ _ _ _ HS5.out
  simp only [List.cons_append, List.nil_append, List.length_cons, List.length_nil, Nat.zero_add, Nat.reduceAdd]
  go_wp2_with fail
  refine wp_region_held_drew (S := fun W => PqS w W (w.heap.size + 1) h none 0 [] (.slice none 0 0) []) (by kernel_rfl) (⟨(HS5.out.below (below_drew8 W5)).low, (HS5.out.below (below_drew8 W5)).box, Rd.nil_ _, OwnB.nil_ _ _, (HS5.out.below (below_drew8 W5)).ll, Nat.le_refl _⟩) (fun hS => ?_)
  have h6 := HS5.out.below (below_drew8 W5)
  generalize W5.drew = W6 at *
  clear HS5 d0 d1 d2 d3 d4 d5
  refine wpAnyH_take (i := 0) (oi := ⟨some 24, _, _, _, _, _⟩) (v := ?_) rfl (by kernel_rfl) (by kernel_rfl) (by kernel_rfl) (fun _ _ _ h => h) (Or.inl ⟨by rfl, ?_⟩) hS ?_
  rotate_left
  · intro wq hq
    first | (go_simp; done) | (go_simp; rfl)
  try simp only [Act.put, List.setIfInBounds_toArray, List.set_cons_zero, List.set_cons_succ]
  refine wpAnyH_take (i := 3) (oi := ⟨some 27, _, _, _, _, _⟩) (v := ?_) rfl (by kernel_rfl) (by kernel_rfl) (by kernel_rfl) (fun _ _ _ h => h) (Or.inl ⟨by rfl, ?_⟩) hS ?_
  rotate_left
  · intro wq hq
    first | (go_simp; done) | (go_simp; rfl)
  try simp only [Act.put, List.setIfInBounds_toArray, List.set_cons_zero, List.set_cons_succ]
  refine wpAnyH_take (i := 4) (oi := ⟨some 28, _, _, _, _, _⟩) (v := ?_) rfl (by kernel_rfl) (by kernel_rfl) (by kernel_rfl) (fun _ _ _ h => h) (Or.inl ⟨by rfl, ?_⟩) hS ?_
  rotate_left
  · intro wq hq
    have c0 := (HH.out _ _ _ _ _ _ _ hq).1
    first | (go_simp; done) | (go_simp; rfl)
  try simp only [Act.put, List.setIfInBounds_toArray, List.set_cons_zero, List.set_cons_succ]
  refine wpAnyH_ready (rs := [1]) (by kernel_rfl) (by simp) ?_
  refine AllReadyH.cons (o := ⟨some 25, _, _, _, _, _⟩) rfl (fun K hK => ?_) AllReadyH.nil
  rw [if_pos (by rfl)]
  go_wp2
  have hl1 := byt_new W6 [65, 4] (oct2 (by omega) (by omega))
  have h7 := h6.below (below_one8 W6 (.cells (u8s [65, 4]).toArray 5))
  clear h6 hS
  refine hK.out _ _ ⟨h7.low, h7.box, Rd.nil_ _, OwnB.nil_ _ _, h7.ll, Nat.le_refl _⟩ (fun hS => ?_)
  clear hK K
  try simp only [Act.put, List.setIfInBounds_toArray, List.set_cons_zero, List.set_cons_succ]
  refine wpAnyH_ready (rs := [2]) (by kernel_rfl) (by simp) ?_
  refine AllReadyH.cons (o := ⟨some 26, _, _, _, _, _⟩) rfl (fun K hK => ?_) AllReadyH.nil
  rw [if_pos (by rfl)]
  refine app_wp8 _ _ rfl h7.own h7.ll hl1 (by simp) rfl rfl ?_
  intro v W8 ho2 hb2
  have h8 := h7.app ho2 hb2
  obtain ⟨A8, c8, rfl, _, _, _⟩ := ho2.at_
  clear hl1 h7 ho2 hb2 hS
  have h8 : PqS w W8 (w.heap.size + 1) h none 0 [] (.slice A8 4 c8) [2, 0, 65, 4] := h8
  refine hK.out _ _ ⟨h8.low, h8.box, Rd.nil_ _, OwnB.nil_ _ _, h8.ll, Nat.le_refl _⟩ (fun hS => ?_)
  clear hK K
  try simp only [Act.put, List.setIfInBounds_toArray, List.set_cons_zero, List.set_cons_succ, List.cons_append, List.nil_append, List.length_cons, List.length_nil, Nat.zero_add, Nat.reduceAdd]
  refine wpAnyH_ready (rs := [5]) (by kernel_rfl) (by simp) ?_
  refine AllReadyH.cons (o := ⟨some 29, _, _, _, _, _⟩) rfl (fun K hK => ?_) AllReadyH.nil
  rw [if_pos (by rfl)]
  go_wp2_with fail
  refine (four_is W8 a ha).mono ?_
  rintro e W9 ⟨rfl, hby, hB⟩
  have h9 := h8.below hB
  have hF9 := hby.rd_all (B := W9.heap.size) (be_oct 4 a) hby.lt
  rw [be_len] at hF9
  clear hB hby h8 hS
  refine hK.out _ _ ⟨h9.low, h9.box, Rd.nil_ _, OwnB.nil_ _ _, h9.ll, Nat.le_refl _⟩ (fun hS => ?_)
  clear hK K
  try simp only [Act.put, List.setIfInBounds_toArray, List.set_cons_zero, List.set_cons_succ]
  refine wpAnyH_ready (rs := [6]) (by kernel_rfl) (by simp) ?_
  refine AllReadyH.cons (o := ⟨some 30, _, _, _, _, _⟩) rfl (fun K hK => ?_) AllReadyH.nil
  rw [if_pos (by rfl)]
  refine app_wp8 _ _ rfl h9.own h9.ll hF9 (by simp) rfl rfl ?_
  intro v WA ho2 hb2
  have hA := h9.app ho2 hb2
  have hlA : (2 :: 0 :: 65 :: 4 :: be 4 a).length = 8 := by simp [be_len]
  obtain ⟨AA, cA, rfl, _, _, _⟩ := ho2.at_
  have hA : PqS w WA (w.heap.size + 1) h none 0 [] (.slice AA 8 cA) (2 :: 0 :: 65 :: 4 :: be 4 a) := by simpa [be_len] using hA
  clear h9 ho2 hb2 hF9 hS
  refine hK.out _ _ ⟨hA.low, hA.box, Rd.nil_ _, OwnB.nil_ _ _, hA.ll, Nat.le_refl _⟩ (fun hS => ?_)
  clear hK K
  have HSA := Lib.hid hA
  clear hA hlA
  try simp only [Act.put, List.setIfInBounds_toArray, List.set_cons_zero, List.set_cons_succ, List.cons_append, List.nil_append, List.length_cons, List.length_nil, be_len, Nat.zero_add, Nat.reduceAdd]
  refine wpAnyH_take (i := 7) (oi := ⟨some 4, _, _, _, _, _⟩) (v := ?_) rfl (by kernel_rfl) (by kernel_rfl) (by kernel_rfl) (fun _ _ _ h => h) (Or.inl ⟨by rfl, ?_⟩) hS ?_
  rotate_left
  · intro wq hq
    first | (go_simp; done) | (go_simp; rfl)
  try simp only [Act.put, List.setIfInBounds_toArray, List.set_cons_zero, List.set_cons_succ]
  refine wpAnyH_done (by kernel_rfl) ?_ _
  clear hS
  obtain ⟨d0, d1, d2, d3, d4, d5⟩ := HH.out _ _ _ _ _ _ _ HSA.out
  have HCap : Hid (Rd WA WA.heap.size AA 8 (2 :: 0 :: 65 :: 4 :: be 4 a)) := Lib.hid HSA.out.own.rd_of
  by_cases hgt : 65535 < a
  · skip
    have HSh : Hid (shA h.as_ = 23456) := Lib.hid (by rw [HA.out.1]; unfold shA; rw [if_pos hgt])
    have HP2 : Hid (putB h = [4, 23456 / 256 % 256, 23456 % 256, o / 256 % 256, o % 256] ++ be 4 i ++ (10 :: 2 :: 8 :: (2 :: 0 :: 65 :: 4 :: be 4 a))) := Lib.hid (by rw [HPt.out, HSh.out, HA.out.2.1, HA.out.2.2]; simp [be_len])
    have ht1 : IntKind.i64.wrap (o.tdiv 256) = o / 256 := by rw [Int.tdiv_eq_ediv_of_nonneg ho.1, IntKind.wrap_i64]; omega
    have ht2 : o.tdiv 256 = o / 256 := Int.tdiv_eq_ediv_of_nonneg ho.1
    have ht3 : o.tmod 256 = o % 256 := Int.tmod_eq_emod_of_nonneg ho.1
    have ho5 : Oct [4, 91, 160, o / 256, o % 256] := oct5 (by omega) (by omega) (by omega) (by omega) (by omega)
    have hl5 := below_one8 WA (.cells (u8s [4, 91, 160, o / 256, o % 256]).toArray 5)
    have hq5 := HSA.out.below hl5
    have HQ5 : Hid (PqS w (WA.alloc (.cells #[.int .u8 4, .int .u8 91, .int .u8 160, .int .u8 (o / 256), .int .u8 (o % 256)] 5)) WA.heap.size h AA 8 (2 :: 0 :: 65 :: 4 :: be 4 a) (.slice (some ⟨WA.heap.size, 0, none⟩) 5 5) [4, 91, 160, o / 256, o % 256]) := Lib.hid ⟨hq5.low, hq5.box, HCap.out.below hl5, own_new WA [4, 91, 160, o / 256, o % 256] ho5 (by simp), hl5.size, by have := HSA.out.ll; omega⟩
    have g2 : (WA.alloc (.cells #[.int .u8 4, .int .u8 91, .int .u8 160, .int .u8 (o / 256), .int .u8 (o % 256)] 5)).cell? ⟨w.heap.size, 2, none⟩ = some (.int .u32 i) := (HH.out _ _ _ _ _ _ _ HQ5.out).2.2.1
    clear ho5 hl5 hq5
    go_wp2_with fail
    refine (four_is _ i hi).mono ?_
    generalize (WA.alloc (.cells #[.int .u8 4, .int .u8 91, .int .u8 160, .int .u8 (o / 256), .int .u8 (o % 256)] 5)) = X1 at *
    rintro e X2 ⟨rfl, hby, hB⟩
    have HQ6 := Lib.hid (HQ5.out.below hB)
    have HF6 := Lib.hid (hby.rd_all (B := X2.heap.size) (be_oct 4 i) hby.lt)
    rw [be_len] at HF6
    clear hB hby HQ5 g2 d0 d1 d2 d3 d4 d5
    go_wp2_with (at_builtin; refine app_bs rfl _ _ rfl HQ6.out.own HQ6.out.ll HF6.out (by simp) rfl rfl ?_)
    intro v X3 ho3 hb3 _ _
    have hs3 := HQ6.out.app ho3 hb3
    obtain ⟨B3, k3, rfl, _, _, _⟩ := ho3.at_
    have HQ7 : Hid (PqS w X3 WA.heap.size h AA 8 (2 :: 0 :: 65 :: 4 :: be 4 a) (.slice B3 9 k3) ([4, 91, 160, o / 256, o % 256] ++ be 4 i)) := Lib.hid (by simpa [be_len] using hs3)
    clear ho3 hb3 hs3 HQ6 HF6
    simp only [List.cons_append, List.nil_append, List.length_cons, List.length_nil, List.length_append, be_len, Nat.zero_add, Nat.reduceAdd]
    have hl1 := byt_new X3 [10, 2, 8] (oct3 (by omega) (by omega) (by omega))
    go_wp2_with (at_builtin; refine app_bs rfl _ _ rfl (HQ7.out.below (below_one8 X3 (.cells (u8s [10, 2, 8]).toArray 5))).own (HQ7.out.below (below_one8 X3 (.cells (u8s [10, 2, 8]).toArray 5))).ll hl1 (by simp [be_len]) rfl rfl ?_)
    intro v X5 ho3 hb3 _ _
    have hs3 := (HQ7.out.below (below_one8 X3 (.cells (u8s [10, 2, 8]).toArray 5))).app ho3 hb3
    obtain ⟨B5, k5, rfl, _, _, _⟩ := ho3.at_
    have HQ8 : Hid (PqS w X5 WA.heap.size h AA 8 (2 :: 0 :: 65 :: 4 :: be 4 a) (.slice B5 12 k5) ([4, 91, 160, o / 256, o % 256] ++ be 4 i ++ [10, 2, 8])) := Lib.hid (by simpa [be_len] using hs3)
    have HC8 := Lib.hid (HQ8.out.caps.more HQ8.out.ll)
    clear hl1 ho3 hb3 hs3 HQ7
    simp only [List.cons_append, List.nil_append, List.length_cons, List.length_nil, List.length_append, be_len, Nat.zero_add, Nat.reduceAdd]
    go_wp2_with (at_builtin; refine app_bs rfl _ _ rfl HQ8.out.own HQ8.out.ll HC8.out (by simp [be_len]) rfl rfl ?_)
    intro v X4 ho3 hb3 _ _
    have hs3 := HQ8.out.app ho3 hb3
    obtain ⟨B4, k4, rfl, _, _, _⟩ := ho3.at_
    have HQ9 : Hid (PqS w X4 WA.heap.size h AA 8 (2 :: 0 :: 65 :: 4 :: be 4 a) (.slice B4 20 k4) ([4, 91, 160, o / 256, o % 256] ++ be 4 i ++ [10, 2, 8] ++ (2 :: 0 :: 65 :: 4 :: be 4 a))) := Lib.hid (by simpa [be_len] using hs3)
    have HR4 : Hid (Rd X4 X4.heap.size B4 20 (bodyH h)) := Lib.hid (by rw [HBd.out.1, HP2.out, show [4, 23456 / 256 % 256, 23456 % 256, o / 256 % 256, o % 256] ++ be 4 i ++ (10 :: 2 :: 8 :: (2 :: 0 :: 65 :: 4 :: be 4 a)) = ([4, 91, 160, o / 256, o % 256] ++ be 4 i ++ [10, 2, 8] ++ (2 :: 0 :: 65 :: 4 :: be 4 a)) from by rw [show o / 256 % 256 = o / 256 by omega]; try simp]; exact HQ9.out.own.rd_of)
    have HL4 : Hid ((bodyH h).length = 20 ∧ 20 ≤ k4) := Lib.hid ⟨HR4.out.len, HQ9.out.own.cap_le⟩
    have HLow := Lib.hid HQ9.out.low
    clear hs3 ho3 hb3 HCap HQ9
    simp only [List.cons_append, List.nil_append, List.length_cons, List.length_nil, List.length_append, be_len, Nat.zero_add, Nat.reduceAdd]
    go_wp2
    go_ret2
    exact ⟨B4, 20, k4, by rw [HBd.out.2]; rfl, HL4.out.1.symm, HL4.out.2, HR4.out, HLow.out⟩
  · skip
    have HSh : Hid (shA h.as_ = a) := Lib.hid (by rw [HA.out.1]; unfold shA; rw [if_neg hgt])
    have HP2 : Hid (putB h = [4, a / 256 % 256, a % 256, o / 256 % 256, o % 256] ++ be 4 i ++ (10 :: 2 :: 8 :: (2 :: 0 :: 65 :: 4 :: be 4 a))) := Lib.hid (by rw [HPt.out, HSh.out, HA.out.2.1, HA.out.2.2]; simp [be_len])
    have hgt2 : ¬ (65535 : Int) < a := hgt
    have ht1 : IntKind.i64.wrap (o.tdiv 256) = o / 256 := by rw [Int.tdiv_eq_ediv_of_nonneg ho.1, IntKind.wrap_i64]; omega
    have ht2 : o.tdiv 256 = o / 256 := Int.tdiv_eq_ediv_of_nonneg ho.1
    have ht3 : o.tmod 256 = o % 256 := Int.tmod_eq_emod_of_nonneg ho.1
    have ho5 : Oct [4, a / 256, a % 256, o / 256, o % 256] := oct5 (by omega) (by omega) (by omega) (by omega) (by omega)
    have hl5 := below_one8 WA (.cells (u8s [4, a / 256, a % 256, o / 256, o % 256]).toArray 5)
    have hq5 := HSA.out.below hl5
    have HQ5 : Hid (PqS w (WA.alloc (.cells #[.int .u8 4, .int .u8 (a / 256), .int .u8 (a % 256), .int .u8 (o / 256), .int .u8 (o % 256)] 5)) WA.heap.size h AA 8 (2 :: 0 :: 65 :: 4 :: be 4 a) (.slice (some ⟨WA.heap.size, 0, none⟩) 5 5) [4, a / 256, a % 256, o / 256, o % 256]) := Lib.hid ⟨hq5.low, hq5.box, HCap.out.below hl5, own_new WA [4, a / 256, a % 256, o / 256, o % 256] ho5 (by simp), hl5.size, by have := HSA.out.ll; omega⟩
    have g2 : (WA.alloc (.cells #[.int .u8 4, .int .u8 (a / 256), .int .u8 (a % 256), .int .u8 (o / 256), .int .u8 (o % 256)] 5)).cell? ⟨w.heap.size, 2, none⟩ = some (.int .u32 i) := (HH.out _ _ _ _ _ _ _ HQ5.out).2.2.1
    clear ho5 hl5 hq5
    go_wp2_with fail
    refine (four_is _ i hi).mono ?_
    generalize (WA.alloc (.cells #[.int .u8 4, .int .u8 (a / 256), .int .u8 (a % 256), .int .u8 (o / 256), .int .u8 (o % 256)] 5)) = X1 at *
    rintro e X2 ⟨rfl, hby, hB⟩
    have HQ6 := Lib.hid (HQ5.out.below hB)
    have HF6 := Lib.hid (hby.rd_all (B := X2.heap.size) (be_oct 4 i) hby.lt)
    rw [be_len] at HF6
    clear hB hby HQ5 g2 d0 d1 d2 d3 d4 d5
    go_wp2_with (at_builtin; refine app_bs rfl _ _ rfl HQ6.out.own HQ6.out.ll HF6.out (by simp) rfl rfl ?_)
    intro v X3 ho3 hb3 _ _
    have hs3 := HQ6.out.app ho3 hb3
    obtain ⟨B3, k3, rfl, _, _, _⟩ := ho3.at_
    have HQ7 : Hid (PqS w X3 WA.heap.size h AA 8 (2 :: 0 :: 65 :: 4 :: be 4 a) (.slice B3 9 k3) ([4, a / 256, a % 256, o / 256, o % 256] ++ be 4 i)) := Lib.hid (by simpa [be_len] using hs3)
    clear ho3 hb3 hs3 HQ6 HF6
    simp only [List.cons_append, List.nil_append, List.length_cons, List.length_nil, List.length_append, be_len, Nat.zero_add, Nat.reduceAdd]
    have hl1 := byt_new X3 [10, 2, 8] (oct3 (by omega) (by omega) (by omega))
    go_wp2_with (at_builtin; refine app_bs rfl _ _ rfl (HQ7.out.below (below_one8 X3 (.cells (u8s [10, 2, 8]).toArray 5))).own (HQ7.out.below (below_one8 X3 (.cells (u8s [10, 2, 8]).toArray 5))).ll hl1 (by simp [be_len]) rfl rfl ?_)
    intro v X5 ho3 hb3 _ _
    have hs3 := (HQ7.out.below (below_one8 X3 (.cells (u8s [10, 2, 8]).toArray 5))).app ho3 hb3
    obtain ⟨B5, k5, rfl, _, _, _⟩ := ho3.at_
    have HQ8 : Hid (PqS w X5 WA.heap.size h AA 8 (2 :: 0 :: 65 :: 4 :: be 4 a) (.slice B5 12 k5) ([4, a / 256, a % 256, o / 256, o % 256] ++ be 4 i ++ [10, 2, 8])) := Lib.hid (by simpa [be_len] using hs3)
    have HC8 := Lib.hid (HQ8.out.caps.more HQ8.out.ll)
    clear hl1 ho3 hb3 hs3 HQ7
    simp only [List.cons_append, List.nil_append, List.length_cons, List.length_nil, List.length_append, be_len, Nat.zero_add, Nat.reduceAdd]
    go_wp2_with (at_builtin; refine app_bs rfl _ _ rfl HQ8.out.own HQ8.out.ll HC8.out (by simp [be_len]) rfl rfl ?_)
    intro v X4 ho3 hb3 _ _
    have hs3 := HQ8.out.app ho3 hb3
    obtain ⟨B4, k4, rfl, _, _, _⟩ := ho3.at_
    have HQ9 : Hid (PqS w X4 WA.heap.size h AA 8 (2 :: 0 :: 65 :: 4 :: be 4 a) (.slice B4 20 k4) ([4, a / 256, a % 256, o / 256, o % 256] ++ be 4 i ++ [10, 2, 8] ++ (2 :: 0 :: 65 :: 4 :: be 4 a))) := Lib.hid (by simpa [be_len] using hs3)
    have HR4 : Hid (Rd X4 X4.heap.size B4 20 (bodyH h)) := Lib.hid (by rw [HBd.out.1, HP2.out, show [4, a / 256 % 256, a % 256, o / 256 % 256, o % 256] ++ be 4 i ++ (10 :: 2 :: 8 :: (2 :: 0 :: 65 :: 4 :: be 4 a)) = ([4, a / 256, a % 256, o / 256, o % 256] ++ be 4 i ++ [10, 2, 8] ++ (2 :: 0 :: 65 :: 4 :: be 4 a)) from by rw [show a / 256 % 256 = a / 256 by omega, show o / 256 % 256 = o / 256 by omega]; try simp]; exact HQ9.out.own.rd_of)
    have HL4 : Hid ((bodyH h).length = 20 ∧ 20 ≤ k4) := Lib.hid ⟨HR4.out.len, HQ9.out.own.cap_le⟩
    have HLow := Lib.hid HQ9.out.low
    clear hs3 ho3 hb3 HCap HQ9
    simp only [List.cons_append, List.nil_append, List.length_cons, List.length_nil, List.length_append, be_len, Nat.zero_add, Nat.reduceAdd]
    go_wp2
    go_ret2
    exact ⟨B4, 20, k4, by rw [HBd.out.2]; rfl, HL4.out.1.symm, HL4.out.2, HR4.out, HLow.out⟩

set_option maxHeartbeats 4000000 in
theorem rput_100 (w : World) (a o i : Int) (hk : HlOk ⟨a, o, i, true, false, false⟩) (hr : rightH ⟨a, o, i, true, false, false⟩ = true) : Calls Tryd.prog 11 #[.agg (hlc ⟨a, o, i, true, false, false⟩).toArray] w (PutH w ⟨a, o, i, true, false, false⟩) := by
  have ha : 0 ≤ a ∧ a < 4294967296 := hk.as_
  have hi : 0 ≤ i ∧ i < 4294967296 := hk.id_
  have hp := right_parts hr
  have ho : 0 ≤ o ∧ o ≤ 65535 := hp.2.2
  have HR : Hid (∀ W, Calls Tryd.prog _ _ W _) := Lib.hid (fun W => rright_is W ⟨a, o, i, true, false, false⟩)
  have HBd : Hid (bodyH ⟨a, o, i, true, false, false⟩ = putB ⟨a, o, i, true, false, false⟩ ∧ errH ⟨a, o, i, true, false, false⟩ = 0) := Lib.hid (by unfold bodyH errH; rw [if_pos hr, if_pos hr]; exact ⟨rfl, rfl⟩)
  have HPt := Lib.hid (putB_parts ⟨a, o, i, true, false, false⟩ hr)
  have hca : capsB ⟨a, o, i, true, false, false⟩ = [1, 4, 0, 25, 0, 70] := by simp [capsB]
  rw [hca] at HPt
  rw [hr] at HR
  have HX0 := Lib.hid (Blk.new w 24 (hlc ⟨a, o, i, true, false, false⟩).toArray)
  have HB0 := Lib.hid (below_one8 w (.cells (hlc ⟨a, o, i, true, false, false⟩).toArray 24))
  clear hr hk hp hca
  generalize hh : (⟨a, o, i, true, false, false⟩ : Hl) = h at *
  have HH : Hid (∀ W lo A n cs v l, PqS w W lo h A n cs v l → W.cell? ⟨w.heap.size, 0, none⟩ = some (.int .u32 a) ∧ W.cell? ⟨w.heap.size, 1, none⟩ = some (.int .i64 o) ∧ W.cell? ⟨w.heap.size, 2, none⟩ = some (.int .u32 i) ∧ W.cell? ⟨w.heap.size, 3, none⟩ = some (.bool true) ∧ W.cell? ⟨w.heap.size, 4, none⟩ = some (.bool false) ∧ W.cell? ⟨w.heap.size, 5, none⟩ = some (.bool false)) := Lib.hid (by
    intro W lo A n cs v l k
    have := k.c
    rw [← hh] at this
    exact this)
  have HA : Hid (h.as_ = a ∧ h.hold = o ∧ h.id_ = i) := Lib.hid (by rw [← hh]; exact ⟨rfl, rfl, rfl⟩)
  clear hh
  go_enter Tryd.func11, Tryd.ntmps11
  go_wp2_with (refine h_fetch rfl _ rfl w.heap.size h 24 rfl HX0.out ?_)
  refine (HR.out _).mono ?_
  rintro e W1 ⟨rfl, hB⟩
  have hs1 : w.heap.size + 1 ≤ W1.heap.size := by have := hB.size; simp at this; omega
  have HS1 : Hid (PqS w W1 (w.heap.size + 1) h none 0 [] (.slice none 0 0) []) := Lib.hid ⟨HB0.out.trans (hB.mono HB0.out.size), HX0.out.below hB HX0.out.lt, Rd.nil_ _, OwnB.nil_ _ _, hs1, Nat.le_refl _⟩
  clear hB HB0 HX0 HR hs1
  obtain ⟨d0, d1, d2, d3, d4, d5⟩ := HH.out _ _ _ _ _ _ _ HS1.out
  have hl1 := byt_new W1 [1, 4] (oct2 (by omega) (by omega))
  go_wp2_with (at_builtin; refine app_bs rfl _ _ rfl (HS1.out.below (below_one8 W1 (.cells (u8s [1, 4]).toArray 5))).own (HS1.out.below (below_one8 W1 (.cells (u8s [1, 4]).toArray 5))).ll hl1 (by simp) rfl rfl ?_)
  intro v W2 ho2 hb2 _ _
  have hs2 := (HS1.out.below (below_one8 W1 (.cells (u8s [1, 4]).toArray 5))).app ho2 hb2
  obtain ⟨A2, c2, rfl, _, _, _⟩ := ho2.at_
  have HS2 : Hid (PqS w W2 (w.heap.size + 1) h none 0 [] (.slice A2 2 c2) [1, 4]) := Lib.hid hs2
  clear hl1 ho2 hb2 hs2 HS1 d0 d1 d2 d3 d4 d5
  simp only [List.nil_append, List.length_cons, List.length_nil, Nat.zero_add, Nat.reduceAdd]
  go_wp2_with fail
  refine (rfamily_is W2).mono ?_
  rintro e W3 ⟨rfl, hby, hB⟩
  have HS3 := Lib.hid (HS2.out.below hB)
  have HF3 := Lib.hid (hby.rd_all (B := W3.heap.size) fam_oct hby.lt)
  clear hB hby HS2
  go_wp2_with (at_builtin; refine app_bs rfl _ _ rfl HS3.out.own HS3.out.ll HF3.out (by simp) rfl rfl ?_)
  intro v W4 ho2 hb2 _ _
  have hs2 := HS3.out.app ho2 hb2
  obtain ⟨A4, c4, rfl, _, _, _⟩ := ho2.at_
  have HS4 : Hid (PqS w W4 (w.heap.size + 1) h none 0 [] (.slice A4 6 c4) [1, 4, 0, 25, 0, 70]) := Lib.hid hs2
  clear ho2 hb2 hs2 HS3 HF3
  obtain ⟨d0, d1, d2, d3, d4, d5⟩ := HH.out _ _ _ _ _ _ _ HS4.out
  simp only [List.cons_append, List.nil_append, List.length_cons, List.length_nil, Nat.zero_add, Nat.reduceAdd]
  have HCap : Hid (Rd W4 W4.heap.size A4 6 [1, 4, 0, 25, 0, 70]) := Lib.hid HS4.out.own.rd_of
  by_cases hgt : 65535 < a
  · skip
    have HSh : Hid (shA h.as_ = 23456) := Lib.hid (by rw [HA.out.1]; unfold shA; rw [if_pos hgt])
    have HP2 : Hid (putB h = [4, 23456 / 256 % 256, 23456 % 256, o / 256 % 256, o % 256] ++ be 4 i ++ (8 :: 2 :: 6 :: [1, 4, 0, 25, 0, 70])) := Lib.hid (by rw [HPt.out, HSh.out, HA.out.2.1, HA.out.2.2]; simp [be_len])
    have ht1 : IntKind.i64.wrap (o.tdiv 256) = o / 256 := by rw [Int.tdiv_eq_ediv_of_nonneg ho.1, IntKind.wrap_i64]; omega
    have ht2 : o.tdiv 256 = o / 256 := Int.tdiv_eq_ediv_of_nonneg ho.1
    have ht3 : o.tmod 256 = o % 256 := Int.tmod_eq_emod_of_nonneg ho.1
    have ho5 : Oct [4, 91, 160, o / 256, o % 256] := oct5 (by omega) (by omega) (by omega) (by omega) (by omega)
    have hl5 := below_one8 W4 (.cells (u8s [4, 91, 160, o / 256, o % 256]).toArray 5)
    have hq5 := HS4.out.below hl5
    have HQ5 : Hid (PqS w (W4.alloc (.cells #[.int .u8 4, .int .u8 91, .int .u8 160, .int .u8 (o / 256), .int .u8 (o % 256)] 5)) W4.heap.size h A4 6 [1, 4, 0, 25, 0, 70] (.slice (some ⟨W4.heap.size, 0, none⟩) 5 5) [4, 91, 160, o / 256, o % 256]) := Lib.hid ⟨hq5.low, hq5.box, HCap.out.below hl5, own_new W4 [4, 91, 160, o / 256, o % 256] ho5 (by simp), hl5.size, by have := HS4.out.ll; omega⟩
    have g2 : (W4.alloc (.cells #[.int .u8 4, .int .u8 91, .int .u8 160, .int .u8 (o / 256), .int .u8 (o % 256)] 5)).cell? ⟨w.heap.size, 2, none⟩ = some (.int .u32 i) := (HH.out _ _ _ _ _ _ _ HQ5.out).2.2.1
    clear ho5 hl5 hq5
    go_wp2_with fail
    refine (four_is _ i hi).mono ?_
    generalize (W4.alloc (.cells #[.int .u8 4, .int .u8 91, .int .u8 160, .int .u8 (o / 256), .int .u8 (o % 256)] 5)) = X1 at *
    rintro e X2 ⟨rfl, hby, hB⟩
    have HQ6 := Lib.hid (HQ5.out.below hB)
    have HF6 := Lib.hid (hby.rd_all (B := X2.heap.size) (be_oct 4 i) hby.lt)
    rw [be_len] at HF6
    clear hB hby HQ5 g2 d0 d1 d2 d3 d4 d5
    go_wp2_with (at_builtin; refine app_bs rfl _ _ rfl HQ6.out.own HQ6.out.ll HF6.out (by simp) rfl rfl ?_)
    intro v X3 ho3 hb3 _ _
    have hs3 := HQ6.out.app ho3 hb3
    obtain ⟨B3, k3, rfl, _, _, _⟩ := ho3.at_
    have HQ7 : Hid (PqS w X3 W4.heap.size h A4 6 [1, 4, 0, 25, 0, 70] (.slice B3 9 k3) ([4, 91, 160, o / 256, o % 256] ++ be 4 i)) := Lib.hid (by simpa [be_len] using hs3)
    clear ho3 hb3 hs3 HQ6 HF6
    simp only [List.cons_append, List.nil_append, List.length_cons, List.length_nil, List.length_append, be_len, Nat.zero_add, Nat.reduceAdd]
    have hl1 := byt_new X3 [8, 2, 6] (oct3 (by omega) (by omega) (by omega))
    go_wp2_with (at_builtin; refine app_bs rfl _ _ rfl (HQ7.out.below (below_one8 X3 (.cells (u8s [8, 2, 6]).toArray 5))).own (HQ7.out.below (below_one8 X3 (.cells (u8s [8, 2, 6]).toArray 5))).ll hl1 (by simp [be_len]) rfl rfl ?_)
    intro v X5 ho3 hb3 _ _
    have hs3 := (HQ7.out.below (below_one8 X3 (.cells (u8s [8, 2, 6]).toArray 5))).app ho3 hb3
    obtain ⟨B5, k5, rfl, _, _, _⟩ := ho3.at_
    have HQ8 : Hid (PqS w X5 W4.heap.size h A4 6 [1, 4, 0, 25, 0, 70] (.slice B5 12 k5) ([4, 91, 160, o / 256, o % 256] ++ be 4 i ++ [8, 2, 6])) := Lib.hid (by simpa [be_len] using hs3)
    have HC8 := Lib.hid (HQ8.out.caps.more HQ8.out.ll)
    clear hl1 ho3 hb3 hs3 HQ7
    simp only [List.cons_append, List.nil_append, List.length_cons, List.length_nil, List.length_append, be_len, Nat.zero_add, Nat.reduceAdd]
    go_wp2_with (at_builtin; refine app_bs rfl _ _ rfl HQ8.out.own HQ8.out.ll HC8.out (by simp [be_len]) rfl rfl ?_)
    intro v X4 ho3 hb3 _ _
    have hs3 := HQ8.out.app ho3 hb3
    obtain ⟨B4, k4, rfl, _, _, _⟩ := ho3.at_
    have HQ9 : Hid (PqS w X4 W4.heap.size h A4 6 [1, 4, 0, 25, 0, 70] (.slice B4 18 k4) ([4, 91, 160, o / 256, o % 256] ++ be 4 i ++ [8, 2, 6] ++ [1, 4, 0, 25, 0, 70])) := Lib.hid (by simpa [be_len] using hs3)
    have HR4 : Hid (Rd X4 X4.heap.size B4 18 (bodyH h)) := Lib.hid (by rw [HBd.out.1, HP2.out, show [4, 23456 / 256 % 256, 23456 % 256, o / 256 % 256, o % 256] ++ be 4 i ++ (8 :: 2 :: 6 :: [1, 4, 0, 25, 0, 70]) = ([4, 91, 160, o / 256, o % 256] ++ be 4 i ++ [8, 2, 6] ++ [1, 4, 0, 25, 0, 70]) from by rw [show o / 256 % 256 = o / 256 by omega]; try simp]; exact HQ9.out.own.rd_of)
    have HL4 : Hid ((bodyH h).length = 18 ∧ 18 ≤ k4) := Lib.hid ⟨HR4.out.len, HQ9.out.own.cap_le⟩
    have HLow := Lib.hid HQ9.out.low
    clear hs3 ho3 hb3 HCap HQ9
    simp only [List.cons_append, List.nil_append, List.length_cons, List.length_nil, List.length_append, be_len, Nat.zero_add, Nat.reduceAdd]
    go_wp2
    go_ret2
    exact ⟨B4, 18, k4, by rw [HBd.out.2]; rfl, HL4.out.1.symm, HL4.out.2, HR4.out, HLow.out⟩
  · skip
    have HSh : Hid (shA h.as_ = a) := Lib.hid (by rw [HA.out.1]; unfold shA; rw [if_neg hgt])
    have HP2 : Hid (putB h = [4, a / 256 % 256, a % 256, o / 256 % 256, o % 256] ++ be 4 i ++ (8 :: 2 :: 6 :: [1, 4, 0, 25, 0, 70])) := Lib.hid (by rw [HPt.out, HSh.out, HA.out.2.1, HA.out.2.2]; simp [be_len])
    have hgt2 : ¬ (65535 : Int) < a := hgt
    have ht1 : IntKind.i64.wrap (o.tdiv 256) = o / 256 := by rw [Int.tdiv_eq_ediv_of_nonneg ho.1, IntKind.wrap_i64]; omega
    have ht2 : o.tdiv 256 = o / 256 := Int.tdiv_eq_ediv_of_nonneg ho.1
    have ht3 : o.tmod 256 = o % 256 := Int.tmod_eq_emod_of_nonneg ho.1
    have ho5 : Oct [4, a / 256, a % 256, o / 256, o % 256] := oct5 (by omega) (by omega) (by omega) (by omega) (by omega)
    have hl5 := below_one8 W4 (.cells (u8s [4, a / 256, a % 256, o / 256, o % 256]).toArray 5)
    have hq5 := HS4.out.below hl5
    have HQ5 : Hid (PqS w (W4.alloc (.cells #[.int .u8 4, .int .u8 (a / 256), .int .u8 (a % 256), .int .u8 (o / 256), .int .u8 (o % 256)] 5)) W4.heap.size h A4 6 [1, 4, 0, 25, 0, 70] (.slice (some ⟨W4.heap.size, 0, none⟩) 5 5) [4, a / 256, a % 256, o / 256, o % 256]) := Lib.hid ⟨hq5.low, hq5.box, HCap.out.below hl5, own_new W4 [4, a / 256, a % 256, o / 256, o % 256] ho5 (by simp), hl5.size, by have := HS4.out.ll; omega⟩
    have g2 : (W4.alloc (.cells #[.int .u8 4, .int .u8 (a / 256), .int .u8 (a % 256), .int .u8 (o / 256), .int .u8 (o % 256)] 5)).cell? ⟨w.heap.size, 2, none⟩ = some (.int .u32 i) := (HH.out _ _ _ _ _ _ _ HQ5.out).2.2.1
    clear ho5 hl5 hq5
    go_wp2_with fail
    refine (four_is _ i hi).mono ?_
    generalize (W4.alloc (.cells #[.int .u8 4, .int .u8 (a / 256), .int .u8 (a % 256), .int .u8 (o / 256), .int .u8 (o % 256)] 5)) = X1 at *
    rintro e X2 ⟨rfl, hby, hB⟩
    have HQ6 := Lib.hid (HQ5.out.below hB)
    have HF6 := Lib.hid (hby.rd_all (B := X2.heap.size) (be_oct 4 i) hby.lt)
    rw [be_len] at HF6
    clear hB hby HQ5 g2 d0 d1 d2 d3 d4 d5
    go_wp2_with (at_builtin; refine app_bs rfl _ _ rfl HQ6.out.own HQ6.out.ll HF6.out (by simp) rfl rfl ?_)
    intro v X3 ho3 hb3 _ _
    have hs3 := HQ6.out.app ho3 hb3
    obtain ⟨B3, k3, rfl, _, _, _⟩ := ho3.at_
    have HQ7 : Hid (PqS w X3 W4.heap.size h A4 6 [1, 4, 0, 25, 0, 70] (.slice B3 9 k3) ([4, a / 256, a % 256, o / 256, o % 256] ++ be 4 i)) := Lib.hid (by simpa [be_len] using hs3)
    clear ho3 hb3 hs3 HQ6 HF6
    simp only [List.cons_append, List.nil_append, List.length_cons, List.length_nil, List.length_append, be_len, Nat.zero_add, Nat.reduceAdd]
    have hl1 := byt_new X3 [8, 2, 6] (oct3 (by omega) (by omega) (by omega))
    go_wp2_with (at_builtin; refine app_bs rfl _ _ rfl (HQ7.out.below (below_one8 X3 (.cells (u8s [8, 2, 6]).toArray 5))).own (HQ7.out.below (below_one8 X3 (.cells (u8s [8, 2, 6]).toArray 5))).ll hl1 (by simp [be_len]) rfl rfl ?_)
    intro v X5 ho3 hb3 _ _
    have hs3 := (HQ7.out.below (below_one8 X3 (.cells (u8s [8, 2, 6]).toArray 5))).app ho3 hb3
    obtain ⟨B5, k5, rfl, _, _, _⟩ := ho3.at_
    have HQ8 : Hid (PqS w X5 W4.heap.size h A4 6 [1, 4, 0, 25, 0, 70] (.slice B5 12 k5) ([4, a / 256, a % 256, o / 256, o % 256] ++ be 4 i ++ [8, 2, 6])) := Lib.hid (by simpa [be_len] using hs3)
    have HC8 := Lib.hid (HQ8.out.caps.more HQ8.out.ll)
    clear hl1 ho3 hb3 hs3 HQ7
    simp only [List.cons_append, List.nil_append, List.length_cons, List.length_nil, List.length_append, be_len, Nat.zero_add, Nat.reduceAdd]
    go_wp2_with (at_builtin; refine app_bs rfl _ _ rfl HQ8.out.own HQ8.out.ll HC8.out (by simp [be_len]) rfl rfl ?_)
    intro v X4 ho3 hb3 _ _
    have hs3 := HQ8.out.app ho3 hb3
    obtain ⟨B4, k4, rfl, _, _, _⟩ := ho3.at_
    have HQ9 : Hid (PqS w X4 W4.heap.size h A4 6 [1, 4, 0, 25, 0, 70] (.slice B4 18 k4) ([4, a / 256, a % 256, o / 256, o % 256] ++ be 4 i ++ [8, 2, 6] ++ [1, 4, 0, 25, 0, 70])) := Lib.hid (by simpa [be_len] using hs3)
    have HR4 : Hid (Rd X4 X4.heap.size B4 18 (bodyH h)) := Lib.hid (by rw [HBd.out.1, HP2.out, show [4, a / 256 % 256, a % 256, o / 256 % 256, o % 256] ++ be 4 i ++ (8 :: 2 :: 6 :: [1, 4, 0, 25, 0, 70]) = ([4, a / 256, a % 256, o / 256, o % 256] ++ be 4 i ++ [8, 2, 6] ++ [1, 4, 0, 25, 0, 70]) from by rw [show a / 256 % 256 = a / 256 by omega, show o / 256 % 256 = o / 256 by omega]; try simp]; exact HQ9.out.own.rd_of)
    have HL4 : Hid ((bodyH h).length = 18 ∧ 18 ≤ k4) := Lib.hid ⟨HR4.out.len, HQ9.out.own.cap_le⟩
    have HLow := Lib.hid HQ9.out.low
    clear hs3 ho3 hb3 HCap HQ9
    simp only [List.cons_append, List.nil_append, List.length_cons, List.length_nil, List.length_append, be_len, Nat.zero_add, Nat.reduceAdd]
    go_wp2
    go_ret2
    exact ⟨B4, 18, k4, by rw [HBd.out.2]; rfl, HL4.out.1.symm, HL4.out.2, HR4.out, HLow.out⟩

set_option maxHeartbeats 4000000 in
theorem rput_101 (w : World) (a o i : Int) (hk : HlOk ⟨a, o, i, true, true, false⟩) (hr : rightH ⟨a, o, i, true, true, false⟩ = true) : Calls Tryd.prog 11 #[.agg (hlc ⟨a, o, i, true, true, false⟩).toArray] w (PutH w ⟨a, o, i, true, true, false⟩) := by
  have ha : 0 ≤ a ∧ a < 4294967296 := hk.as_
  have hi : 0 ≤ i ∧ i < 4294967296 := hk.id_
  have hp := right_parts hr
  have ho : 0 ≤ o ∧ o ≤ 65535 := hp.2.2
  have HR : Hid (∀ W, Calls Tryd.prog _ _ W _) := Lib.hid (fun W => rright_is W ⟨a, o, i, true, true, false⟩)
  have HBd : Hid (bodyH ⟨a, o, i, true, true, false⟩ = putB ⟨a, o, i, true, true, false⟩ ∧ errH ⟨a, o, i, true, true, false⟩ = 0) := Lib.hid (by unfold bodyH errH; rw [if_pos hr, if_pos hr]; exact ⟨rfl, rfl⟩)
  have HPt := Lib.hid (putB_parts ⟨a, o, i, true, true, false⟩ hr)
  have hca : capsB ⟨a, o, i, true, true, false⟩ = (1 :: 4 :: 0 :: 25 :: 0 :: 70 :: 65 :: 4 :: be 4 a) := by simp [capsB]
  rw [hca] at HPt
  rw [hr] at HR
  have HX0 := Lib.hid (Blk.new w 24 (hlc ⟨a, o, i, true, true, false⟩).toArray)
  have HB0 := Lib.hid (below_one8 w (.cells (hlc ⟨a, o, i, true, true, false⟩).toArray 24))
  clear hr hk hp hca
  generalize hh : (⟨a, o, i, true, true, false⟩ : Hl) = h at *
  have HH : Hid (∀ W lo A n cs v l, PqS w W lo h A n cs v l → W.cell? ⟨w.heap.size, 0, none⟩ = some (.int .u32 a) ∧ W.cell? ⟨w.heap.size, 1, none⟩ = some (.int .i64 o) ∧ W.cell? ⟨w.heap.size, 2, none⟩ = some (.int .u32 i) ∧ W.cell? ⟨w.heap.size, 3, none⟩ = some (.bool true) ∧ W.cell? ⟨w.heap.size, 4, none⟩ = some (.bool true) ∧ W.cell? ⟨w.heap.size, 5, none⟩ = some (.bool false)) := Lib.hid (by
    intro W lo A n cs v l k
    have := k.c
    rw [← hh] at this
    exact this)
  have HA : Hid (h.as_ = a ∧ h.hold = o ∧ h.id_ = i) := Lib.hid (by rw [← hh]; exact ⟨rfl, rfl, rfl⟩)
  clear hh
  go_enter Tryd.func11, Tryd.ntmps11
  go_wp2_with (refine h_fetch rfl _ rfl w.heap.size h 24 rfl HX0.out ?_)
  refine (HR.out _).mono ?_
  rintro e W1 ⟨rfl, hB⟩
  have hs1 : w.heap.size + 1 ≤ W1.heap.size := by have := hB.size; simp at this; omega
  have HS1 : Hid (PqS w W1 (w.heap.size + 1) h none 0 [] (.slice none 0 0) []) := Lib.hid ⟨HB0.out.trans (hB.mono HB0.out.size), HX0.out.below hB HX0.out.lt, Rd.nil_ _, OwnB.nil_ _ _, hs1, Nat.le_refl _⟩
  clear hB HB0 HX0 HR hs1
  obtain ⟨d0, d1, d2, d3, d4, d5⟩ := HH.out _ _ _ _ _ _ _ HS1.out
  have hl1 := byt_new W1 [1, 4] (oct2 (by omega) (by omega))
  go_wp2_with (at_builtin; refine app_bs rfl _ _ rfl (HS1.out.below (below_one8 W1 (.cells (u8s [1, 4]).toArray 5))).own (HS1.out.below (below_one8 W1 (.cells (u8s [1, 4]).toArray 5))).ll hl1 (by simp) rfl rfl ?_)
  intro v W2 ho2 hb2 _ _
  have hs2 := (HS1.out.below (below_one8 W1 (.cells (u8s [1, 4]).toArray 5))).app ho2 hb2
  obtain ⟨A2, c2, rfl, _, _, _⟩ := ho2.at_
  have HS2 : Hid (PqS w W2 (w.heap.size + 1) h none 0 [] (.slice A2 2 c2) [1, 4]) := Lib.hid hs2
  clear hl1 ho2 hb2 hs2 HS1 d0 d1 d2 d3 d4 d5
  simp only [List.nil_append, List.length_cons, List.length_nil, Nat.zero_add, Nat.reduceAdd]
  go_wp2_with fail
  refine (rfamily_is W2).mono ?_
  rintro e W3 ⟨rfl, hby, hB⟩
  have HS3 := Lib.hid (HS2.out.below hB)
  have HF3 := Lib.hid (hby.rd_all (B := W3.heap.size) fam_oct hby.lt)
  clear hB hby HS2
  go_wp2_with (at_builtin; refine app_bs rfl _ _ rfl HS3.out.own HS3.out.ll HF3.out (by simp) rfl rfl ?_)
  intro v W4 ho2 hb2 _ _
  have hs2 := HS3.out.app ho2 hb2
  obtain ⟨A4, c4, rfl, _, _, _⟩ := ho2.at_
  have HS4 : Hid (PqS w W4 (w.heap.size + 1) h none 0 [] (.slice A4 6 c4) [1, 4, 0, 25, 0, 70]) := Lib.hid hs2
  clear ho2 hb2 hs2 HS3 HF3
  obtain ⟨d0, d1, d2, d3, d4, d5⟩ := HH.out _ _ _ _ _ _ _ HS4.out
  simp only [List.cons_append, List.nil_append, List.length_cons, List.length_nil, Nat.zero_add, Nat.reduceAdd]
  go_wp2_with fail
  refine wp_region_held_drew (S := fun W => PqS w W (w.heap.size + 1) h none 0 [] (.slice none 0 0) []) (by kernel_rfl) (⟨(HS4.out.below (below_drew8 W4)).low, (HS4.out.below (below_drew8 W4)).box, Rd.nil_ _, OwnB.nil_ _ _, (HS4.out.below (below_drew8 W4)).ll, Nat.le_refl _⟩) (fun hS => ?_)
  have h6 := HS4.out.below (below_drew8 W4)
  generalize W4.drew = W6 at *
  clear HS4 d0 d1 d2 d3 d4 d5
  refine wpAnyH_take (i := 0) (oi := ⟨some 24, _, _, _, _, _⟩) (v := ?_) rfl (by kernel_rfl) (by kernel_rfl) (by kernel_rfl) (fun _ _ _ h => h) (Or.inl ⟨by rfl, ?_⟩) hS ?_
  rotate_left
  · intro wq hq
    first | (go_simp; done) | (go_simp; rfl)
  try simp only [Act.put, List.setIfInBounds_toArray, List.set_cons_zero, List.set_cons_succ]
  refine wpAnyH_take (i := 3) (oi := ⟨some 27, _, _, _, _, _⟩) (v := ?_) rfl (by kernel_rfl) (by kernel_rfl) (by kernel_rfl) (fun _ _ _ h => h) (Or.inl ⟨by rfl, ?_⟩) hS ?_
  rotate_left
  · intro wq hq
    first | (go_simp; done) | (go_simp; rfl)
  try simp only [Act.put, List.setIfInBounds_toArray, List.set_cons_zero, List.set_cons_succ]
  refine wpAnyH_take (i := 4) (oi := ⟨some 28, _, _, _, _, _⟩) (v := ?_) rfl (by kernel_rfl) (by kernel_rfl) (by kernel_rfl) (fun _ _ _ h => h) (Or.inl ⟨by rfl, ?_⟩) hS ?_
  rotate_left
  · intro wq hq
    have c0 := (HH.out _ _ _ _ _ _ _ hq).1
    first | (go_simp; done) | (go_simp; rfl)
  try simp only [Act.put, List.setIfInBounds_toArray, List.set_cons_zero, List.set_cons_succ]
  refine wpAnyH_ready (rs := [1]) (by kernel_rfl) (by simp) ?_
  refine AllReadyH.cons (o := ⟨some 25, _, _, _, _, _⟩) rfl (fun K hK => ?_) AllReadyH.nil
  rw [if_pos (by rfl)]
  go_wp2
  have hl1 := byt_new W6 [65, 4] (oct2 (by omega) (by omega))
  have h7 := h6.below (below_one8 W6 (.cells (u8s [65, 4]).toArray 5))
  clear h6 hS
  refine hK.out _ _ ⟨h7.low, h7.box, Rd.nil_ _, OwnB.nil_ _ _, h7.ll, Nat.le_refl _⟩ (fun hS => ?_)
  clear hK K
  try simp only [Act.put, List.setIfInBounds_toArray, List.set_cons_zero, List.set_cons_succ]
  refine wpAnyH_ready (rs := [2]) (by kernel_rfl) (by simp) ?_
  refine AllReadyH.cons (o := ⟨some 26, _, _, _, _, _⟩) rfl (fun K hK => ?_) AllReadyH.nil
  rw [if_pos (by rfl)]
  refine app_wp8 _ _ rfl h7.own h7.ll hl1 (by simp) rfl rfl ?_
  intro v W8 ho2 hb2
  have h8 := h7.app ho2 hb2
  obtain ⟨A8, c8, rfl, _, _, _⟩ := ho2.at_
  clear hl1 h7 ho2 hb2 hS
  have h8 : PqS w W8 (w.heap.size + 1) h none 0 [] (.slice A8 8 c8) [1, 4, 0, 25, 0, 70, 65, 4] := h8
  refine hK.out _ _ ⟨h8.low, h8.box, Rd.nil_ _, OwnB.nil_ _ _, h8.ll, Nat.le_refl _⟩ (fun hS => ?_)
  clear hK K
  try simp only [Act.put, List.setIfInBounds_toArray, List.set_cons_zero, List.set_cons_succ, List.cons_append, List.nil_append, List.length_cons, List.length_nil, Nat.zero_add, Nat.reduceAdd]
  refine wpAnyH_ready (rs := [5]) (by kernel_rfl) (by simp) ?_
  refine AllReadyH.cons (o := ⟨some 29, _, _, _, _, _⟩) rfl (fun K hK => ?_) AllReadyH.nil
  rw [if_pos (by rfl)]
  go_wp2_with fail
  refine (four_is W8 a ha).mono ?_
  rintro e W9 ⟨rfl, hby, hB⟩
  have h9 := h8.below hB
  have hF9 := hby.rd_all (B := W9.heap.size) (be_oct 4 a) hby.lt
  rw [be_len] at hF9
  clear hB hby h8 hS
  refine hK.out _ _ ⟨h9.low, h9.box, Rd.nil_ _, OwnB.nil_ _ _, h9.ll, Nat.le_refl _⟩ (fun hS => ?_)
  clear hK K
  try simp only [Act.put, List.setIfInBounds_toArray, List.set_cons_zero, List.set_cons_succ]
  refine wpAnyH_ready (rs := [6]) (by kernel_rfl) (by simp) ?_
  refine AllReadyH.cons (o := ⟨some 30, _, _, _, _, _⟩) rfl (fun K hK => ?_) AllReadyH.nil
  rw [if_pos (by rfl)]
  refine app_wp8 _ _ rfl h9.own h9.ll hF9 (by simp) rfl rfl ?_
  intro v WA ho2 hb2
  have hA := h9.app ho2 hb2
  have hlA : (1 :: 4 :: 0 :: 25 :: 0 :: 70 :: 65 :: 4 :: be 4 a).length = 12 := by simp [be_len]
  obtain ⟨AA, cA, rfl, _, _, _⟩ := ho2.at_
  have hA : PqS w WA (w.heap.size + 1) h none 0 [] (.slice AA 12 cA) (1 :: 4 :: 0 :: 25 :: 0 :: 70 :: 65 :: 4 :: be 4 a) := by simpa [be_len] using hA
  clear h9 ho2 hb2 hF9 hS
  refine hK.out _ _ ⟨hA.low, hA.box, Rd.nil_ _, OwnB.nil_ _ _, hA.ll, Nat.le_refl _⟩ (fun hS => ?_)
  clear hK K
  have HSA := Lib.hid hA
  clear hA hlA
  try simp only [Act.put, List.setIfInBounds_toArray, List.set_cons_zero, List.set_cons_succ, List.cons_append, List.nil_append, List.length_cons, List.length_nil, be_len, Nat.zero_add, Nat.reduceAdd]
  refine wpAnyH_take (i := 7) (oi := ⟨some 4, _, _, _, _, _⟩) (v := ?_) rfl (by kernel_rfl) (by kernel_rfl) (by kernel_rfl) (fun _ _ _ h => h) (Or.inl ⟨by rfl, ?_⟩) hS ?_
  rotate_left
  · intro wq hq
    first | (go_simp; done) | (go_simp; rfl)
  try simp only [Act.put, List.setIfInBounds_toArray, List.set_cons_zero, List.set_cons_succ]
  refine wpAnyH_done (by kernel_rfl) ?_ _
  clear hS
  obtain ⟨d0, d1, d2, d3, d4, d5⟩ := HH.out _ _ _ _ _ _ _ HSA.out
  have HCap : Hid (Rd WA WA.heap.size AA 12 (1 :: 4 :: 0 :: 25 :: 0 :: 70 :: 65 :: 4 :: be 4 a)) := Lib.hid HSA.out.own.rd_of
  by_cases hgt : 65535 < a
  · skip
    have HSh : Hid (shA h.as_ = 23456) := Lib.hid (by rw [HA.out.1]; unfold shA; rw [if_pos hgt])
    have HP2 : Hid (putB h = [4, 23456 / 256 % 256, 23456 % 256, o / 256 % 256, o % 256] ++ be 4 i ++ (14 :: 2 :: 12 :: (1 :: 4 :: 0 :: 25 :: 0 :: 70 :: 65 :: 4 :: be 4 a))) := Lib.hid (by rw [HPt.out, HSh.out, HA.out.2.1, HA.out.2.2]; simp [be_len])
    have ht1 : IntKind.i64.wrap (o.tdiv 256) = o / 256 := by rw [Int.tdiv_eq_ediv_of_nonneg ho.1, IntKind.wrap_i64]; omega
    have ht2 : o.tdiv 256 = o / 256 := Int.tdiv_eq_ediv_of_nonneg ho.1
    have ht3 : o.tmod 256 = o % 256 := Int.tmod_eq_emod_of_nonneg ho.1
    have ho5 : Oct [4, 91, 160, o / 256, o % 256] := oct5 (by omega) (by omega) (by omega) (by omega) (by omega)
    have hl5 := below_one8 WA (.cells (u8s [4, 91, 160, o / 256, o % 256]).toArray 5)
    have hq5 := HSA.out.below hl5
    have HQ5 : Hid (PqS w (WA.alloc (.cells #[.int .u8 4, .int .u8 91, .int .u8 160, .int .u8 (o / 256), .int .u8 (o % 256)] 5)) WA.heap.size h AA 12 (1 :: 4 :: 0 :: 25 :: 0 :: 70 :: 65 :: 4 :: be 4 a) (.slice (some ⟨WA.heap.size, 0, none⟩) 5 5) [4, 91, 160, o / 256, o % 256]) := Lib.hid ⟨hq5.low, hq5.box, HCap.out.below hl5, own_new WA [4, 91, 160, o / 256, o % 256] ho5 (by simp), hl5.size, by have := HSA.out.ll; omega⟩
    have g2 : (WA.alloc (.cells #[.int .u8 4, .int .u8 91, .int .u8 160, .int .u8 (o / 256), .int .u8 (o % 256)] 5)).cell? ⟨w.heap.size, 2, none⟩ = some (.int .u32 i) := (HH.out _ _ _ _ _ _ _ HQ5.out).2.2.1
    clear ho5 hl5 hq5
    go_wp2_with fail
    refine (four_is _ i hi).mono ?_
    generalize (WA.alloc (.cells #[.int .u8 4, .int .u8 91, .int .u8 160, .int .u8 (o / 256), .int .u8 (o % 256)] 5)) = X1 at *
    rintro e X2 ⟨rfl, hby, hB⟩
    have HQ6 := Lib.hid (HQ5.out.below hB)
    have HF6 := Lib.hid (hby.rd_all (B := X2.heap.size) (be_oct 4 i) hby.lt)
    rw [be_len] at HF6
    clear hB hby HQ5 g2 d0 d1 d2 d3 d4 d5
    go_wp2_with (at_builtin; refine app_bs rfl _ _ rfl HQ6.out.own HQ6.out.ll HF6.out (by simp) rfl rfl ?_)
    intro v X3 ho3 hb3 _ _
    have hs3 := HQ6.out.app ho3 hb3
    obtain ⟨B3, k3, rfl, _, _, _⟩ := ho3.at_
    have HQ7 : Hid (PqS w X3 WA.heap.size h AA 12 (1 :: 4 :: 0 :: 25 :: 0 :: 70 :: 65 :: 4 :: be 4 a) (.slice B3 9 k3) ([4, 91, 160, o / 256, o % 256] ++ be 4 i)) := Lib.hid (by simpa [be_len] using hs3)
    clear ho3 hb3 hs3 HQ6 HF6
    simp only [List.cons_append, List.nil_append, List.length_cons, List.length_nil, List.length_append, be_len, Nat.zero_add, Nat.reduceAdd]
    have hl1 := byt_new X3 [14, 2, 12] (oct3 (by omega) (by omega) (by omega))
    go_wp2_with (at_builtin; refine app_bs rfl _ _ rfl (HQ7.out.below (below_one8 X3 (.cells (u8s [14, 2, 12]).toArray 5))).own (HQ7.out.below (below_one8 X3 (.cells (u8s [14, 2, 12]).toArray 5))).ll hl1 (by simp [be_len]) rfl rfl ?_)
    intro v X5 ho3 hb3 _ _
    have hs3 := (HQ7.out.below (below_one8 X3 (.cells (u8s [14, 2, 12]).toArray 5))).app ho3 hb3
    obtain ⟨B5, k5, rfl, _, _, _⟩ := ho3.at_
    have HQ8 : Hid (PqS w X5 WA.heap.size h AA 12 (1 :: 4 :: 0 :: 25 :: 0 :: 70 :: 65 :: 4 :: be 4 a) (.slice B5 12 k5) ([4, 91, 160, o / 256, o % 256] ++ be 4 i ++ [14, 2, 12])) := Lib.hid (by simpa [be_len] using hs3)
    have HC8 := Lib.hid (HQ8.out.caps.more HQ8.out.ll)
    clear hl1 ho3 hb3 hs3 HQ7
    simp only [List.cons_append, List.nil_append, List.length_cons, List.length_nil, List.length_append, be_len, Nat.zero_add, Nat.reduceAdd]
    go_wp2_with (at_builtin; refine app_bs rfl _ _ rfl HQ8.out.own HQ8.out.ll HC8.out (by simp [be_len]) rfl rfl ?_)
    intro v X4 ho3 hb3 _ _
    have hs3 := HQ8.out.app ho3 hb3
    obtain ⟨B4, k4, rfl, _, _, _⟩ := ho3.at_
    have HQ9 : Hid (PqS w X4 WA.heap.size h AA 12 (1 :: 4 :: 0 :: 25 :: 0 :: 70 :: 65 :: 4 :: be 4 a) (.slice B4 24 k4) ([4, 91, 160, o / 256, o % 256] ++ be 4 i ++ [14, 2, 12] ++ (1 :: 4 :: 0 :: 25 :: 0 :: 70 :: 65 :: 4 :: be 4 a))) := Lib.hid (by simpa [be_len] using hs3)
    have HR4 : Hid (Rd X4 X4.heap.size B4 24 (bodyH h)) := Lib.hid (by rw [HBd.out.1, HP2.out, show [4, 23456 / 256 % 256, 23456 % 256, o / 256 % 256, o % 256] ++ be 4 i ++ (14 :: 2 :: 12 :: (1 :: 4 :: 0 :: 25 :: 0 :: 70 :: 65 :: 4 :: be 4 a)) = ([4, 91, 160, o / 256, o % 256] ++ be 4 i ++ [14, 2, 12] ++ (1 :: 4 :: 0 :: 25 :: 0 :: 70 :: 65 :: 4 :: be 4 a)) from by rw [show o / 256 % 256 = o / 256 by omega]; try simp]; exact HQ9.out.own.rd_of)
    have HL4 : Hid ((bodyH h).length = 24 ∧ 24 ≤ k4) := Lib.hid ⟨HR4.out.len, HQ9.out.own.cap_le⟩
    have HLow := Lib.hid HQ9.out.low
    clear hs3 ho3 hb3 HCap HQ9
    simp only [List.cons_append, List.nil_append, List.length_cons, List.length_nil, List.length_append, be_len, Nat.zero_add, Nat.reduceAdd]
    go_wp2
    go_ret2
    exact ⟨B4, 24, k4, by rw [HBd.out.2]; rfl, HL4.out.1.symm, HL4.out.2, HR4.out, HLow.out⟩
  · skip
    have HSh : Hid (shA h.as_ = a) := Lib.hid (by rw [HA.out.1]; unfold shA; rw [if_neg hgt])
    have HP2 : Hid (putB h = [4, a / 256 % 256, a % 256, o / 256 % 256, o % 256] ++ be 4 i ++ (14 :: 2 :: 12 :: (1 :: 4 :: 0 :: 25 :: 0 :: 70 :: 65 :: 4 :: be 4 a))) := Lib.hid (by rw [HPt.out, HSh.out, HA.out.2.1, HA.out.2.2]; simp [be_len])
    have hgt2 : ¬ (65535 : Int) < a := hgt
    have ht1 : IntKind.i64.wrap (o.tdiv 256) = o / 256 := by rw [Int.tdiv_eq_ediv_of_nonneg ho.1, IntKind.wrap_i64]; omega
    have ht2 : o.tdiv 256 = o / 256 := Int.tdiv_eq_ediv_of_nonneg ho.1
    have ht3 : o.tmod 256 = o % 256 := Int.tmod_eq_emod_of_nonneg ho.1
    have ho5 : Oct [4, a / 256, a % 256, o / 256, o % 256] := oct5 (by omega) (by omega) (by omega) (by omega) (by omega)
    have hl5 := below_one8 WA (.cells (u8s [4, a / 256, a % 256, o / 256, o % 256]).toArray 5)
    have hq5 := HSA.out.below hl5
    have HQ5 : Hid (PqS w (WA.alloc (.cells #[.int .u8 4, .int .u8 (a / 256), .int .u8 (a % 256), .int .u8 (o / 256), .int .u8 (o % 256)] 5)) WA.heap.size h AA 12 (1 :: 4 :: 0 :: 25 :: 0 :: 70 :: 65 :: 4 :: be 4 a) (.slice (some ⟨WA.heap.size, 0, none⟩) 5 5) [4, a / 256, a % 256, o / 256, o % 256]) := Lib.hid ⟨hq5.low, hq5.box, HCap.out.below hl5, own_new WA [4, a / 256, a % 256, o / 256, o % 256] ho5 (by simp), hl5.size, by have := HSA.out.ll; omega⟩
    have g2 : (WA.alloc (.cells #[.int .u8 4, .int .u8 (a / 256), .int .u8 (a % 256), .int .u8 (o / 256), .int .u8 (o % 256)] 5)).cell? ⟨w.heap.size, 2, none⟩ = some (.int .u32 i) := (HH.out _ _ _ _ _ _ _ HQ5.out).2.2.1
    clear ho5 hl5 hq5
    go_wp2_with fail
    refine (four_is _ i hi).mono ?_
    generalize (WA.alloc (.cells #[.int .u8 4, .int .u8 (a / 256), .int .u8 (a % 256), .int .u8 (o / 256), .int .u8 (o % 256)] 5)) = X1 at *
    rintro e X2 ⟨rfl, hby, hB⟩
    have HQ6 := Lib.hid (HQ5.out.below hB)
    have HF6 := Lib.hid (hby.rd_all (B := X2.heap.size) (be_oct 4 i) hby.lt)
    rw [be_len] at HF6
    clear hB hby HQ5 g2 d0 d1 d2 d3 d4 d5
    go_wp2_with (at_builtin; refine app_bs rfl _ _ rfl HQ6.out.own HQ6.out.ll HF6.out (by simp) rfl rfl ?_)
    intro v X3 ho3 hb3 _ _
    have hs3 := HQ6.out.app ho3 hb3
    obtain ⟨B3, k3, rfl, _, _, _⟩ := ho3.at_
    have HQ7 : Hid (PqS w X3 WA.heap.size h AA 12 (1 :: 4 :: 0 :: 25 :: 0 :: 70 :: 65 :: 4 :: be 4 a) (.slice B3 9 k3) ([4, a / 256, a % 256, o / 256, o % 256] ++ be 4 i)) := Lib.hid (by simpa [be_len] using hs3)
    clear ho3 hb3 hs3 HQ6 HF6
    simp only [List.cons_append, List.nil_append, List.length_cons, List.length_nil, List.length_append, be_len, Nat.zero_add, Nat.reduceAdd]
    have hl1 := byt_new X3 [14, 2, 12] (oct3 (by omega) (by omega) (by omega))
    go_wp2_with (at_builtin; refine app_bs rfl _ _ rfl (HQ7.out.below (below_one8 X3 (.cells (u8s [14, 2, 12]).toArray 5))).own (HQ7.out.below (below_one8 X3 (.cells (u8s [14, 2, 12]).toArray 5))).ll hl1 (by simp [be_len]) rfl rfl ?_)
    intro v X5 ho3 hb3 _ _
    have hs3 := (HQ7.out.below (below_one8 X3 (.cells (u8s [14, 2, 12]).toArray 5))).app ho3 hb3
    obtain ⟨B5, k5, rfl, _, _, _⟩ := ho3.at_
    have HQ8 : Hid (PqS w X5 WA.heap.size h AA 12 (1 :: 4 :: 0 :: 25 :: 0 :: 70 :: 65 :: 4 :: be 4 a) (.slice B5 12 k5) ([4, a / 256, a % 256, o / 256, o % 256] ++ be 4 i ++ [14, 2, 12])) := Lib.hid (by simpa [be_len] using hs3)
    have HC8 := Lib.hid (HQ8.out.caps.more HQ8.out.ll)
    clear hl1 ho3 hb3 hs3 HQ7
    simp only [List.cons_append, List.nil_append, List.length_cons, List.length_nil, List.length_append, be_len, Nat.zero_add, Nat.reduceAdd]
    go_wp2_with (at_builtin; refine app_bs rfl _ _ rfl HQ8.out.own HQ8.out.ll HC8.out (by simp [be_len]) rfl rfl ?_)
    intro v X4 ho3 hb3 _ _
    have hs3 := HQ8.out.app ho3 hb3
    obtain ⟨B4, k4, rfl, _, _, _⟩ := ho3.at_
    have HQ9 : Hid (PqS w X4 WA.heap.size h AA 12 (1 :: 4 :: 0 :: 25 :: 0 :: 70 :: 65 :: 4 :: be 4 a) (.slice B4 24 k4) ([4, a / 256, a % 256, o / 256, o % 256] ++ be 4 i ++ [14, 2, 12] ++ (1 :: 4 :: 0 :: 25 :: 0 :: 70 :: 65 :: 4 :: be 4 a))) := Lib.hid (by simpa [be_len] using hs3)
    have HR4 : Hid (Rd X4 X4.heap.size B4 24 (bodyH h)) := Lib.hid (by rw [HBd.out.1, HP2.out, show [4, a / 256 % 256, a % 256, o / 256 % 256, o % 256] ++ be 4 i ++ (14 :: 2 :: 12 :: (1 :: 4 :: 0 :: 25 :: 0 :: 70 :: 65 :: 4 :: be 4 a)) = ([4, a / 256, a % 256, o / 256, o % 256] ++ be 4 i ++ [14, 2, 12] ++ (1 :: 4 :: 0 :: 25 :: 0 :: 70 :: 65 :: 4 :: be 4 a)) from by rw [show a / 256 % 256 = a / 256 by omega, show o / 256 % 256 = o / 256 by omega]; try simp]; exact HQ9.out.own.rd_of)
    have HL4 : Hid ((bodyH h).length = 24 ∧ 24 ≤ k4) := Lib.hid ⟨HR4.out.len, HQ9.out.own.cap_le⟩
    have HLow := Lib.hid HQ9.out.low
    clear hs3 ho3 hb3 HCap HQ9
    simp only [List.cons_append, List.nil_append, List.length_cons, List.length_nil, List.length_append, be_len, Nat.zero_add, Nat.reduceAdd]
    go_wp2
    go_ret2
    exact ⟨B4, 24, k4, by rw [HBd.out.2]; rfl, HL4.out.1.symm, HL4.out.2, HR4.out, HLow.out⟩

set_option maxHeartbeats 4000000 in
theorem rput_110 (w : World) (a o i : Int) (hk : HlOk ⟨a, o, i, true, false, true⟩) (hr : rightH ⟨a, o, i, true, false, true⟩ = true) : Calls Tryd.prog 11 #[.agg (hlc ⟨a, o, i, true, false, true⟩).toArray] w (PutH w ⟨a, o, i, true, false, true⟩) := by
  have ha : 0 ≤ a ∧ a < 4294967296 := hk.as_
  have hi : 0 ≤ i ∧ i < 4294967296 := hk.id_
  have hp := right_parts hr
  have ho : 0 ≤ o ∧ o ≤ 65535 := hp.2.2
  have HR : Hid (∀ W, Calls Tryd.prog _ _ W _) := Lib.hid (fun W => rright_is W ⟨a, o, i, true, false, true⟩)
  have HBd : Hid (bodyH ⟨a, o, i, true, false, true⟩ = putB ⟨a, o, i, true, false, true⟩ ∧ errH ⟨a, o, i, true, false, true⟩ = 0) := Lib.hid (by unfold bodyH errH; rw [if_pos hr, if_pos hr]; exact ⟨rfl, rfl⟩)
  have HPt := Lib.hid (putB_parts ⟨a, o, i, true, false, true⟩ hr)
  have hca : capsB ⟨a, o, i, true, false, true⟩ = [1, 4, 0, 25, 0, 70, 2, 0] := by simp [capsB]
  rw [hca] at HPt
  rw [hr] at HR
  have HX0 := Lib.hid (Blk.new w 24 (hlc ⟨a, o, i, true, false, true⟩).toArray)
  have HB0 := Lib.hid (below_one8 w (.cells (hlc ⟨a, o, i, true, false, true⟩).toArray 24))
  clear hr hk hp hca
  generalize hh : (⟨a, o, i, true, false, true⟩ : Hl) = h at *
  have HH : Hid (∀ W lo A n cs v l, PqS w W lo h A n cs v l → W.cell? ⟨w.heap.size, 0, none⟩ = some (.int .u32 a) ∧ W.cell? ⟨w.heap.size, 1, none⟩ = some (.int .i64 o) ∧ W.cell? ⟨w.heap.size, 2, none⟩ = some (.int .u32 i) ∧ W.cell? ⟨w.heap.size, 3, none⟩ = some (.bool true) ∧ W.cell? ⟨w.heap.size, 4, none⟩ = some (.bool false) ∧ W.cell? ⟨w.heap.size, 5, none⟩ = some (.bool true)) := Lib.hid (by
    intro W lo A n cs v l k
    have := k.c
    rw [← hh] at this
    exact this)
  have HA : Hid (h.as_ = a ∧ h.hold = o ∧ h.id_ = i) := Lib.hid (by rw [← hh]; exact ⟨rfl, rfl, rfl⟩)
  clear hh
  go_enter Tryd.func11, Tryd.ntmps11
  go_wp2_with (refine h_fetch rfl _ rfl w.heap.size h 24 rfl HX0.out ?_)
  refine (HR.out _).mono ?_
  rintro e W1 ⟨rfl, hB⟩
  have hs1 : w.heap.size + 1 ≤ W1.heap.size := by have := hB.size; simp at this; omega
  have HS1 : Hid (PqS w W1 (w.heap.size + 1) h none 0 [] (.slice none 0 0) []) := Lib.hid ⟨HB0.out.trans (hB.mono HB0.out.size), HX0.out.below hB HX0.out.lt, Rd.nil_ _, OwnB.nil_ _ _, hs1, Nat.le_refl _⟩
  clear hB HB0 HX0 HR hs1
  obtain ⟨d0, d1, d2, d3, d4, d5⟩ := HH.out _ _ _ _ _ _ _ HS1.out
  have hl1 := byt_new W1 [1, 4] (oct2 (by omega) (by omega))
  go_wp2_with (at_builtin; refine app_bs rfl _ _ rfl (HS1.out.below (below_one8 W1 (.cells (u8s [1, 4]).toArray 5))).own (HS1.out.below (below_one8 W1 (.cells (u8s [1, 4]).toArray 5))).ll hl1 (by simp) rfl rfl ?_)
  intro v W2 ho2 hb2 _ _
  have hs2 := (HS1.out.below (below_one8 W1 (.cells (u8s [1, 4]).toArray 5))).app ho2 hb2
  obtain ⟨A2, c2, rfl, _, _, _⟩ := ho2.at_
  have HS2 : Hid (PqS w W2 (w.heap.size + 1) h none 0 [] (.slice A2 2 c2) [1, 4]) := Lib.hid hs2
  clear hl1 ho2 hb2 hs2 HS1 d0 d1 d2 d3 d4 d5
  simp only [List.nil_append, List.length_cons, List.length_nil, Nat.zero_add, Nat.reduceAdd]
  go_wp2_with fail
  refine (rfamily_is W2).mono ?_
  rintro e W3 ⟨rfl, hby, hB⟩
  have HS3 := Lib.hid (HS2.out.below hB)
  have HF3 := Lib.hid (hby.rd_all (B := W3.heap.size) fam_oct hby.lt)
  clear hB hby HS2
  go_wp2_with (at_builtin; refine app_bs rfl _ _ rfl HS3.out.own HS3.out.ll HF3.out (by simp) rfl rfl ?_)
  intro v W4 ho2 hb2 _ _
  have hs2 := HS3.out.app ho2 hb2
  obtain ⟨A4, c4, rfl, _, _, _⟩ := ho2.at_
  have HS4 : Hid (PqS w W4 (w.heap.size + 1) h none 0 [] (.slice A4 6 c4) [1, 4, 0, 25, 0, 70]) := Lib.hid hs2
  clear ho2 hb2 hs2 HS3 HF3
  obtain ⟨d0, d1, d2, d3, d4, d5⟩ := HH.out _ _ _ _ _ _ _ HS4.out
  simp only [List.cons_append, List.nil_append, List.length_cons, List.length_nil, Nat.zero_add, Nat.reduceAdd]
  have hl1 := byt_new W4 [2, 0] (oct2 (by omega) (by omega))
  go_wp2_with (at_builtin; refine app_bs rfl _ _ rfl (HS4.out.below (below_one8 W4 (.cells (u8s [2, 0]).toArray 5))).own (HS4.out.below (below_one8 W4 (.cells (u8s [2, 0]).toArray 5))).ll hl1 (by simp) rfl rfl ?_)
  intro v W5 ho2 hb2 _ _
  have hs2 := (HS4.out.below (below_one8 W4 (.cells (u8s [2, 0]).toArray 5))).app ho2 hb2
  obtain ⟨A5, c5, rfl, _, _, _⟩ := ho2.at_
  have HS5 : Hid (PqS w W5 (w.heap.size + 1) h none 0 [] (.slice A5 8 c5) [1, 4, 0, 25, 0, 70, 2, 0]) := Lib.hid hs2
  clear hl1 ho2 hb2 hs2 HS4 d0 d1 d2 d3 d4 d5
  obtain ⟨d0, d1, d2, d3, d4, d5⟩ := HH.out _ _ _ _ _ _ _ HS5.out
  simp only [List.cons_append, List.nil_append, List.length_cons, List.length_nil, Nat.zero_add, Nat.reduceAdd]
  have HCap : Hid (Rd W5 W5.heap.size A5 8 [1, 4, 0, 25, 0, 70, 2, 0]) := Lib.hid HS5.out.own.rd_of
  by_cases hgt : 65535 < a
  · skip
    have HSh : Hid (shA h.as_ = 23456) := Lib.hid (by rw [HA.out.1]; unfold shA; rw [if_pos hgt])
    have HP2 : Hid (putB h = [4, 23456 / 256 % 256, 23456 % 256, o / 256 % 256, o % 256] ++ be 4 i ++ (10 :: 2 :: 8 :: [1, 4, 0, 25, 0, 70, 2, 0])) := Lib.hid (by rw [HPt.out, HSh.out, HA.out.2.1, HA.out.2.2]; simp [be_len])
    have ht1 : IntKind.i64.wrap (o.tdiv 256) = o / 256 := by rw [Int.tdiv_eq_ediv_of_nonneg ho.1, IntKind.wrap_i64]; omega
    have ht2 : o.tdiv 256 = o / 256 := Int.tdiv_eq_ediv_of_nonneg ho.1
    have ht3 : o.tmod 256 = o % 256 := Int.tmod_eq_emod_of_nonneg ho.1
    have ho5 : Oct [4, 91, 160, o / 256, o % 256] := oct5 (by omega) (by omega) (by omega) (by omega) (by omega)
    have hl5 := below_one8 W5 (.cells (u8s [4, 91, 160, o / 256, o % 256]).toArray 5)
    have hq5 := HS5.out.below hl5
    have HQ5 : Hid (PqS w (W5.alloc (.cells #[.int .u8 4, .int .u8 91, .int .u8 160, .int .u8 (o / 256), .int .u8 (o % 256)] 5)) W5.heap.size h A5 8 [1, 4, 0, 25, 0, 70, 2, 0] (.slice (some ⟨W5.heap.size, 0, none⟩) 5 5) [4, 91, 160, o / 256, o % 256]) := Lib.hid ⟨hq5.low, hq5.box, HCap.out.below hl5, own_new W5 [4, 91, 160, o / 256, o % 256] ho5 (by simp), hl5.size, by have := HS5.out.ll; omega⟩
    have g2 : (W5.alloc (.cells #[.int .u8 4, .int .u8 91, .int .u8 160, .int .u8 (o / 256), .int .u8 (o % 256)] 5)).cell? ⟨w.heap.size, 2, none⟩ = some (.int .u32 i) := (HH.out _ _ _ _ _ _ _ HQ5.out).2.2.1
    clear ho5 hl5 hq5
    go_wp2_with fail
    refine (four_is _ i hi).mono ?_
    generalize (W5.alloc (.cells #[.int .u8 4, .int .u8 91, .int .u8 160, .int .u8 (o / 256), .int .u8 (o % 256)] 5)) = X1 at *
    rintro e X2 ⟨rfl, hby, hB⟩
    have HQ6 := Lib.hid (HQ5.out.below hB)
    have HF6 := Lib.hid (hby.rd_all (B := X2.heap.size) (be_oct 4 i) hby.lt)
    rw [be_len] at HF6
    clear hB hby HQ5 g2 d0 d1 d2 d3 d4 d5
    go_wp2_with (at_builtin; refine app_bs rfl _ _ rfl HQ6.out.own HQ6.out.ll HF6.out (by simp) rfl rfl ?_)
    intro v X3 ho3 hb3 _ _
    have hs3 := HQ6.out.app ho3 hb3
    obtain ⟨B3, k3, rfl, _, _, _⟩ := ho3.at_
    have HQ7 : Hid (PqS w X3 W5.heap.size h A5 8 [1, 4, 0, 25, 0, 70, 2, 0] (.slice B3 9 k3) ([4, 91, 160, o / 256, o % 256] ++ be 4 i)) := Lib.hid (by simpa [be_len] using hs3)
    clear ho3 hb3 hs3 HQ6 HF6
    simp only [List.cons_append, List.nil_append, List.length_cons, List.length_nil, List.length_append, be_len, Nat.zero_add, Nat.reduceAdd]
    have hl1 := byt_new X3 [10, 2, 8] (oct3 (by omega) (by omega) (by omega))
    go_wp2_with (at_builtin; refine app_bs rfl _ _ rfl (HQ7.out.below (below_one8 X3 (.cells (u8s [10, 2, 8]).toArray 5))).own (HQ7.out.below (below_one8 X3 (.cells (u8s [10, 2, 8]).toArray 5))).ll hl1 (by simp [be_len]) rfl rfl ?_)
    intro v X5 ho3 hb3 _ _
    have hs3 := (HQ7.out.below (below_one8 X3 (.cells (u8s [10, 2, 8]).toArray 5))).app ho3 hb3
    obtain ⟨B5, k5, rfl, _, _, _⟩ := ho3.at_
    have HQ8 : Hid (PqS w X5 W5.heap.size h A5 8 [1, 4, 0, 25, 0, 70, 2, 0] (.slice B5 12 k5) ([4, 91, 160, o / 256, o % 256] ++ be 4 i ++ [10, 2, 8])) := Lib.hid (by simpa [be_len] using hs3)
    have HC8 := Lib.hid (HQ8.out.caps.more HQ8.out.ll)
    clear hl1 ho3 hb3 hs3 HQ7
    simp only [List.cons_append, List.nil_append, List.length_cons, List.length_nil, List.length_append, be_len, Nat.zero_add, Nat.reduceAdd]
    go_wp2_with (at_builtin; refine app_bs rfl _ _ rfl HQ8.out.own HQ8.out.ll HC8.out (by simp [be_len]) rfl rfl ?_)
    intro v X4 ho3 hb3 _ _
    have hs3 := HQ8.out.app ho3 hb3
    obtain ⟨B4, k4, rfl, _, _, _⟩ := ho3.at_
    have HQ9 : Hid (PqS w X4 W5.heap.size h A5 8 [1, 4, 0, 25, 0, 70, 2, 0] (.slice B4 20 k4) ([4, 91, 160, o / 256, o % 256] ++ be 4 i ++ [10, 2, 8] ++ [1, 4, 0, 25, 0, 70, 2, 0])) := Lib.hid (by simpa [be_len] using hs3)
    have HR4 : Hid (Rd X4 X4.heap.size B4 20 (bodyH h)) := Lib.hid (by rw [HBd.out.1, HP2.out, show [4, 23456 / 256 % 256, 23456 % 256, o / 256 % 256, o % 256] ++ be 4 i ++ (10 :: 2 :: 8 :: [1, 4, 0, 25, 0, 70, 2, 0]) = ([4, 91, 160, o / 256, o % 256] ++ be 4 i ++ [10, 2, 8] ++ [1, 4, 0, 25, 0, 70, 2, 0]) from by rw [show o / 256 % 256 = o / 256 by omega]; try simp]; exact HQ9.out.own.rd_of)
    have HL4 : Hid ((bodyH h).length = 20 ∧ 20 ≤ k4) := Lib.hid ⟨HR4.out.len, HQ9.out.own.cap_le⟩
    have HLow := Lib.hid HQ9.out.low
    clear hs3 ho3 hb3 HCap HQ9
    simp only [List.cons_append, List.nil_append, List.length_cons, List.length_nil, List.length_append, be_len, Nat.zero_add, Nat.reduceAdd]
    go_wp2
    go_ret2
    exact ⟨B4, 20, k4, by rw [HBd.out.2]; rfl, HL4.out.1.symm, HL4.out.2, HR4.out, HLow.out⟩
  · skip
    have HSh : Hid (shA h.as_ = a) := Lib.hid (by rw [HA.out.1]; unfold shA; rw [if_neg hgt])
    have HP2 : Hid (putB h = [4, a / 256 % 256, a % 256, o / 256 % 256, o % 256] ++ be 4 i ++ (10 :: 2 :: 8 :: [1, 4, 0, 25, 0, 70, 2, 0])) := Lib.hid (by rw [HPt.out, HSh.out, HA.out.2.1, HA.out.2.2]; simp [be_len])
    have hgt2 : ¬ (65535 : Int) < a := hgt
    have ht1 : IntKind.i64.wrap (o.tdiv 256) = o / 256 := by rw [Int.tdiv_eq_ediv_of_nonneg ho.1, IntKind.wrap_i64]; omega
    have ht2 : o.tdiv 256 = o / 256 := Int.tdiv_eq_ediv_of_nonneg ho.1
    have ht3 : o.tmod 256 = o % 256 := Int.tmod_eq_emod_of_nonneg ho.1
    have ho5 : Oct [4, a / 256, a % 256, o / 256, o % 256] := oct5 (by omega) (by omega) (by omega) (by omega) (by omega)
    have hl5 := below_one8 W5 (.cells (u8s [4, a / 256, a % 256, o / 256, o % 256]).toArray 5)
    have hq5 := HS5.out.below hl5
    have HQ5 : Hid (PqS w (W5.alloc (.cells #[.int .u8 4, .int .u8 (a / 256), .int .u8 (a % 256), .int .u8 (o / 256), .int .u8 (o % 256)] 5)) W5.heap.size h A5 8 [1, 4, 0, 25, 0, 70, 2, 0] (.slice (some ⟨W5.heap.size, 0, none⟩) 5 5) [4, a / 256, a % 256, o / 256, o % 256]) := Lib.hid ⟨hq5.low, hq5.box, HCap.out.below hl5, own_new W5 [4, a / 256, a % 256, o / 256, o % 256] ho5 (by simp), hl5.size, by have := HS5.out.ll; omega⟩
    have g2 : (W5.alloc (.cells #[.int .u8 4, .int .u8 (a / 256), .int .u8 (a % 256), .int .u8 (o / 256), .int .u8 (o % 256)] 5)).cell? ⟨w.heap.size, 2, none⟩ = some (.int .u32 i) := (HH.out _ _ _ _ _ _ _ HQ5.out).2.2.1
    clear ho5 hl5 hq5
    go_wp2_with fail
    refine (four_is _ i hi).mono ?_
    generalize (W5.alloc (.cells #[.int .u8 4, .int .u8 (a / 256), .int .u8 (a % 256), .int .u8 (o / 256), .int .u8 (o % 256)] 5)) = X1 at *
    rintro e X2 ⟨rfl, hby, hB⟩
    have HQ6 := Lib.hid (HQ5.out.below hB)
    have HF6 := Lib.hid (hby.rd_all (B := X2.heap.size) (be_oct 4 i) hby.lt)
    rw [be_len] at HF6
    clear hB hby HQ5 g2 d0 d1 d2 d3 d4 d5
    go_wp2_with (at_builtin; refine app_bs rfl _ _ rfl HQ6.out.own HQ6.out.ll HF6.out (by simp) rfl rfl ?_)
    intro v X3 ho3 hb3 _ _
    have hs3 := HQ6.out.app ho3 hb3
    obtain ⟨B3, k3, rfl, _, _, _⟩ := ho3.at_
    have HQ7 : Hid (PqS w X3 W5.heap.size h A5 8 [1, 4, 0, 25, 0, 70, 2, 0] (.slice B3 9 k3) ([4, a / 256, a % 256, o / 256, o % 256] ++ be 4 i)) := Lib.hid (by simpa [be_len] using hs3)
    clear ho3 hb3 hs3 HQ6 HF6
    simp only [List.cons_append, List.nil_append, List.length_cons, List.length_nil, List.length_append, be_len, Nat.zero_add, Nat.reduceAdd]
    have hl1 := byt_new X3 [10, 2, 8] (oct3 (by omega) (by omega) (by omega))
    go_wp2_with (at_builtin; refine app_bs rfl _ _ rfl (HQ7.out.below (below_one8 X3 (.cells (u8s [10, 2, 8]).toArray 5))).own (HQ7.out.below (below_one8 X3 (.cells (u8s [10, 2, 8]).toArray 5))).ll hl1 (by simp [be_len]) rfl rfl ?_)
    intro v X5 ho3 hb3 _ _
    have hs3 := (HQ7.out.below (below_one8 X3 (.cells (u8s [10, 2, 8]).toArray 5))).app ho3 hb3
    obtain ⟨B5, k5, rfl, _, _, _⟩ := ho3.at_
    have HQ8 : Hid (PqS w X5 W5.heap.size h A5 8 [1, 4, 0, 25, 0, 70, 2, 0] (.slice B5 12 k5) ([4, a / 256, a % 256, o / 256, o % 256] ++ be 4 i ++ [10, 2, 8])) := Lib.hid (by simpa [be_len] using hs3)
    have HC8 := Lib.hid (HQ8.out.caps.more HQ8.out.ll)
    clear hl1 ho3 hb3 hs3 HQ7
    simp only [List.cons_append, List.nil_append, List.length_cons, List.length_nil, List.length_append, be_len, Nat.zero_add, Nat.reduceAdd]
    go_wp2_with (at_builtin; refine app_bs rfl _ _ rfl HQ8.out.own HQ8.out.ll HC8.out (by simp [be_len]) rfl rfl ?_)
    intro v X4 ho3 hb3 _ _
    have hs3 := HQ8.out.app ho3 hb3
    obtain ⟨B4, k4, rfl, _, _, _⟩ := ho3.at_
    have HQ9 : Hid (PqS w X4 W5.heap.size h A5 8 [1, 4, 0, 25, 0, 70, 2, 0] (.slice B4 20 k4) ([4, a / 256, a % 256, o / 256, o % 256] ++ be 4 i ++ [10, 2, 8] ++ [1, 4, 0, 25, 0, 70, 2, 0])) := Lib.hid (by simpa [be_len] using hs3)
    have HR4 : Hid (Rd X4 X4.heap.size B4 20 (bodyH h)) := Lib.hid (by rw [HBd.out.1, HP2.out, show [4, a / 256 % 256, a % 256, o / 256 % 256, o % 256] ++ be 4 i ++ (10 :: 2 :: 8 :: [1, 4, 0, 25, 0, 70, 2, 0]) = ([4, a / 256, a % 256, o / 256, o % 256] ++ be 4 i ++ [10, 2, 8] ++ [1, 4, 0, 25, 0, 70, 2, 0]) from by rw [show a / 256 % 256 = a / 256 by omega, show o / 256 % 256 = o / 256 by omega]; try simp]; exact HQ9.out.own.rd_of)
    have HL4 : Hid ((bodyH h).length = 20 ∧ 20 ≤ k4) := Lib.hid ⟨HR4.out.len, HQ9.out.own.cap_le⟩
    have HLow := Lib.hid HQ9.out.low
    clear hs3 ho3 hb3 HCap HQ9
    simp only [List.cons_append, List.nil_append, List.length_cons, List.length_nil, List.length_append, be_len, Nat.zero_add, Nat.reduceAdd]
    go_wp2
    go_ret2
    exact ⟨B4, 20, k4, by rw [HBd.out.2]; rfl, HL4.out.1.symm, HL4.out.2, HR4.out, HLow.out⟩

set_option maxHeartbeats 4000000 in
theorem rput_111 (w : World) (a o i : Int) (hk : HlOk ⟨a, o, i, true, true, true⟩) (hr : rightH ⟨a, o, i, true, true, true⟩ = true) : Calls Tryd.prog 11 #[.agg (hlc ⟨a, o, i, true, true, true⟩).toArray] w (PutH w ⟨a, o, i, true, true, true⟩) := by
  have ha : 0 ≤ a ∧ a < 4294967296 := hk.as_
  have hi : 0 ≤ i ∧ i < 4294967296 := hk.id_
  have hp := right_parts hr
  have ho : 0 ≤ o ∧ o ≤ 65535 := hp.2.2
  have HR : Hid (∀ W, Calls Tryd.prog _ _ W _) := Lib.hid (fun W => rright_is W ⟨a, o, i, true, true, true⟩)
  have HBd : Hid (bodyH ⟨a, o, i, true, true, true⟩ = putB ⟨a, o, i, true, true, true⟩ ∧ errH ⟨a, o, i, true, true, true⟩ = 0) := Lib.hid (by unfold bodyH errH; rw [if_pos hr, if_pos hr]; exact ⟨rfl, rfl⟩)
  have HPt := Lib.hid (putB_parts ⟨a, o, i, true, true, true⟩ hr)
  have hca : capsB ⟨a, o, i, true, true, true⟩ = (1 :: 4 :: 0 :: 25 :: 0 :: 70 :: 2 :: 0 :: 65 :: 4 :: be 4 a) := by simp [capsB]
  rw [hca] at HPt
  rw [hr] at HR
  have HX0 := Lib.hid (Blk.new w 24 (hlc ⟨a, o, i, true, true, true⟩).toArray)
  have HB0 := Lib.hid (below_one8 w (.cells (hlc ⟨a, o, i, true, true, true⟩).toArray 24))
  clear hr hk hp hca
  generalize hh : (⟨a, o, i, true, true, true⟩ : Hl) = h at *
  have HH : Hid (∀ W lo A n cs v l, PqS w W lo h A n cs v l → W.cell? ⟨w.heap.size, 0, none⟩ = some (.int .u32 a) ∧ W.cell? ⟨w.heap.size, 1, none⟩ = some (.int .i64 o) ∧ W.cell? ⟨w.heap.size, 2, none⟩ = some (.int .u32 i) ∧ W.cell? ⟨w.heap.size, 3, none⟩ = some (.bool true) ∧ W.cell? ⟨w.heap.size, 4, none⟩ = some (.bool true) ∧ W.cell? ⟨w.heap.size, 5, none⟩ = some (.bool true)) := Lib.hid (by
    intro W lo A n cs v l k
    have := k.c
    rw [← hh] at this
    exact this)
  have HA : Hid (h.as_ = a ∧ h.hold = o ∧ h.id_ = i) := Lib.hid (by rw [← hh]; exact ⟨rfl, rfl, rfl⟩)
  clear hh
  go_enter Tryd.func11, Tryd.ntmps11
  go_wp2_with (refine h_fetch rfl _ rfl w.heap.size h 24 rfl HX0.out ?_)
  refine (HR.out _).mono ?_
  rintro e W1 ⟨rfl, hB⟩
  have hs1 : w.heap.size + 1 ≤ W1.heap.size := by have := hB.size; simp at this; omega
  have HS1 : Hid (PqS w W1 (w.heap.size + 1) h none 0 [] (.slice none 0 0) []) := Lib.hid ⟨HB0.out.trans (hB.mono HB0.out.size), HX0.out.below hB HX0.out.lt, Rd.nil_ _, OwnB.nil_ _ _, hs1, Nat.le_refl _⟩
  clear hB HB0 HX0 HR hs1
  obtain ⟨d0, d1, d2, d3, d4, d5⟩ := HH.out _ _ _ _ _ _ _ HS1.out
  have hl1 := byt_new W1 [1, 4] (oct2 (by omega) (by omega))
  go_wp2_with (at_builtin; refine app_bs rfl _ _ rfl (HS1.out.below (below_one8 W1 (.cells (u8s [1, 4]).toArray 5))).own (HS1.out.below (below_one8 W1 (.cells (u8s [1, 4]).toArray 5))).ll hl1 (by simp) rfl rfl ?_)
  intro v W2 ho2 hb2 _ _
  have hs2 := (HS1.out.below (below_one8 W1 (.cells (u8s [1, 4]).toArray 5))).app ho2 hb2
  obtain ⟨A2, c2, rfl, _, _, _⟩ := ho2.at_
  have HS2 : Hid (PqS w W2 (w.heap.size + 1) h none 0 [] (.slice A2 2 c2) [1, 4]) := Lib.hid hs2
  clear hl1 ho2 hb2 hs2 HS1 d0 d1 d2 d3 d4 d5
  simp only [List.nil_append, List.length_cons, List.length_nil, Nat.zero_add, Nat.reduceAdd]
  go_wp2_with fail
  refine (rfamily_is W2).mono ?_
  rintro e W3 ⟨rfl, hby, hB⟩
  have HS3 := Lib.hid (HS2.out.below hB)
  have HF3 := Lib.hid (hby.rd_all (B := W3.heap.size) fam_oct hby.lt)
  clear hB hby HS2
  go_wp2_with (at_builtin; refine app_bs rfl _ _ rfl HS3.out.own HS3.out.ll HF3.out (by simp) rfl rfl ?_)
  intro v W4 ho2 hb2 _ _
  have hs2 := HS3.out.app ho2 hb2
  obtain ⟨A4, c4, rfl, _, _, _⟩ := ho2.at_
  have HS4 : Hid (PqS w W4 (w.heap.size + 1) h none 0 [] (.slice A4 6 c4) [1, 4, 0, 25, 0, 70]) := Lib.hid hs2
  clear ho2 hb2 hs2 HS3 HF3
  obtain ⟨d0, d1, d2, d3, d4, d5⟩ := HH.out _ _ _ _ _ _ _ HS4.out
  simp only [List.cons_append, List.nil_append, List.length_cons, List.length_nil, Nat.zero_add, Nat.reduceAdd]
  have hl1 := byt_new W4 [2, 0] (oct2 (by omega) (by omega))
  go_wp2_with (at_builtin; refine app_bs rfl _ _ rfl (HS4.out.below (below_one8 W4 (.cells (u8s [2, 0]).toArray 5))).own (HS4.out.below (below_one8 W4 (.cells (u8s [2, 0]).toArray 5))).ll hl1 (by simp) rfl rfl ?_)
  intro v W5 ho2 hb2 _ _
  have hs2 := (HS4.out.below (below_one8 W4 (.cells (u8s [2, 0]).toArray 5))).app ho2 hb2
  obtain ⟨A5, c5, rfl, _, _, _⟩ := ho2.at_
  have HS5 : Hid (PqS w W5 (w.heap.size + 1) h none 0 [] (.slice A5 8 c5) [1, 4, 0, 25, 0, 70, 2, 0]) := Lib.hid hs2
  clear hl1 ho2 hb2 hs2 HS4 d0 d1 d2 d3 d4 d5
  obtain ⟨d0, d1, d2, d3, d4, d5⟩ := HH.out _ _ _ _ _ _ _ HS5.out
  simp only [List.cons_append, List.nil_append, List.length_cons, List.length_nil, Nat.zero_add, Nat.reduceAdd]
  go_wp2_with fail
  refine wp_region_held_drew (S := fun W => PqS w W (w.heap.size + 1) h none 0 [] (.slice none 0 0) []) (by kernel_rfl) (⟨(HS5.out.below (below_drew8 W5)).low, (HS5.out.below (below_drew8 W5)).box, Rd.nil_ _, OwnB.nil_ _ _, (HS5.out.below (below_drew8 W5)).ll, Nat.le_refl _⟩) (fun hS => ?_)
  have h6 := HS5.out.below (below_drew8 W5)
  generalize W5.drew = W6 at *
  clear HS5 d0 d1 d2 d3 d4 d5
  refine wpAnyH_take (i := 0) (oi := ⟨some 24, _, _, _, _, _⟩) (v := ?_) rfl (by kernel_rfl) (by kernel_rfl) (by kernel_rfl) (fun _ _ _ h => h) (Or.inl ⟨by rfl, ?_⟩) hS ?_
  rotate_left
  · intro wq hq
    first | (go_simp; done) | (go_simp; rfl)
  try simp only [Act.put, List.setIfInBounds_toArray, List.set_cons_zero, List.set_cons_succ]
  refine wpAnyH_take (i := 3) (oi := ⟨some 27, _, _, _, _, _⟩) (v := ?_) rfl (by kernel_rfl) (by kernel_rfl) (by kernel_rfl) (fun _ _ _ h => h) (Or.inl ⟨by rfl, ?_⟩) hS ?_
  rotate_left
  · intro wq hq
    first | (go_simp; done) | (go_simp; rfl)
  try simp only [Act.put, List.setIfInBounds_toArray, List.set_cons_zero, List.set_cons_succ]
  refine wpAnyH_take (i := 4) (oi := ⟨some 28, _, _, _, _, _⟩) (v := ?_) rfl (by kernel_rfl) (by kernel_rfl) (by kernel_rfl) (fun _ _ _ h => h) (Or.inl ⟨by rfl, ?_⟩) hS ?_
  rotate_left
  · intro wq hq
    have c0 := (HH.out _ _ _ _ _ _ _ hq).1
    first | (go_simp; done) | (go_simp; rfl)
  try simp only [Act.put, List.setIfInBounds_toArray, List.set_cons_zero, List.set_cons_succ]
  refine wpAnyH_ready (rs := [1]) (by kernel_rfl) (by simp) ?_
  refine AllReadyH.cons (o := ⟨some 25, _, _, _, _, _⟩) rfl (fun K hK => ?_) AllReadyH.nil
  rw [if_pos (by rfl)]
  go_wp2
  have hl1 := byt_new W6 [65, 4] (oct2 (by omega) (by omega))
  have h7 := h6.below (below_one8 W6 (.cells (u8s [65, 4]).toArray 5))
  clear h6 hS
  refine hK.out _ _ ⟨h7.low, h7.box, Rd.nil_ _, OwnB.nil_ _ _, h7.ll, Nat.le_refl _⟩ (fun hS => ?_)
  clear hK K
  try simp only [Act.put, List.setIfInBounds_toArray, List.set_cons_zero, List.set_cons_succ]
  refine wpAnyH_ready (rs := [2]) (by kernel_rfl) (by simp) ?_
  refine AllReadyH.cons (o := ⟨some 26, _, _, _, _, _⟩) rfl (fun K hK => ?_) AllReadyH.nil
  rw [if_pos (by rfl)]
  refine app_wp8 _ _ rfl h7.own h7.ll hl1 (by simp) rfl rfl ?_
  intro v W8 ho2 hb2
  have h8 := h7.app ho2 hb2
  obtain ⟨A8, c8, rfl, _, _, _⟩ := ho2.at_
  clear hl1 h7 ho2 hb2 hS
  have h8 : PqS w W8 (w.heap.size + 1) h none 0 [] (.slice A8 10 c8) [1, 4, 0, 25, 0, 70, 2, 0, 65, 4] := h8
  refine hK.out _ _ ⟨h8.low, h8.box, Rd.nil_ _, OwnB.nil_ _ _, h8.ll, Nat.le_refl _⟩ (fun hS => ?_)
  clear hK K
  try simp only [Act.put, List.setIfInBounds_toArray, List.set_cons_zero, List.set_cons_succ, List.cons_append, List.nil_append, List.length_cons, List.length_nil, Nat.zero_add, Nat.reduceAdd]
  refine wpAnyH_ready (rs := [5]) (by kernel_rfl) (by simp) ?_
  refine AllReadyH.cons (o := ⟨some 29, _, _, _, _, _⟩) rfl (fun K hK => ?_) AllReadyH.nil
  rw [if_pos (by rfl)]
  go_wp2_with fail
  refine (four_is W8 a ha).mono ?_
  rintro e W9 ⟨rfl, hby, hB⟩
  have h9 := h8.below hB
  have hF9 := hby.rd_all (B := W9.heap.size) (be_oct 4 a) hby.lt
  rw [be_len] at hF9
  clear hB hby h8 hS
  refine hK.out _ _ ⟨h9.low, h9.box, Rd.nil_ _, OwnB.nil_ _ _, h9.ll, Nat.le_refl _⟩ (fun hS => ?_)
  clear hK K
  try simp only [Act.put, List.setIfInBounds_toArray, List.set_cons_zero, List.set_cons_succ]
  refine wpAnyH_ready (rs := [6]) (by kernel_rfl) (by simp) ?_
  refine AllReadyH.cons (o := ⟨some 30, _, _, _, _, _⟩) rfl (fun K hK => ?_) AllReadyH.nil
  rw [if_pos (by rfl)]
  refine app_wp8 _ _ rfl h9.own h9.ll hF9 (by simp) rfl rfl ?_
  intro v WA ho2 hb2
  have hA := h9.app ho2 hb2
  have hlA : (1 :: 4 :: 0 :: 25 :: 0 :: 70 :: 2 :: 0 :: 65 :: 4 :: be 4 a).length = 14 := by simp [be_len]
  obtain ⟨AA, cA, rfl, _, _, _⟩ := ho2.at_
  have hA : PqS w WA (w.heap.size + 1) h none 0 [] (.slice AA 14 cA) (1 :: 4 :: 0 :: 25 :: 0 :: 70 :: 2 :: 0 :: 65 :: 4 :: be 4 a) := by simpa [be_len] using hA
  clear h9 ho2 hb2 hF9 hS
  refine hK.out _ _ ⟨hA.low, hA.box, Rd.nil_ _, OwnB.nil_ _ _, hA.ll, Nat.le_refl _⟩ (fun hS => ?_)
  clear hK K
  have HSA := Lib.hid hA
  clear hA hlA
  try simp only [Act.put, List.setIfInBounds_toArray, List.set_cons_zero, List.set_cons_succ, List.cons_append, List.nil_append, List.length_cons, List.length_nil, be_len, Nat.zero_add, Nat.reduceAdd]
  refine wpAnyH_take (i := 7) (oi := ⟨some 4, _, _, _, _, _⟩) (v := ?_) rfl (by kernel_rfl) (by kernel_rfl) (by kernel_rfl) (fun _ _ _ h => h) (Or.inl ⟨by rfl, ?_⟩) hS ?_
  rotate_left
  · intro wq hq
    first | (go_simp; done) | (go_simp; rfl)
  try simp only [Act.put, List.setIfInBounds_toArray, List.set_cons_zero, List.set_cons_succ]
  refine wpAnyH_done (by kernel_rfl) ?_ _
  clear hS
  obtain ⟨d0, d1, d2, d3, d4, d5⟩ := HH.out _ _ _ _ _ _ _ HSA.out
  have HCap : Hid (Rd WA WA.heap.size AA 14 (1 :: 4 :: 0 :: 25 :: 0 :: 70 :: 2 :: 0 :: 65 :: 4 :: be 4 a)) := Lib.hid HSA.out.own.rd_of
  by_cases hgt : 65535 < a
  · skip
    have HSh : Hid (shA h.as_ = 23456) := Lib.hid (by rw [HA.out.1]; unfold shA; rw [if_pos hgt])
    have HP2 : Hid (putB h = [4, 23456 / 256 % 256, 23456 % 256, o / 256 % 256, o % 256] ++ be 4 i ++ (16 :: 2 :: 14 :: (1 :: 4 :: 0 :: 25 :: 0 :: 70 :: 2 :: 0 :: 65 :: 4 :: be 4 a))) := Lib.hid (by rw [HPt.out, HSh.out, HA.out.2.1, HA.out.2.2]; simp [be_len])
    have ht1 : IntKind.i64.wrap (o.tdiv 256) = o / 256 := by rw [Int.tdiv_eq_ediv_of_nonneg ho.1, IntKind.wrap_i64]; omega
    have ht2 : o.tdiv 256 = o / 256 := Int.tdiv_eq_ediv_of_nonneg ho.1
    have ht3 : o.tmod 256 = o % 256 := Int.tmod_eq_emod_of_nonneg ho.1
    have ho5 : Oct [4, 91, 160, o / 256, o % 256] := oct5 (by omega) (by omega) (by omega) (by omega) (by omega)
    have hl5 := below_one8 WA (.cells (u8s [4, 91, 160, o / 256, o % 256]).toArray 5)
    have hq5 := HSA.out.below hl5
    have HQ5 : Hid (PqS w (WA.alloc (.cells #[.int .u8 4, .int .u8 91, .int .u8 160, .int .u8 (o / 256), .int .u8 (o % 256)] 5)) WA.heap.size h AA 14 (1 :: 4 :: 0 :: 25 :: 0 :: 70 :: 2 :: 0 :: 65 :: 4 :: be 4 a) (.slice (some ⟨WA.heap.size, 0, none⟩) 5 5) [4, 91, 160, o / 256, o % 256]) := Lib.hid ⟨hq5.low, hq5.box, HCap.out.below hl5, own_new WA [4, 91, 160, o / 256, o % 256] ho5 (by simp), hl5.size, by have := HSA.out.ll; omega⟩
    have g2 : (WA.alloc (.cells #[.int .u8 4, .int .u8 91, .int .u8 160, .int .u8 (o / 256), .int .u8 (o % 256)] 5)).cell? ⟨w.heap.size, 2, none⟩ = some (.int .u32 i) := (HH.out _ _ _ _ _ _ _ HQ5.out).2.2.1
    clear ho5 hl5 hq5
    go_wp2_with fail
    refine (four_is _ i hi).mono ?_
    generalize (WA.alloc (.cells #[.int .u8 4, .int .u8 91, .int .u8 160, .int .u8 (o / 256), .int .u8 (o % 256)] 5)) = X1 at *
    rintro e X2 ⟨rfl, hby, hB⟩
    have HQ6 := Lib.hid (HQ5.out.below hB)
    have HF6 := Lib.hid (hby.rd_all (B := X2.heap.size) (be_oct 4 i) hby.lt)
    rw [be_len] at HF6
    clear hB hby HQ5 g2 d0 d1 d2 d3 d4 d5
    go_wp2_with (at_builtin; refine app_bs rfl _ _ rfl HQ6.out.own HQ6.out.ll HF6.out (by simp) rfl rfl ?_)
    intro v X3 ho3 hb3 _ _
    have hs3 := HQ6.out.app ho3 hb3
    obtain ⟨B3, k3, rfl, _, _, _⟩ := ho3.at_
    have HQ7 : Hid (PqS w X3 WA.heap.size h AA 14 (1 :: 4 :: 0 :: 25 :: 0 :: 70 :: 2 :: 0 :: 65 :: 4 :: be 4 a) (.slice B3 9 k3) ([4, 91, 160, o / 256, o % 256] ++ be 4 i)) := Lib.hid (by simpa [be_len] using hs3)
    clear ho3 hb3 hs3 HQ6 HF6
    simp only [List.cons_append, List.nil_append, List.length_cons, List.length_nil, List.length_append, be_len, Nat.zero_add, Nat.reduceAdd]
    have hl1 := byt_new X3 [16, 2, 14] (oct3 (by omega) (by omega) (by omega))
    go_wp2_with (at_builtin; refine app_bs rfl _ _ rfl (HQ7.out.below (below_one8 X3 (.cells (u8s [16, 2, 14]).toArray 5))).own (HQ7.out.below (below_one8 X3 (.cells (u8s [16, 2, 14]).toArray 5))).ll hl1 (by simp [be_len]) rfl rfl ?_)
    intro v X5 ho3 hb3 _ _
    have hs3 := (HQ7.out.below (below_one8 X3 (.cells (u8s [16, 2, 14]).toArray 5))).app ho3 hb3
    obtain ⟨B5, k5, rfl, _, _, _⟩ := ho3.at_
    have HQ8 : Hid (PqS w X5 WA.heap.size h AA 14 (1 :: 4 :: 0 :: 25 :: 0 :: 70 :: 2 :: 0 :: 65 :: 4 :: be 4 a) (.slice B5 12 k5) ([4, 91, 160, o / 256, o % 256] ++ be 4 i ++ [16, 2, 14])) := Lib.hid (by simpa [be_len] using hs3)
    have HC8 := Lib.hid (HQ8.out.caps.more HQ8.out.ll)
    clear hl1 ho3 hb3 hs3 HQ7
    simp only [List.cons_append, List.nil_append, List.length_cons, List.length_nil, List.length_append, be_len, Nat.zero_add, Nat.reduceAdd]
    go_wp2_with (at_builtin; refine app_bs rfl _ _ rfl HQ8.out.own HQ8.out.ll HC8.out (by simp [be_len]) rfl rfl ?_)
    intro v X4 ho3 hb3 _ _
    have hs3 := HQ8.out.app ho3 hb3
    obtain ⟨B4, k4, rfl, _, _, _⟩ := ho3.at_
    have HQ9 : Hid (PqS w X4 WA.heap.size h AA 14 (1 :: 4 :: 0 :: 25 :: 0 :: 70 :: 2 :: 0 :: 65 :: 4 :: be 4 a) (.slice B4 26 k4) ([4, 91, 160, o / 256, o % 256] ++ be 4 i ++ [16, 2, 14] ++ (1 :: 4 :: 0 :: 25 :: 0 :: 70 :: 2 :: 0 :: 65 :: 4 :: be 4 a))) := Lib.hid (by simpa [be_len] using hs3)
    have HR4 : Hid (Rd X4 X4.heap.size B4 26 (bodyH h)) := Lib.hid (by rw [HBd.out.1, HP2.out, show [4, 23456 / 256 % 256, 23456 % 256, o / 256 % 256, o % 256] ++ be 4 i ++ (16 :: 2 :: 14 :: (1 :: 4 :: 0 :: 25 :: 0 :: 70 :: 2 :: 0 :: 65 :: 4 :: be 4 a)) = ([4, 91, 160, o / 256, o % 256] ++ be 4 i ++ [16, 2, 14] ++ (1 :: 4 :: 0 :: 25 :: 0 :: 70 :: 2 :: 0 :: 65 :: 4 :: be 4 a)) from by rw [show o / 256 % 256 = o / 256 by omega]; try simp]; exact HQ9.out.own.rd_of)
    have HL4 : Hid ((bodyH h).length = 26 ∧ 26 ≤ k4) := Lib.hid ⟨HR4.out.len, HQ9.out.own.cap_le⟩
    have HLow := Lib.hid HQ9.out.low
    clear hs3 ho3 hb3 HCap HQ9
    simp only [List.cons_append, List.nil_append, List.length_cons, List.length_nil, List.length_append, be_len, Nat.zero_add, Nat.reduceAdd]
    go_wp2
    go_ret2
    exact ⟨B4, 26, k4, by rw [HBd.out.2]; rfl, HL4.out.1.symm, HL4.out.2, HR4.out, HLow.out⟩
  · skip
    have HSh : Hid (shA h.as_ = a) := Lib.hid (by rw [HA.out.1]; unfold shA; rw [if_neg hgt])
    have HP2 : Hid (putB h = [4, a / 256 % 256, a % 256, o / 256 % 256, o % 256] ++ be 4 i ++ (16 :: 2 :: 14 :: (1 :: 4 :: 0 :: 25 :: 0 :: 70 :: 2 :: 0 :: 65 :: 4 :: be 4 a))) := Lib.hid (by rw [HPt.out, HSh.out, HA.out.2.1, HA.out.2.2]; simp [be_len])
    have hgt2 : ¬ (65535 : Int) < a := hgt
    have ht1 : IntKind.i64.wrap (o.tdiv 256) = o / 256 := by rw [Int.tdiv_eq_ediv_of_nonneg ho.1, IntKind.wrap_i64]; omega
    have ht2 : o.tdiv 256 = o / 256 := Int.tdiv_eq_ediv_of_nonneg ho.1
    have ht3 : o.tmod 256 = o % 256 := Int.tmod_eq_emod_of_nonneg ho.1
    have ho5 : Oct [4, a / 256, a % 256, o / 256, o % 256] := oct5 (by omega) (by omega) (by omega) (by omega) (by omega)
    have hl5 := below_one8 WA (.cells (u8s [4, a / 256, a % 256, o / 256, o % 256]).toArray 5)
    have hq5 := HSA.out.below hl5
    have HQ5 : Hid (PqS w (WA.alloc (.cells #[.int .u8 4, .int .u8 (a / 256), .int .u8 (a % 256), .int .u8 (o / 256), .int .u8 (o % 256)] 5)) WA.heap.size h AA 14 (1 :: 4 :: 0 :: 25 :: 0 :: 70 :: 2 :: 0 :: 65 :: 4 :: be 4 a) (.slice (some ⟨WA.heap.size, 0, none⟩) 5 5) [4, a / 256, a % 256, o / 256, o % 256]) := Lib.hid ⟨hq5.low, hq5.box, HCap.out.below hl5, own_new WA [4, a / 256, a % 256, o / 256, o % 256] ho5 (by simp), hl5.size, by have := HSA.out.ll; omega⟩
    have g2 : (WA.alloc (.cells #[.int .u8 4, .int .u8 (a / 256), .int .u8 (a % 256), .int .u8 (o / 256), .int .u8 (o % 256)] 5)).cell? ⟨w.heap.size, 2, none⟩ = some (.int .u32 i) := (HH.out _ _ _ _ _ _ _ HQ5.out).2.2.1
    clear ho5 hl5 hq5
    go_wp2_with fail
    refine (four_is _ i hi).mono ?_
    generalize (WA.alloc (.cells #[.int .u8 4, .int .u8 (a / 256), .int .u8 (a % 256), .int .u8 (o / 256), .int .u8 (o % 256)] 5)) = X1 at *
    rintro e X2 ⟨rfl, hby, hB⟩
    have HQ6 := Lib.hid (HQ5.out.below hB)
    have HF6 := Lib.hid (hby.rd_all (B := X2.heap.size) (be_oct 4 i) hby.lt)
    rw [be_len] at HF6
    clear hB hby HQ5 g2 d0 d1 d2 d3 d4 d5
    go_wp2_with (at_builtin; refine app_bs rfl _ _ rfl HQ6.out.own HQ6.out.ll HF6.out (by simp) rfl rfl ?_)
    intro v X3 ho3 hb3 _ _
    have hs3 := HQ6.out.app ho3 hb3
    obtain ⟨B3, k3, rfl, _, _, _⟩ := ho3.at_
    have HQ7 : Hid (PqS w X3 WA.heap.size h AA 14 (1 :: 4 :: 0 :: 25 :: 0 :: 70 :: 2 :: 0 :: 65 :: 4 :: be 4 a) (.slice B3 9 k3) ([4, a / 256, a % 256, o / 256, o % 256] ++ be 4 i)) := Lib.hid (by simpa [be_len] using hs3)
    clear ho3 hb3 hs3 HQ6 HF6
    simp only [List.cons_append, List.nil_append, List.length_cons, List.length_nil, List.length_append, be_len, Nat.zero_add, Nat.reduceAdd]
    have hl1 := byt_new X3 [16, 2, 14] (oct3 (by omega) (by omega) (by omega))
    go_wp2_with (at_builtin; refine app_bs rfl _ _ rfl (HQ7.out.below (below_one8 X3 (.cells (u8s [16, 2, 14]).toArray 5))).own (HQ7.out.below (below_one8 X3 (.cells (u8s [16, 2, 14]).toArray 5))).ll hl1 (by simp [be_len]) rfl rfl ?_)
    intro v X5 ho3 hb3 _ _
    have hs3 := (HQ7.out.below (below_one8 X3 (.cells (u8s [16, 2, 14]).toArray 5))).app ho3 hb3
    obtain ⟨B5, k5, rfl, _, _, _⟩ := ho3.at_
    have HQ8 : Hid (PqS w X5 WA.heap.size h AA 14 (1 :: 4 :: 0 :: 25 :: 0 :: 70 :: 2 :: 0 :: 65 :: 4 :: be 4 a) (.slice B5 12 k5) ([4, a / 256, a % 256, o / 256, o % 256] ++ be 4 i ++ [16, 2, 14])) := Lib.hid (by simpa [be_len] using hs3)
    have HC8 := Lib.hid (HQ8.out.caps.more HQ8.out.ll)
    clear hl1 ho3 hb3 hs3 HQ7
    simp only [List.cons_append, List.nil_append, List.length_cons, List.length_nil, List.length_append, be_len, Nat.zero_add, Nat.reduceAdd]
    go_wp2_with (at_builtin; refine app_bs rfl _ _ rfl HQ8.out.own HQ8.out.ll HC8.out (by simp [be_len]) rfl rfl ?_)
    intro v X4 ho3 hb3 _ _
    have hs3 := HQ8.out.app ho3 hb3
    obtain ⟨B4, k4, rfl, _, _, _⟩ := ho3.at_
    have HQ9 : Hid (PqS w X4 WA.heap.size h AA 14 (1 :: 4 :: 0 :: 25 :: 0 :: 70 :: 2 :: 0 :: 65 :: 4 :: be 4 a) (.slice B4 26 k4) ([4, a / 256, a % 256, o / 256, o % 256] ++ be 4 i ++ [16, 2, 14] ++ (1 :: 4 :: 0 :: 25 :: 0 :: 70 :: 2 :: 0 :: 65 :: 4 :: be 4 a))) := Lib.hid (by simpa [be_len] using hs3)
    have HR4 : Hid (Rd X4 X4.heap.size B4 26 (bodyH h)) := Lib.hid (by rw [HBd.out.1, HP2.out, show [4, a / 256 % 256, a % 256, o / 256 % 256, o % 256] ++ be 4 i ++ (16 :: 2 :: 14 :: (1 :: 4 :: 0 :: 25 :: 0 :: 70 :: 2 :: 0 :: 65 :: 4 :: be 4 a)) = ([4, a / 256, a % 256, o / 256, o % 256] ++ be 4 i ++ [16, 2, 14] ++ (1 :: 4 :: 0 :: 25 :: 0 :: 70 :: 2 :: 0 :: 65 :: 4 :: be 4 a)) from by rw [show a / 256 % 256 = a / 256 by omega, show o / 256 % 256 = o / 256 by omega]; try simp]; exact HQ9.out.own.rd_of)
    have HL4 : Hid ((bodyH h).length = 26 ∧ 26 ≤ k4) := Lib.hid ⟨HR4.out.len, HQ9.out.own.cap_le⟩
    have HLow := Lib.hid HQ9.out.low
    clear hs3 ho3 hb3 HCap HQ9
    simp only [List.cons_append, List.nil_append, List.length_cons, List.length_nil, List.length_append, be_len, Nat.zero_add, Nat.reduceAdd]
    go_wp2
    go_ret2
    exact ⟨B4, 26, k4, by rw [HBd.out.2]; rfl, HL4.out.1.symm, HL4.out.2, HR4.out, HLow.out⟩
theorem rputH_is (w : World) (h : Hl) (hk : HlOk h) : Calls Tryd.prog 11 #[.agg (hlc h).toArray] w (PutH w h) := by
  cases hr : rightH h with
  | false => exact rput_no w h hr
  | true =>
    obtain ⟨a, o, i, ev, wd, rf⟩ := h
    cases ev <;> cases rf <;> cases wd
    · exact rput_000 w a o i hk hr
    · exact rput_001 w a o i hk hr
    · exact rput_010 w a o i hk hr
    · exact rput_011 w a o i hk hr
    · exact rput_100 w a o i hk hr
    · exact rput_101 w a o i hk hr
    · exact rput_110 w a o i hk hr
    · exact rput_111 w a o i hk hr
end Go.Proofs.YtgfjjkckamppoaaDoor
