/-
  Put together: AdS AdT AdU AdV OrdA CarA CarB CarC CarD CarE CarF.
-/
import Derived.Test.YtkaimdcepnhkdaaDoorMC
import Derived.Lib.BytesEntry
import Derived.BigQuiet
import Derived.IntWalk
import Derived.Deep.RegionHeld3
import Derived.OwnWalk
import Derived.Laws.MakeOwn
namespace Go.Proofs.YtkaimdcepnhkdaaDoor
open Go.RowKit
set_option linter.unusedSimpArgs false
set_option linter.unusedVariables false

def pf2 (o : Option (Bool × List Int)) (t : List UInt8) : Option (Bool × List Int × Int) := match o with
  | none => none
  | some (v, l) => match digits t (bitsOf v) with
    | none => none
    | some n => if rightPfB v l n then some (v, l, n) else none
def rdPf (s : ByteArray) : Option (Bool × List Int × Int) := pf2 (rdIp (cutS s [47]).1) (cutS s [47]).2.1.data.toList
def pfE (o : Option (Bool × List Int × Int)) : Value := match o with
  | some (v, l, n) => .tuple #[.agg (pfc v l n).toArray, .int .i64 0]
  | none => .tuple #[.agg noPf.toArray, .int .i64 4]
def PPf (w : World) (o : Option (Bool × List Int × Int)) (e : Ending) (w' : World) : Prop := e = .returned (pfE o) ∧ Below w.heap.size w w'
theorem bits_bd (v : Bool) : 32 ≤ bitsOf v ∧ bitsOf v ≤ 128 := by unfold bitsOf; split <;> omega
/-- What ParseIp hands back, in parts. -/
theorem ipE_parts (o : Option (Bool × List Int)) (hbd : ∀ v l, o = some (v, l) → l.length = 16 ∧ Oct l ∧ rightB v l = true) :
    ∃ v l err, ipE o = .tuple #[.agg (ipc v l).toArray, .int .i64 err] ∧ l.length = 16 ∧ Oct l ∧ ((err = 0 ∧ o = some (v, l)) ∨ (err = 4 ∧ o = none)) := by
  cases o with
  | none => exact ⟨false, List.replicate 16 0, 4, rfl, rfl, (fun x hx => by have := (List.mem_replicate.1 hx).2; omega), .inr ⟨rfl, rfl⟩⟩
  | some x => obtain ⟨v, l⟩ := x; exact ⟨v, l, 0, rfl, (hbd v l rfl).1, (hbd v l rfl).2.1, .inl ⟨rfl, rfl⟩⟩

theorem size_sra (w : World) (o : Obj) (g : Nat) (cs : Array Value) : ((w.alloc o).setRow g cs).heap.size = w.heap.size + 1 := by simp [World.setRow]
set_option maxHeartbeats 8000000 in
set_option maxRecDepth 100000 in
theorem ppf_is (w : World) (E : Env w) (s : ByteArray) (hs : s.size < 4294967281) : Calls Tryd.prog 30 #[.string s] w (PPf w (rdPf s)) := by
  have HE := Lib.hid (E.alloc (.cells noPf.toArray 40))
  have HR := Lib.hid (Blk.new w 40 noPf.toArray)
  have HS := Lib.hid (cutS_size s [47])
  have HO : Hid (rdPf s = pf2 (rdIp (cutS s [47]).1) (cutS s [47]).2.1.data.toList) := Lib.hid rfl
  generalize hX : rdPf s = out at *
  clear hX
  go_enter Tryd.func30, Tryd.ntmps30
  go_wp2_with fail
  refine (cut_call _ HE.out s ⟨#[47]⟩ hs).mono ?_
  rintro e w1 ⟨rfl, hB1, hsz⟩
  rw [show (w.alloc (.cells noPf.toArray 40)).heap.size = w.heap.size + 1 by simp] at *
  have HE1 := Lib.hid (HE.out.below (by rw [show (w.alloc (.cells noPf.toArray 40)).heap.size = w.heap.size + 1 by simp]; exact hB1))
  have HB1 : Hid (Below w.heap.size w w1) := Lib.hid (((Below.refl w.heap.size w).alloc (Nat.le_refl _) _).trans (hB1.mono (by omega)))
  have Hr := Lib.hid (HR.out.below hB1 (by omega))
  have hs1 : w.heap.size < w1.heap.size := by omega
  clear hB1 hsz HE HR
  generalize cutS s [47] = c at *
  obtain ⟨hd, tl, sh⟩ := c
  simp only at HS HO
  have hhd : hd.size < 4294967281 := by have := HS.out.1; omega
  have htl : tl.size < 4294967281 := by have := HS.out.2; omega
  go_wp2_with fail
  refine (pip_is w1 HE1.out hd hhd).mono ?_
  rintro e w2 ⟨he, hB2⟩
  have HB2 := Lib.hid (HB1.out.trans (hB2.mono HB1.out.size))
  have Hr2 := Lib.hid (Hr.out.below hB2 hs1)
  have hs2 : w.heap.size < w2.heap.size := Nat.lt_of_lt_of_le hs1 hB2.size
  obtain ⟨v, l, err, hip, hl, ho, hcase⟩ := ipE_parts (rdIp hd) (fun v l h => rdIp_bd h)
  rw [hip] at he
  subst he
  have HCase := Lib.hid hcase
  have HA0 := Lib.hid (Blk.setRow (Blk.new w2 24 zip16) (ipc v l).toArray)
  have HB3 : Hid (Below w.heap.size w ((w2.alloc (.cells zip16 24)).setRow w2.heap.size (ipc v l).toArray)) := Lib.hid ((HB2.out.alloc (Nat.le_of_lt hs2) _).trans (below_setRow _ _ _ (Nat.le_of_lt hs2)))
  have Hr3 : Hid (Blk ((w2.alloc (.cells zip16 24)).setRow w2.heap.size (ipc v l).toArray) w.heap.size 40 noPf.toArray) := Lib.hid ((Hr2.out.alloc _).below (below_setRow _ w2.heap.size _ (Nat.le_refl _)) hs2)
  have hbb := bits_bd v
  have hw64 : IntKind.u64.wrap (bitsOf v) = bitsOf v := by rw [IntKind.wrap_u64]; exact Int.emod_eq_of_lt (by omega) (by omega)
  clear hB2 hip hcase
  go_wp2_with (first
    | (refine ip_store rfl _ _ rfl w2.heap.size v l hl rfl rfl 24 zip16 (Blk.new w2 24 zip16) rfl ?_)
    | (refine ip_fetch rfl _ rfl w2.heap.size 0 v l hl rfl HA0.out.range ?_))
  refine (bits_is _ v l).mono ?_
  rintro e w4 ⟨rfl, hB4⟩
  have HB4 := Lib.hid (HB3.out.trans (hB4.mono (by rw [size_sra]; omega)))
  have Hr4 := Lib.hid (Hr3.out.below hB4 (by rw [size_sra]; omega))
  have HA4 := Lib.hid (HA0.out.below hB4 (by rw [size_sra]; omega))
  have hs4 : w2.heap.size < w4.heap.size := by have := hB4.size; rw [size_sra] at this; omega
  clear hB4 HA0 HB3 Hr3
  go_wp2_with fail
  refine (digits_is w4 tl (bitsOf v) (by omega) (by omega) (by omega)).mono ?_
  rintro e w' ⟨rfl, rfl⟩
  have hdg : ∃ n b, digV (digits tl.data.toList (bitsOf v)) = .tuple #[.int .u64 n, .bool b] ∧ 0 ≤ n ∧ n ≤ 128 ∧ ((b = true ∧ digits tl.data.toList (bitsOf v) = some n) ∨ (b = false ∧ digits tl.data.toList (bitsOf v) = none)) := by
    cases hd2 : digits tl.data.toList (bitsOf v) with
    | none => exact ⟨0, false, rfl, by omega, by omega, .inr ⟨rfl, rfl⟩⟩
    | some n => have := digits_lt _ _ _ hd2; exact ⟨n, true, rfl, this.1, by omega, .inl ⟨rfl, rfl⟩⟩
  obtain ⟨n, b, hv, hn0, hn1, hdc⟩ := hdg
  rw [hv]
  have HDc := Lib.hid hdc
  have hwn : IntKind.i64.wrap n = n := IntWalk.i64_in _ (by omega)
  have HP0 := Lib.hid (Blk.setRow (Blk.new w4 40 noPf.toArray) (pfc v l n).toArray)
  have HB5 : Hid (Below w.heap.size w ((w4.alloc (.cells noPf.toArray 40)).setRow w4.heap.size (pfc v l n).toArray)) := Lib.hid ((HB4.out.alloc (by omega) _).trans (below_setRow _ _ _ (by omega)))
  have Hr5 : Hid (Blk ((w4.alloc (.cells noPf.toArray 40)).setRow w4.heap.size (pfc v l n).toArray) w.heap.size 40 noPf.toArray) := Lib.hid ((Hr4.out.alloc _).below (below_setRow _ w4.heap.size _ (Nat.le_refl _)) (by omega))
  clear hv hdc hbb hw64
  have hgood : (err = 0 ∧ b = true) ∨ ((err != 0) = true) ∨ (err = 0 ∧ b = false) := by
    rcases HCase.out with h | h
    · cases b
      · exact .inr (.inr ⟨h.1, rfl⟩)
      · exact .inl ⟨h.1, rfl⟩
    · exact .inr (.inl (by rw [h.1]; rfl))
  rcases hgood with ⟨rfl, rfl⟩ | hbad | ⟨rfl, rfl⟩
  · have H1 : Hid (rdIp hd = some (v, l)) := Lib.hid (by rcases HCase.out with h | h; exact h.2; exact absurd h.1 (by decide))
    have H2 : Hid (digits tl.data.toList (bitsOf v) = some n) := Lib.hid (by rcases HDc.out with h | h; exact h.2; cases h.1)
    have HO2 : Hid (out = if rightPfB v l n then some (v, l, n) else none) := Lib.hid (by rw [HO.out, H1.out]; show (match digits tl.data.toList (bitsOf v) with | none => none | some n => if rightPfB v l n then some (v, l, n) else none) = _; rw [H2.out])
    clear HO HCase HDc H1 H2
    go_wp2_with (first
      | (refine ip_fetch rfl _ rfl w2.heap.size 0 v l hl rfl HA4.out.range ?_)
      | (refine pf_build rfl _ _ rfl v l n hl rfl rfl ?_)
      | (refine pf_store rfl _ _ rfl w4.heap.size v l n hl rfl rfl 40 noPf.toArray (Blk.new w4 40 noPf.toArray) rfl ?_)
      | (refine pf_fetch rfl _ rfl w4.heap.size v l n hl rfl HP0.out.range ?_))
    refine (rpf_is _ v l n hl ho ⟨by omega, by omega⟩).mono ?_
    rintro e w6 ⟨rfl, hB6⟩
    have HB6 := Lib.hid (HB5.out.trans (hB6.mono (by rw [size_sra]; omega)))
    have Hr6 := Lib.hid (Hr5.out.below hB6 (by rw [size_sra]; omega))
    have HP6 := Lib.hid (HP0.out.below hB6 (by rw [size_sra]; omega))
    clear hB6
    cases hrt : rightPfB v l n
    · have HN : Hid (out = none) := Lib.hid (by rw [HO2.out, hrt]; rfl)
      clear hrt HO2
      go_wp2_with (refine pf_store rfl _ _ rfl w.heap.size false (List.replicate 16 0) 0 rfl rfl rfl 40 noPf.toArray Hr6.out rfl ?_)
      refine bodyPost_ret (v := pfE none) ?_ rfl ⟨by rw [HN.out], HB6.out.trans (below_setRow _ _ _ (Nat.le_refl _))⟩
      exact results_cell_slot rfl _ _ w.heap.size 40 _ _ _ rfl rfl (Blk.setRow Hr6.out _) Tryd.underlying40 rfl (by kernel_rfl)
    · have HN : Hid (out = some (v, l, n)) := Lib.hid (by rw [HO2.out, hrt]; rfl)
      clear hrt HO2
      go_wp2_with (first
        | (refine pf_fetch rfl _ rfl w4.heap.size v l n hl rfl HP6.out.range ?_)
        | (refine pf_store rfl _ _ rfl w.heap.size v l n hl rfl rfl 40 noPf.toArray Hr6.out rfl ?_))
      refine bodyPost_ret (v := pfE (some (v, l, n))) ?_ rfl ⟨by rw [HN.out], HB6.out.trans (below_setRow _ _ _ (Nat.le_refl _))⟩
      exact results_cell_slot rfl _ _ w.heap.size 40 _ _ _ rfl rfl (Blk.setRow Hr6.out _) Tryd.underlying40 rfl (pfc_size v l n hl)
  · have HN : Hid (out = none) := Lib.hid (by
      rcases HCase.out with h | h
      · rw [h.1] at hbad; cases hbad
      · rw [HO.out, h.2]; rfl)
    clear HO HCase HDc
    go_wp2_with (first
      | (refine ip_fetch rfl _ rfl w2.heap.size 0 v l hl rfl HA4.out.range ?_)
      | (refine pf_build rfl _ _ rfl v l n hl rfl rfl ?_)
      | (refine pf_store (o := ⟨none, .store _ (.tmp 11) _, _, _, _, _⟩) rfl _ _ rfl w4.heap.size v l n hl rfl rfl 40 noPf.toArray (Blk.new w4 40 noPf.toArray) rfl ?_)
      | (refine pf_store (o := ⟨none, .store _ (.tmp 2) _, _, _, _, _⟩) rfl _ _ rfl w.heap.size false (List.replicate 16 0) 0 rfl rfl rfl 40 noPf.toArray Hr5.out rfl ?_))
    refine bodyPost_ret (v := pfE none) ?_ rfl ⟨by rw [HN.out], HB5.out.trans (below_setRow _ _ _ (Nat.le_refl _))⟩
    exact results_cell_slot rfl _ _ w.heap.size 40 _ _ _ rfl rfl (Blk.setRow Hr5.out _) Tryd.underlying40 rfl (by kernel_rfl)
  · have HN : Hid (out = none) := Lib.hid (by
      rw [HO.out]
      rcases HCase.out with h | h
      · rcases HDc.out with h2 | h2
        · cases h2.1
        · rw [h.2]; show (match digits tl.data.toList (bitsOf v) with | none => none | some n => if rightPfB v l n then some (v, l, n) else none) = _; rw [h2.2]
      · exact absurd h.1 (by decide))
    clear HO HCase HDc
    go_wp2_with (first
      | (refine ip_fetch rfl _ rfl w2.heap.size 0 v l hl rfl HA4.out.range ?_)
      | (refine pf_build rfl _ _ rfl v l n hl rfl rfl ?_)
      | (refine pf_store (o := ⟨none, .store _ (.tmp 11) _, _, _, _, _⟩) rfl _ _ rfl w4.heap.size v l n hl rfl rfl 40 noPf.toArray (Blk.new w4 40 noPf.toArray) rfl ?_)
      | (refine pf_store (o := ⟨none, .store _ (.tmp 2) _, _, _, _, _⟩) rfl _ _ rfl w.heap.size false (List.replicate 16 0) 0 rfl rfl rfl 40 noPf.toArray Hr5.out rfl ?_))
    refine bodyPost_ret (v := pfE none) ?_ rfl ⟨by rw [HN.out], HB5.out.trans (below_setRow _ _ _ (Nat.le_refl _))⟩
    exact results_cell_slot rfl _ _ w.heap.size 40 _ _ _ rfl rfl (Blk.setRow Hr5.out _) Tryd.underlying40 rfl (by kernel_rfl)
end Go.Proofs.YtkaimdcepnhkdaaDoor
namespace Go.Proofs.YtkaimdcepnhkdaaDoor
open Go.RowKit
set_option linter.unusedSimpArgs false
set_option linter.unusedVariables false

def most (k : Int) : Int := if k = 0 then 4294967295 else 65535
theorem ml_is (w : World) (k : Int) : Calls Tryd.prog 120 #[.int .u8 k] w fun e w' => e = .returned (.int .u64 (most k)) ∧ w = w' := by
  by_cases h : k = 0
  · subst h
    go_enter Tryd.func120, Tryd.ntmps120
    go_wp2
    go_ret
    exact ⟨rfl, rfl⟩
  · have hb : (k == 0) = false := by simpa using h
    have H : Hid (most k = 65535) := Lib.hid (by unfold most; rw [if_neg h])
    clear h
    go_enter Tryd.func120, Tryd.ntmps120
    go_wp2
    go_ret
    exact ⟨by rw [H.out]; rfl, rfl⟩
/-- The lowest k bytes of n, the highest of them first. -/
def lowB : Nat → Int → List Int
  | 0, _ => []
  | k + 1, n => (n / 256 ^ k % 256) :: lowB k n
theorem lowB_len : ∀ k n, (lowB k n).length = k
  | 0, _ => rfl
  | k + 1, n => by simp [lowB, lowB_len k n]
theorem lowB_oct : ∀ k n, Oct (lowB k n)
  | 0, _ => by intro x h; cases h
  | k + 1, n => by
    intro x h
    rcases List.mem_cons.1 h with rfl | h
    · omega
    · exact lowB_oct k n x h
/-- A distinguisher's bytes. -/
def rdB (k n : Int) : List Int := 0 :: k :: lowB 6 n
theorem rdB_len (k n : Int) : (rdB k n).length = 8 := by simp [rdB, lowB_len]
theorem rdB_oct (k n : Int) (h0 : 0 ≤ k) (h1 : k < 256) : Oct (rdB k n) := by
  intro x hx
  rcases List.mem_cons.1 hx with rfl | hx
  · omega
  · rcases List.mem_cons.1 hx with rfl | hx
    · omega
    · exact lowB_oct 6 n x hx
theorem u8s_get (xs ys : List Int) (y : Int) (k : Nat) (hk : xs.length = k) : (u8s (xs ++ y :: ys)).toArray[k]? = some (.int .u8 y) := by
  subst hk; simp
theorem u8s_set (xs ys : List Int) (y z : Int) (k : Nat) (hk : xs.length = k) : (u8s (xs ++ y :: ys)).toArray.setIfInBounds k (.int .u8 z) = (u8s (xs ++ z :: ys)).toArray := by
  subst hk; simp [List.set_append]
theorem rd_size (l : List Int) (hl : l.length = 8) : (Tryd.prog.info? 95).map (·.size) = some (u8s l).toArray.size := by
  have : (Tryd.prog.info? 95).map (·.size) = some 8 := by kernel_rfl
  rw [this]; simp [hl]
theorem rd_fetch {ops : Array Oper} {rest : List Oper} {op : Oper} {a : Act} {w : World} {Q : Exit → Act → World → Prop} (hw : Region.wanted op (yielded ops a.tmps) = true) (x : Operand) (ho : op.op = .load 95 x) (b : Nat) (l : List Int) (hl : l.length = 8)
    (hx : a.eval x = .pointer (some ⟨b, 0, none⟩)) (hc : w.rangeAt b 0 (u8s l)) (h : wpList Tryd.prog ops Q rest (a.put op.dst (.agg (u8s l).toArray)) w) : wpList Tryd.prog ops Q (op :: rest) a w :=
  BigFrame.wpList_want hw fun _ hK => wp_load_mid 95 x ho b 0 hx (u8s l) _ hc Tryd.underlying95 rfl (by simpa using rd_size l hl) (hK _ _ h)
theorem rd_store {ops : Array Oper} {rest : List Oper} {o : Oper} {a : Act} {w : World} {Q : Exit → Act → World → Prop} (hgd : o.guard = none) (x y : Operand) (ho : o.op = .store 95 x y) (g : Nat) (l : List Int) (hl : l.length = 8)
    (hx : a.eval x = .pointer (some ⟨g, 0, none⟩)) (hy : a.eval y = .agg (u8s l).toArray) (t : TypeId) (old : Array Value) (hg : Blk w g t old) (hold : old.size = 8)
    (h : wpList Tryd.prog ops Q rest (a.put o.dst undef) (w.setRow g (u8s l).toArray)) : wpList Tryd.prog ops Q (o :: rest) a w :=
  wpList_store_row hgd 95 x y ho g _ hx hy t old hg (rd_size l hl) (by rw [hold]; simp [hl]) (all_oneCell_toArray (u8s_one l)) h
abbrev zr8 : Array Value := #[Value.int .u8 0, Value.int .u8 0, Value.int .u8 0, Value.int .u8 0, Value.int .u8 0, Value.int .u8 0, Value.int .u8 0, Value.int .u8 0]
/-- Which numbers fit a kind. -/
def FitRd (k a b : Int) : Prop := (k = 0 ∧ 0 ≤ a ∧ a ≤ 65535 ∧ 0 ≤ b ∧ b ≤ 4294967295) ∨ ((k = 1 ∨ k = 2) ∧ 0 ≤ a ∧ a ≤ 4294967295 ∧ 0 ≤ b ∧ b ≤ 65535)
theorem shr_byte (n : Int) (k : Nat) : n / 2 ^ (8 * k) % 256 = n / 256 ^ k % 256 := by
  rw [Int.pow_mul]; rfl
theorem fill_rd (k n : Int) (i : Nat) (hi : i < 6) : (0 :: k :: (List.replicate (6 - i) 0 ++ lowB i n) : List Int) = (0 :: k :: List.replicate (5 - i) 0) ++ 0 :: lowB i n := by
  rw [show 6 - i = 5 - i + 1 by omega, List.replicate_succ']; simp
theorem fill_rd2 (k n : Int) (i : Nat) (hi : i < 6) : (0 :: k :: List.replicate (5 - i) 0) ++ (n / 256 ^ i % 256) :: lowB i n = (0 :: k :: (List.replicate (6 - (i + 1)) 0 ++ lowB (i + 1) n) : List Int) := by
  rw [show 6 - (i + 1) = 5 - i by omega]; simp [lowB]
set_option maxHeartbeats 2000000 in
set_option maxRecDepth 100000 in
theorem mk_go (w : World) (k a b M : Int) (hM : most k = M) (hk0 : 0 ≤ k) (hk2 : k ≤ 2) (ha0 : 0 ≤ a) (hb0 : 0 ≤ b) (hb : b ≤ M) (hM2 : 0 ≤ M ∧ M ≤ 4294967295) (hprod : 0 ≤ a * (M + 1) ∧ a * (M + 1) + b < 281474976710656) :
    Calls Tryd.prog 121 #[.int .u8 k, .int .u64 a, .int .u64 b] w fun e w' => e = .returned (.agg (u8s (rdB k (a * (M + 1) + b))).toArray) ∧ Below w.heap.size w w' := by
  have hw1 : IntKind.u64.wrap (M + 1) = M + 1 := by rw [IntKind.wrap_u64]; exact Int.emod_eq_of_lt (by omega) (by omega)
  have hw2 : IntKind.u64.wrap (a * (M + 1)) = a * (M + 1) := by rw [IntKind.wrap_u64]; exact Int.emod_eq_of_lt hprod.1 (by omega)
  have hw3 : IntKind.u64.wrap (a * (M + 1) + b) = a * (M + 1) + b := by rw [IntKind.wrap_u64]; exact Int.emod_eq_of_lt (by omega) (by omega)
  have Hm := Lib.hid (ml_is (w.alloc (.cells zr8 95)) k)
  rw [hM] at Hm
  clear hM
  go_enter Tryd.func121, Tryd.ntmps121
  go_wp2_with fail
  refine Hm.out.mono ?_
  rintro e w' ⟨rfl, rfl⟩
  clear Hm
  have HA := Lib.hid (Blk.setRow (Blk.new (w.alloc (.cells zr8 95)) 95 zr8) (u8s [0, k, 0, 0, 0, 0, 0, 0]).toArray)
  have HN := Lib.hid (Blk.new (w.alloc (.cells zr8 95)) 95 zr8)
  rw [show (w.alloc (.cells zr8 95)).heap.size = w.heap.size + 1 by simp] at HA HN
  have HR : Hid (Blk (((w.alloc (.cells zr8 95)).alloc (.cells zr8 95)).setRow (w.heap.size + 1) (u8s [0, k, 0, 0, 0, 0, 0, 0]).toArray) w.heap.size 95 zr8) := Lib.hid (((Blk.new w 95 zr8).alloc _).below (below_setRow _ (w.heap.size + 1) _ (Nat.le_refl _)) (by omega))
  have HB : Hid (Below w.heap.size w (((w.alloc (.cells zr8 95)).alloc (.cells zr8 95)).setRow (w.heap.size + 1) (u8s [0, k, 0, 0, 0, 0, 0, 0]).toArray)) := Lib.hid ((((Below.refl _ _).alloc (Nat.le_refl _) _).alloc (by simp) _).trans (below_setRow _ _ _ (by omega)))
  go_wp2_with (refine rd_store rfl _ _ rfl (w.heap.size + 1) [0, k, 0, 0, 0, 0, 0, 0] rfl rfl rfl 95 zr8 HN.out rfl ?_)
  have hn0 : 0 ≤ a * (M + 1) + b := by omega
  have hn1 := hprod.2
  generalize hn : a * (M + 1) + b = n at *
  have HNn := Lib.hid hn
  clear hw1 hw2 hw3 hprod hn
  go_loopw [9, 19] (fun _ i wr => ∃ j : Nat, j ≤ 6 ∧ i = .int .i64 j ∧ Blk wr (w.heap.size + 1) 95 (u8s (0 :: k :: (List.replicate (6 - j) 0 ++ lowB j n))).toArray ∧ Blk wr w.heap.size 95 zr8 ∧ Below w.heap.size w wr) (fun _ i _ => 6 - (intOf i).toNat)
  case atStart => exact ⟨0, by omega, rfl, HA.out, HR.out, HB.out⟩
  case round =>
    obtain ⟨j, hj, rfl, ha, hz, hB⟩ := hrel
    have HAa := Lib.hid ha
    have HZ := Lib.hid hz
    have HBb := Lib.hid hB
    clear ha hz hB HA HN HR HB
    by_cases hlt : j < 6
    · have hA := HAa.out
      rw [fill_rd k n j hlt] at hA
      have hlen : ((0 :: k :: List.replicate (5 - j) 0) : List Int).length = 7 - j := by simp; omega
      have hc := hA.cell (7 - j)
      rw [u8s_get _ _ _ (7 - j) hlen] at hc
      have hf := hA.frozen (7 - j)
      have hset := hA.set_ (7 - j) (.int .u8 (n / 256 ^ j % 256))
      rw [u8s_set _ _ _ _ (7 - j) hlen, fill_rd2 k n j hlt] at hset
      have HS := Lib.hid hset
      have HZ2 := Lib.hid (HZ.out.far (p := ⟨w.heap.size + 1, 7 - j, none⟩) (by simp) (.int .u8 (n / 256 ^ j % 256)))
      have HB2 := Lib.hid (HBb.out.setCell (p := ⟨w.heap.size + 1, 7 - j, none⟩) (show w.heap.size ≤ w.heap.size + 1 by omega) (.int .u8 (n / 256 ^ j % 256)))
      have HShr := Lib.hid (shr_byte n j)
      clear hA hset hlen HAa HZ HBb
      generalize n / 256 ^ j % 256 = x at *
      go_wp2
      rw [HShr.out]
      exact ⟨⟨j + 1, by omega, by go_num, HS.out, HZ2.out, HB2.out⟩, by simp [intOf]; omega⟩
    · obtain rfl : j = 6 := by omega
      have HA2 : Hid (Blk wr (w.heap.size + 1) 95 (u8s (rdB k n)).toArray) := Lib.hid HAa.out
      clear HAa
      go_wp2_with (first
        | (refine rd_fetch rfl _ rfl (w.heap.size + 1) (rdB k n) (rdB_len k n) rfl HA2.out.range ?_)
        | (refine rd_store rfl _ _ rfl w.heap.size (rdB k n) (rdB_len k n) rfl rfl 95 zr8 HZ.out rfl ?_))
      refine bodyPost_ret (v := .agg (u8s (rdB k n)).toArray) ?_ rfl ⟨by rw [HNn.out], HBb.out.trans (below_setRow _ _ _ (Nat.le_refl _))⟩
      exact results_cell_row rfl _ _ w.heap.size 95 _ (0, 0) _ rfl (Blk.setRow HZ.out _) Tryd.underlying95 rfl (rd_size _ (rdB_len k n))

theorem fit_prod {k a b : Int} (h : FitRd k a b) : 0 ≤ k ∧ k ≤ 2 ∧ 0 ≤ a ∧ 0 ≤ b ∧ b ≤ most k ∧ (0 ≤ most k ∧ most k ≤ 4294967295) ∧ (0 ≤ a * (most k + 1) ∧ a * (most k + 1) + b < 281474976710656) := by
  unfold most
  rcases h with ⟨rfl, h1, h2, h3, h4⟩ | ⟨h0, h1, h2, h3, h4⟩
  · rw [if_pos rfl]; omega
  · rw [if_neg (by omega)]; omega
theorem mk_is (w : World) (k a b : Int) (h : FitRd k a b) :
    Calls Tryd.prog 121 #[.int .u8 k, .int .u64 a, .int .u64 b] w fun e w' => e = .returned (.agg (u8s (rdB k (a * (most k + 1) + b))).toArray) ∧ Below w.heap.size w w' := by
  obtain ⟨h0, h1, h2, h3, h4, h5, h6⟩ := fit_prod h
  exact mk_go w k a b (most k) rfl h0 h1 h2 h3 h4 h5 h6
end Go.Proofs.YtkaimdcepnhkdaaDoor
namespace Go.Proofs.YtkaimdcepnhkdaaDoor
open Go.RowKit
set_option linter.unusedSimpArgs false
set_option linter.unusedVariables false

def trimL (s : ByteArray) : ByteArray := ⟨(Lib.trimSuffix s.data.toList [76]).toArray⟩
def rdFirst (s : ByteArray) : Int × Option Int :=
  if dotB s then (1, (octs (splitS s 46 5)).map numOf)
  else if Lib.hasSuffix s.data.toList [76] then (2, digits (trimL s).data.toList 4294967295)
  else (0, digits s.data.toList 65535)
def fstV (p : Int × Option Int) : Value := .tuple #[.int .u8 p.1, .int .u64 (p.2.getD 0), .bool p.2.isSome]
def RFst (w : World) (p : Int × Option Int) (e : Ending) (w' : World) : Prop := e = .returned (fstV p) ∧ Below w.heap.size w w'
theorem trimL_size (s : ByteArray) : (trimL s).size ≤ s.size := by
  show (Lib.trimSuffix s.data.toList [76]).toArray.size ≤ s.data.size
  rw [List.size_toArray]
  unfold Lib.trimSuffix
  split
  · rw [List.length_take, Array.length_toList]; omega
  · rw [Array.length_toList]; exact Nat.le_refl _
theorem octs_num {xs : List ByteArray} {ds : List Int} (h : octs xs = some ds) : 0 ≤ numOf ds ∧ numOf ds < 4294967296 := by
  have hb := octs_bd h
  have := numOf_bd ds hb.2
  rw [hb.1] at this
  exact ⟨this.1, by omega⟩
set_option maxHeartbeats 2000000 in
set_option maxRecDepth 100000 in
theorem rfst_is (w : World) (E : Env w) (s : ByteArray) (hs : s.size < 4294967281) : Calls Tryd.prog 119 #[.string s] w (RFst w (rdFirst s)) := by
  have HO : Hid (rdFirst s = if dotB s then (1, (octs (splitS s 46 5)).map numOf) else if Lib.hasSuffix s.data.toList [76] then (2, digits (trimL s).data.toList 4294967295) else (0, digits s.data.toList 65535)) := Lib.hid rfl
  have Hc : Hid (Calls Tryd.prog 113 #[.string s, .string ⟨#[46]⟩] w fun e w' => e = .returned (.bool (dotB s)) ∧ w = w') := Lib.hid ((Tryd.strings_Contains_one s 46 _).mono fun e w' h => ⟨h.1, h.2.symm⟩)
  have Hx : Hid (Calls Tryd.prog 138 #[.string s, .string ⟨#[76]⟩] w fun e w' => e = .returned (.tuple #[.string (trimL s), .bool (Lib.hasSuffix s.data.toList [76])]) ∧ w = w') := Lib.hid ((Tryd.strings_CutSuffix s ⟨#[76]⟩ w (by omega)).mono fun e w' h => ⟨h.1, h.2.symm⟩)
  generalize hX : rdFirst s = out at *
  clear hX
  go_enter Tryd.func119, Tryd.ntmps119
  go_wp2_with fail
  refine Hc.out.mono ?_
  rintro e w' ⟨rfl, rfl⟩
  clear Hc
  cases hd : dotB s
  · rw [hd] at HO
    have HO2 : Hid (out = if Lib.hasSuffix s.data.toList [76] then (2, digits (trimL s).data.toList 4294967295) else (0, digits s.data.toList 65535)) := Lib.hid HO.out
    clear HO hd
    go_wp2_with fail
    refine Hx.out.mono ?_
    rintro e w' ⟨rfl, rfl⟩
    clear Hx
    cases hsf : Lib.hasSuffix s.data.toList [76]
    · rw [hsf] at HO2
      have HO3 : Hid (out = (0, digits s.data.toList 65535)) := Lib.hid HO2.out
      clear HO2 hsf
      go_wp2_with fail
      refine (digits_is w s 65535 (by omega) (by omega) (by omega)).mono ?_
      rintro e w2 ⟨rfl, rfl⟩
      simp only [digV]
      generalize digits s.data.toList 65535 = o at *
      go_wp2
      go_ret3
      exact ⟨by rw [HO3.out]; rfl, Below.refl _ _⟩
    · rw [hsf] at HO2
      have HO3 : Hid (out = (2, digits (trimL s).data.toList 4294967295)) := Lib.hid HO2.out
      have htl := trimL_size s
      clear HO2 hsf
      go_wp2_with fail
      refine (digits_is w (trimL s) 4294967295 (by omega) (by omega) (by omega)).mono ?_
      rintro e w2 ⟨rfl, rfl⟩
      simp only [digV]
      generalize digits (trimL s).data.toList 4294967295 = o at *
      go_wp2
      go_ret3
      exact ⟨by rw [HO3.out]; rfl, Below.refl _ _⟩
  · rw [hd] at HO
    have HO2 : Hid (out = (1, (octs (splitS s 46 5)).map numOf)) := Lib.hid HO.out
    clear HO hd Hx
    go_wp2_with fail
    refine (rfour_is _ E s hs).mono ?_
    rintro e w1 ⟨rfl, hB⟩
    have HB := Lib.hid hB
    clear hB
    have hparts : ∃ l b, ipOf (octs (splitS s 46 5)) = .tuple #[.agg (ipc false l).toArray, .bool b] ∧ l.length = 16 ∧ Oct l ∧ out = (1, if b then some (numOf (l.take 4)) else none) ∧ (b = false → numOf (l.take 4) = 0) := by
      rw [HO2.out]
      cases ho : octs (splitS s 46 5) with
      | none => exact ⟨List.replicate 16 0, false, rfl, rfl, (fun x hx => by have := (List.mem_replicate.1 hx).2; omega), rfl, fun _ => rfl⟩
      | some ds =>
        have hb := octs_bd ho
        refine ⟨ds ++ List.replicate 12 0, true, rfl, by simp [hb.1], ?_, ?_, fun h => by cases h⟩
        · intro x hx
          rcases List.mem_append.1 hx with hx | hx
          · exact hb.2 x hx
          · have := (List.mem_replicate.1 hx).2; omega
        · rw [show (ds ++ List.replicate 12 (0 : Int)).take 4 = ds by rw [← hb.1, List.take_left]]; rfl
    obtain ⟨l, b, hip, hl, ho, hout, hz⟩ := hparts
    rw [hip]
    have HOut := Lib.hid hout
    have HZ := Lib.hid hz
    have HN := Lib.hid (Blk.setRow (Blk.new w1 24 zip16) (ipc false l).toArray)
    have hs1 := HB.out.size
    clear hip hout hz HO2
    go_wp2_with (first
      | (refine ip_store rfl _ _ rfl w1.heap.size false l hl rfl rfl 24 zip16 (Blk.new w1 24 zip16) rfl ?_)
      | (refine ip_fetch rfl _ rfl w1.heap.size 0 false l hl rfl HN.out.range ?_))
    refine (first4_is _ false l hl ho).mono ?_
    rintro e w2 ⟨rfl, hB2⟩
    have hnb := num4_bd l hl ho
    have HB2 : Hid (Below w.heap.size w w2) := Lib.hid (((HB.out.alloc hs1 _).trans (below_setRow _ w1.heap.size _ hs1)).trans (hB2.mono (by rw [size_sra]; omega)))
    clear hB2
    generalize numOf (l.take 4) = n at *
    go_wp2
    go_ret3
    refine ⟨?_, HB2.out⟩
    rw [HOut.out]
    cases b
    · rw [HZ.out rfl]; rfl
    · rfl

/-- A text as a distinguisher's bytes. -/
def rd3 (k : Int) (o p : Option Int) : Option (List Int) := match o, p with
  | some a, some b => some (rdB k (a * (most k + 1) + b))
  | _, _ => none
def rd2 (p : Int × Option Int) (t : List UInt8) : Option (List Int) := rd3 p.1 p.2 (digits t (most p.1))
def rdRd (s : ByteArray) : Option (List Int) := rd2 (rdFirst (cutS s [58]).1) (cutS s [58]).2.1.data.toList
def rdE (o : Option (List Int)) : Value := match o with
  | some l => .tuple #[.agg (u8s l).toArray, .int .i64 0]
  | none => .tuple #[.agg zr8, .int .i64 4]
def PRd (w : World) (o : Option (List Int)) (e : Ending) (w' : World) : Prop := e = .returned (rdE o) ∧ Below w.heap.size w w'
theorem rdFirst_bd (s : ByteArray) : (rdFirst s).1 = 0 ∧ (∀ n, (rdFirst s).2 = some n → 0 ≤ n ∧ n ≤ 65535) ∨ (1 ≤ (rdFirst s).1 ∧ (rdFirst s).1 ≤ 2) ∧ (∀ n, (rdFirst s).2 = some n → 0 ≤ n ∧ n ≤ 4294967295) := by
  unfold rdFirst
  split
  · refine .inr ⟨⟨by simp only []; omega, by simp only []; omega⟩, ?_⟩
    intro n h
    cases ho : octs (splitS s 46 5) with
    | none => rw [ho] at h; cases h
    | some ds =>
      rw [ho] at h
      have := octs_num ho
      cases h
      omega
  · split
    · refine .inr ⟨⟨by simp only []; omega, by simp only []; omega⟩, ?_⟩
      intro n h
      exact digits_lt _ _ _ h
    · refine .inl ⟨rfl, ?_⟩
      intro n h
      exact digits_lt _ _ _ h
theorem most_bd (k : Int) : 0 ≤ most k ∧ most k ≤ 4294967295 := by unfold most; split <;> omega
theorem fit_of (s : ByteArray) (t : List UInt8) (a b : Int) (ha : (rdFirst s).2 = some a) (hb : digits t (most (rdFirst s).1) = some b) : FitRd (rdFirst s).1 a b := by
  have h2 := digits_lt _ _ _ hb
  rcases rdFirst_bd s with ⟨h, h1⟩ | ⟨h, h1⟩
  · have := h1 a ha
    rw [h] at h2 ⊢
    have hm : most 0 = 4294967295 := rfl
    exact .inl ⟨rfl, by omega, by omega, by omega, by omega⟩
  · have := h1 a ha
    have hm : most (rdFirst s).1 = 65535 := by unfold most; rw [if_neg (by omega)]
    exact .inr ⟨by omega, by omega, by omega, by omega, by omega⟩
set_option maxHeartbeats 8000000 in
set_option maxRecDepth 100000 in
theorem prd_is (w : World) (E : Env w) (s : ByteArray) (hs : s.size < 4294967281) : Calls Tryd.prog 78 #[.string s] w (PRd w (rdRd s)) := by
  have HE := Lib.hid (E.alloc (.cells zr8 95))
  have HR := Lib.hid (Blk.new w 95 zr8)
  have HS := Lib.hid (cutS_size s [58])
  have HO : Hid (rdRd s = rd2 (rdFirst (cutS s [58]).1) (cutS s [58]).2.1.data.toList) := Lib.hid rfl
  generalize hX : rdRd s = out at *
  clear hX
  go_enter Tryd.func78, Tryd.ntmps78
  go_wp2_with fail
  refine (cut_call _ HE.out s ⟨#[58]⟩ hs).mono ?_
  rintro e w1 ⟨rfl, hB1, hsz⟩
  rw [show (w.alloc (.cells zr8 95)).heap.size = w.heap.size + 1 by simp] at *
  have HE1 := Lib.hid (HE.out.below (by rw [show (w.alloc (.cells zr8 95)).heap.size = w.heap.size + 1 by simp]; exact hB1))
  have HB1 : Hid (Below w.heap.size w w1) := Lib.hid (((Below.refl w.heap.size w).alloc (Nat.le_refl _) _).trans (hB1.mono (by omega)))
  have Hr := Lib.hid (HR.out.below hB1 (by omega))
  have hs1 : w.heap.size < w1.heap.size := by omega
  clear hB1 hsz HE HR
  generalize cutS s [58] = c at *
  obtain ⟨hd, tl, sh⟩ := c
  simp only at HS HO
  have hhd : hd.size < 4294967281 := by have := HS.out.1; omega
  have htl : tl.size < 4294967281 := by have := HS.out.2; omega
  go_wp2_with fail
  refine (rfst_is w1 HE1.out hd hhd).mono ?_
  rintro e w2 ⟨rfl, hB2⟩
  have HB2 := Lib.hid (HB1.out.trans (hB2.mono HB1.out.size))
  have Hr2 := Lib.hid (Hr.out.below hB2 hs1)
  have HFit : Hid (∀ a b, (rdFirst hd).2 = some a → digits tl.data.toList (most (rdFirst hd).1) = some b → FitRd (rdFirst hd).1 a b) := Lib.hid (fun a b => fit_of hd tl.data.toList a b)
  have HLe := Lib.hid hB2.size
  clear hB2 HB1 Hr
  simp only [fstV]
  generalize rdFirst hd = p at *
  obtain ⟨k, o⟩ := p
  simp only at HFit HO
  go_wp2_with fail
  refine (ml_is w2 k).mono ?_
  rintro e w' ⟨rfl, rfl⟩
  have hmb := most_bd k
  go_wp2_with fail
  refine (digits_is w2 tl (most k) (by omega) (by omega) (by omega)).mono ?_
  rintro e w' ⟨rfl, rfl⟩
  have HO2 : Hid (out = rd3 k o (digits tl.data.toList (most k))) := Lib.hid HO.out
  clear HO hmb
  simp only [digV]
  generalize digits tl.data.toList (most k) = o2 at *
  cases o with
  | none =>
    have HN : Hid (out = none) := Lib.hid (by rw [HO2.out]; rfl)
    clear HO2 HFit
    generalize o2.isSome = b2 at *
    generalize o2.getD 0 = n2 at *
    go_wp2_with (refine rd_store rfl _ _ rfl w.heap.size (List.replicate 8 0) rfl rfl rfl 95 zr8 Hr2.out rfl ?_)
    refine bodyPost_ret (v := rdE none) ?_ rfl ⟨by rw [HN.out], HB2.out.trans (below_setRow _ _ _ (Nat.le_refl _))⟩
    exact results_cell_slot rfl _ _ w.heap.size 95 _ _ _ rfl rfl (Blk.setRow Hr2.out _) Tryd.underlying95 rfl (by kernel_rfl)
  | some a =>
    cases o2 with
    | none =>
      have HN : Hid (out = none) := Lib.hid (by rw [HO2.out]; rfl)
      clear HO2 HFit
      go_wp2_with (refine rd_store rfl _ _ rfl w.heap.size (List.replicate 8 0) rfl rfl rfl 95 zr8 Hr2.out rfl ?_)
      refine bodyPost_ret (v := rdE none) ?_ rfl ⟨by rw [HN.out], HB2.out.trans (below_setRow _ _ _ (Nat.le_refl _))⟩
      exact results_cell_slot rfl _ _ w.heap.size 95 _ _ _ rfl rfl (Blk.setRow Hr2.out _) Tryd.underlying95 rfl (by kernel_rfl)
    | some b =>
      have HN : Hid (out = some (rdB k (a * (most k + 1) + b))) := Lib.hid (by rw [HO2.out]; rfl)
      have HFt := Lib.hid (HFit.out a b rfl rfl)
      have hs2 : w.heap.size < w2.heap.size := Nat.lt_of_lt_of_le hs1 HLe.out
      clear HO2 HFit
      go_wp2_with fail
      refine (mk_is w2 k a b HFt.out).mono ?_
      rintro e w3 ⟨rfl, hB3⟩
      have HB3 := Lib.hid (HB2.out.trans (hB3.mono (by omega)))
      have Hr3 := Lib.hid (Hr2.out.below hB3 hs2)
      have hl := rdB_len k (a * (most k + 1) + b)
      clear hB3
      generalize rdB k (a * (most k + 1) + b) = l at *
      go_wp2_with (refine rd_store rfl _ _ rfl w.heap.size l hl rfl rfl 95 zr8 Hr3.out rfl ?_)
      refine bodyPost_ret (v := rdE (some l)) ?_ rfl ⟨by rw [HN.out], HB3.out.trans (below_setRow _ _ _ (Nat.le_refl _))⟩
      exact results_cell_slot rfl _ _ w.heap.size 95 _ _ _ rfl rfl (Blk.setRow Hr3.out _) Tryd.underlying95 rfl (rd_size l hl)
end Go.Proofs.YtkaimdcepnhkdaaDoor
namespace Go.Proofs.YtkaimdcepnhkdaaDoor
open Go.RowKit
set_option linter.unusedSimpArgs false
set_option linter.unusedVariables false

def x1 : ByteArray := ⟨#[50, 48, 48, 49, 58, 48, 68, 66, 56, 58, 58, 48, 58, 49]⟩
def l1 : List Int := [32, 1, 13, 184, 0, 0, 0, 0, 0, 0, 0, 0, 0, 0, 0, 1]
theorem ev1 : rdIp x1 = some (true, l1) := by kernel_rfl
theorem ev2 : ipS true l1 = ⟨#[50, 48, 48, 49, 58, 100, 98, 56, 58, 58, 49]⟩ := by kernel_rfl
def l3 : List Int := [10, 1, 2, 3, 0, 0, 0, 0, 0, 0, 0, 0, 0, 0, 0, 0]
def l4 : List Int := [10, 0, 0, 0, 0, 0, 0, 0, 0, 0, 0, 0, 0, 0, 0, 0]
theorem ev3 : four 167838211 = l3 := by kernel_rfl
theorem ev4 : cutB false l3 8 = true := by kernel_rfl
theorem ev5 : firstBits l3 8 = l4 := by kernel_rfl
theorem ev6 : rightPfB false l4 8 = true := by kernel_rfl
theorem ev7 : pfS false l4 8 = ⟨#[49, 48, 46, 48, 46, 48, 46, 48, 47, 56]⟩ := by kernel_rfl
def x8 : ByteArray := ⟨#[49, 48, 46, 49, 46, 48, 46, 48, 47, 56]⟩
theorem ev8 : rdPf x8 = none := by kernel_rfl
def x9 : ByteArray := ⟨#[49, 48, 46, 48, 46, 48, 46, 49, 58, 49, 48, 48]⟩
def l9 : List Int := [0, 1, 10, 0, 0, 1, 0, 100]
theorem ev9 : rdRd x9 = some l9 := by kernel_rfl
theorem ev2r : rightB true l1 = true := rfl
theorem o1 : Oct l1 := by intro x h; simp [l1] at h; omega
theorem o3 : Oct l3 := by intro x h; simp [l3] at h; omega
theorem o4 : Oct l4 := by intro x h; simp [l4] at h; omega
theorem o9 : Oct l9 := by intro x h; simp [l9] at h; omega
theorem built9 : Tryd.prog.built 95 [(0, .int .u8 0), (1, .int .u8 1), (2, .int .u8 10), (3, .int .u8 0), (4, .int .u8 0), (5, .int .u8 1), (6, .int .u8 0), (7, .int .u8 100)] = some (u8s l9).toArray := by kernel_rfl
set_option maxHeartbeats 8000000 in
set_option maxRecDepth 100000 in
theorem alive_is (w : World) (E : Env w) : Calls Tryd.prog 25 #[] w fun e w' => e = .returned (.bool true) ∧ Below w.heap.size w w' := by
  have H1 : Hid (Calls Tryd.prog 13 #[.string ⟨#[50, 48, 48, 49, 58, 48, 68, 66, 56, 58, 58, 48, 58, 49]⟩] w fun e w' => e = .returned (.tuple #[.agg (ipc true l1).toArray, .int .i64 0]) ∧ Below w.heap.size w w') := Lib.hid ((pip_is w E x1 (by decide)).mono fun e w' h => by
    have := h.1; rw [ev1] at this; exact ⟨this, h.2⟩)
  go_enter Tryd.func25, Tryd.ntmps25
  go_wp2_with fail
  refine H1.out.mono ?_
  rintro e w1 ⟨rfl, hB1⟩
  clear H1
  have E1 := Lib.hid (E.below hB1)
  have HB1 : Hid (Below w.heap.size w ((w1.alloc (.cells zip16 24)).setRow w1.heap.size (ipc true l1).toArray)) := Lib.hid ((hB1.alloc hB1.size _).trans (below_setRow _ _ _ hB1.size))
  have E2 := Lib.hid (E.below HB1.out)
  have hz1 := hB1.size
  have HA := Lib.hid (Blk.setRow (Blk.new w1 24 zip16) (ipc true l1).toArray)
  clear hB1 E1
  go_wp2_with (first
    | (refine ip_store rfl _ _ rfl w1.heap.size true l1 rfl rfl rfl 24 zip16 (Blk.new w1 24 zip16) rfl ?_)
    | (refine ip_fetch rfl _ rfl w1.heap.size 0 true l1 rfl rfl HA.out.range ?_))
  refine (iptext_is _ E2.out true l1 rfl o1).mono ?_
  rintro e w2 ⟨hB2, he⟩
  rw [ev2r, if_pos rfl, ev2] at he
  subst he
  have HB2 : Hid (Below w.heap.size w w2) := Lib.hid (HB1.out.trans (hB2.mono (by rw [size_sra]; omega)))
  clear hB2 HB1 HA E2
  go_wp2_with fail
  refine (four_is w2 167838211 (by decide) (by decide)).mono ?_
  rintro e w3 ⟨rfl, hB3⟩
  rw [ev3]
  have HB3 : Hid (Below w.heap.size w w3) := Lib.hid (HB2.out.trans (hB3.mono HB2.out.size))
  clear hB3 HB2
  go_wp2_with fail
  refine (cut_is w3 false l3 8 rfl o3).mono ?_
  rintro e w4 ⟨hB4, he⟩
  rw [ev4, if_pos rfl, ev5] at he
  subst he
  have hB4 := HB3.out.trans (hB4.mono HB3.out.size)
  have HB4 : Hid (Below w.heap.size w ((w4.alloc (.cells noPf.toArray 40)).setRow w4.heap.size (pfc false l4 8).toArray)) := Lib.hid ((hB4.alloc hB4.size _).trans (below_setRow _ _ _ hB4.size))
  have E4 := Lib.hid (E.below HB4.out)
  have hz4 := hB4.size
  have HA := Lib.hid (Blk.setRow (Blk.new w4 40 noPf.toArray) (pfc false l4 8).toArray)
  clear hB4 HB3
  go_wp2_with (first
    | (refine pf_store rfl _ _ rfl w4.heap.size false l4 8 rfl rfl rfl 40 noPf.toArray (Blk.new w4 40 noPf.toArray) rfl ?_)
    | (refine pf_fetch rfl _ rfl w4.heap.size false l4 8 rfl rfl HA.out.range ?_))
  refine (pftext_is _ E4.out false l4 8 rfl o4 (by decide)).mono ?_
  rintro e w5 ⟨hB5, he⟩
  rw [ev6, if_pos rfl, ev7] at he
  subst he
  have HB5 : Hid (Below w.heap.size w w5) := Lib.hid (HB4.out.trans (hB5.mono (by rw [size_sra]; omega)))
  have E5 := Lib.hid (E.below HB5.out)
  clear hB5 HB4 HA E4
  have H6 : Hid (Calls Tryd.prog 30 #[.string ⟨#[49, 48, 46, 49, 46, 48, 46, 48, 47, 56]⟩] w5 fun e w' => e = .returned (.tuple #[.agg noPf.toArray, .int .i64 4]) ∧ Below w5.heap.size w5 w') := Lib.hid ((ppf_is w5 E5.out x8 (by decide)).mono fun e w' h => by
    have := h.1; rw [ev8] at this; exact ⟨this, h.2⟩)
  go_wp2_with fail
  refine H6.out.mono ?_
  rintro e w6 ⟨rfl, hB6⟩
  clear H6 E5
  have hB6 := HB5.out.trans (hB6.mono HB5.out.size)
  have HB6 : Hid (Below w.heap.size w ((w6.alloc (.cells noPf.toArray 40)).setRow w6.heap.size noPf.toArray)) := Lib.hid ((hB6.alloc hB6.size _).trans (below_setRow _ _ _ hB6.size))
  have E6 := Lib.hid (E.below HB6.out)
  have hz6 := hB6.size
  clear hB6 HB5
  have H7 : Hid (Calls Tryd.prog 78 #[.string ⟨#[49, 48, 46, 48, 46, 48, 46, 49, 58, 49, 48, 48]⟩] ((w6.alloc (.cells noPf.toArray 40)).setRow w6.heap.size noPf.toArray) fun e w' => e = .returned (.tuple #[.agg (u8s l9).toArray, .int .i64 0]) ∧ Below w.heap.size w w') := Lib.hid ((prd_is _ E6.out x9 (by decide)).mono fun e w' h => by
    have := h.1; rw [ev9] at this; exact ⟨this, HB6.out.trans (h.2.mono (by rw [size_sra]; omega))⟩)
  go_wp2_with (refine pf_store rfl _ _ rfl w6.heap.size false (List.replicate 16 0) 0 rfl rfl rfl 40 noPf.toArray (Blk.new w6 40 noPf.toArray) rfl ?_)
  refine H7.out.mono ?_
  rintro e w7 ⟨rfl, hB7⟩
  clear H7 E6 HB6
  have HB7 : Hid (Below w.heap.size w ((w7.alloc (.cells zr8 95)).setRow w7.heap.size (u8s l9).toArray)) := Lib.hid ((hB7.alloc hB7.size _).trans (below_setRow _ _ _ hB7.size))
  have HA := Lib.hid (Blk.setRow (Blk.new w7 95 zr8) (u8s l9).toArray)
  have HQ : ∀ w, (binOp .eql 95 (.agg (u8s l9).toArray) (.agg #[.int .u8 0, .int .u8 1, .int .u8 10, .int .u8 0, .int .u8 0, .int .u8 1, .int .u8 0, .int .u8 100])).run Tryd.prog w = .ok (.bool true) w := fun w => run_eql_u8s (P := Tryd.prog) (t := 95) (e := 5) (n := 8) (by kernel_rfl) Tryd.underlying95 Tryd.underlying5 (by kernel_rfl) (by kernel_rfl) l9 l9 rfl rfl o9 o9 true (by decide) w
  go_wp2_with (first
    | (refine rd_store rfl _ _ rfl w7.heap.size l9 rfl rfl rfl 95 zr8 (Blk.new w7 95 zr8) rfl ?_)
    | (refine rd_fetch rfl _ rfl w7.heap.size l9 rfl rfl HA.out.range ?_))
  go_ret
  exact ⟨rfl, HB7.out⟩
end Go.Proofs.YtkaimdcepnhkdaaDoor
namespace Go.Proofs.YtkaimdcepnhkdaaDoor
open Go.RowKit
set_option linter.unusedSimpArgs false
set_option linter.unusedVariables false

theorem ipc_at' (v : Bool) (l : List Int) (i : Nat) (hi : i < l.length) : (ipc v l).toArray[1 + i]? = some (.int .u8 (l.getD i 0)) := by
  rw [Nat.add_comm]; simp [List.getD, hi]
/-- Two lists held against each other, number by number. -/
def cmpI : List Int → List Int → Int
  | [], [] => 0
  | [], _ :: _ => -1
  | _ :: _, [] => 1
  | a :: s, b :: t => if a < b then -1 else if b < a then 1 else cmpI s t
theorem u8_lt (x y : Int) (hx : 0 ≤ x ∧ x < 256) (hy : 0 ≤ y ∧ y < 256) : (x.toNat.toUInt8 < y.toNat.toUInt8) ↔ x < y := by
  rw [UInt8.lt_iff_toNat_lt]
  simp only [Nat.toUInt8_eq, UInt8.toNat_ofNat']
  omega
theorem cmpI_eq : ∀ (xs ys : List Int), Oct xs → Oct ys → Lib.compareBytes (Lib.bytesOf xs) (Lib.bytesOf ys) = cmpI xs ys
  | [], [], _, _ => rfl
  | [], _ :: _, _, _ => rfl
  | _ :: _, [], _, _ => rfl
  | x :: xs, y :: ys, hx, hy => by
    have h1 := u8_lt x y (hx x List.mem_cons_self) (hy y List.mem_cons_self)
    have h2 := u8_lt y x (hy y List.mem_cons_self) (hx x List.mem_cons_self)
    have ih := cmpI_eq xs ys (fun z hz => hx z (List.mem_cons_of_mem _ hz)) (fun z hz => hy z (List.mem_cons_of_mem _ hz))
    show (if x.toNat.toUInt8 < y.toNat.toUInt8 then -1 else if y.toNat.toUInt8 < x.toNat.toUInt8 then 1 else Lib.compareBytes (Lib.bytesOf xs) (Lib.bytesOf ys)) = _
    rw [ih]
    simp only [h1, h2, cmpI]
theorem cmpI_range : ∀ xs ys, cmpI xs ys = -1 ∨ cmpI xs ys = 0 ∨ cmpI xs ys = 1
  | [], [] => .inr (.inl rfl)
  | [], _ :: _ => .inl rfl
  | _ :: _, [] => .inr (.inr rfl)
  | x :: xs, y :: ys => by
    unfold cmpI
    split
    · exact .inl rfl
    · split
      · exact .inr (.inr rfl)
      · exact cmpI_range xs ys
theorem cmpI_swap : ∀ xs ys, cmpI ys xs = - cmpI xs ys
  | [], [] => rfl
  | [], _ :: _ => rfl
  | _ :: _, [] => rfl
  | x :: xs, y :: ys => by
    have := cmpI_swap xs ys
    unfold cmpI
    by_cases h1 : x < y
    · rw [if_pos h1, if_neg (by omega), if_pos h1]; rfl
    · by_cases h2 : y < x
      · rw [if_pos h2, if_neg h1, if_pos h2]
      · rw [if_neg h2, if_neg h1, if_neg h1, if_neg h2]; exact this
theorem cmpI_zero : ∀ xs ys, cmpI xs ys = 0 ↔ xs = ys
  | [], [] => by simp [cmpI]
  | [], _ :: _ => by simp [cmpI]
  | _ :: _, [] => by simp [cmpI]
  | x :: xs, y :: ys => by
    have := cmpI_zero xs ys
    unfold cmpI
    by_cases h1 : x < y
    · rw [if_pos h1]; simp; omega
    · by_cases h2 : y < x
      · rw [if_neg h1, if_pos h2]; simp; omega
      · rw [if_neg h1, if_neg h2, this]
        simp; omega
theorem cmpI_trans : ∀ xs ys zs, cmpI xs ys ≤ 0 → cmpI ys zs ≤ 0 → cmpI xs zs ≤ 0
  | [], [], [], _, _ => by simp [cmpI]
  | [], [], _ :: _, _, _ => by simp [cmpI]
  | [], _ :: _, [], _, _ => by simp [cmpI]
  | [], _ :: _, _ :: _, _, _ => by simp [cmpI]
  | _ :: _, [], _, h, _ => absurd h (by simp [cmpI])
  | _ :: _, _ :: _, [], _, h => absurd h (by simp [cmpI])
  | x :: xs, y :: ys, z :: zs, h1, h2 => by
    have ih := cmpI_trans xs ys zs
    unfold cmpI at h1 h2 ⊢
    by_cases a : x < y
    · by_cases b : y < z
      · rw [if_pos (by omega)]; decide
      · by_cases c : z < y
        · rw [if_neg b, if_pos c] at h2; exact absurd h2 (by decide)
        · rw [if_pos (by omega)]; decide
    · by_cases d : y < x
      · rw [if_neg a, if_pos d] at h1; exact absurd h1 (by decide)
      · rw [if_neg a, if_neg d] at h1
        by_cases b : y < z
        · rw [if_pos (by omega)]; decide
        · by_cases c : z < y
          · rw [if_neg b, if_pos c] at h2; exact absurd h2 (by decide)
          · rw [if_neg b, if_neg c] at h2
            rw [if_neg (by omega), if_neg (by omega)]
            exact ih h1 h2
/-- The order of addresses. -/
def cmpIp (va : Bool) (la : List Int) (vb : Bool) (lb : List Int) : Int := if va = vb then cmpI la lb else if vb then -1 else 1
theorem ord_range (va : Bool) (la : List Int) (vb : Bool) (lb : List Int) : -1 ≤ cmpIp va la vb lb ∧ cmpIp va la vb lb ≤ 1 := by
  unfold cmpIp
  have := cmpI_range la lb
  split
  · omega
  · split <;> omega
theorem ord_swap (va : Bool) (la : List Int) (vb : Bool) (lb : List Int) : cmpIp vb lb va la = - cmpIp va la vb lb := by
  unfold cmpIp
  cases va <;> cases vb <;> simp [cmpI_swap la lb]
theorem ord_zero (va : Bool) (la : List Int) (vb : Bool) (lb : List Int) : cmpIp va la vb lb = 0 ↔ va = vb ∧ la = lb := by
  unfold cmpIp
  cases va <;> cases vb <;> simp [cmpI_zero la lb]
theorem ord_trans (va : Bool) (la : List Int) (vb : Bool) (lb : List Int) (vc : Bool) (lc : List Int) (h1 : cmpIp va la vb lb ≤ 0) (h2 : cmpIp vb lb vc lc ≤ 0) : cmpIp va la vc lc ≤ 0 := by
  unfold cmpIp at *
  cases va <;> cases vb <;> cases vc <;> simp at * <;> exact cmpI_trans la lb lc h1 h2
theorem ord_down (va : Bool) (la : List Int) (vb : Bool) (lb : List Int) (vc : Bool) (lc : List Int) (h1 : 0 ≤ cmpIp va la vb lb) (h2 : 0 ≤ cmpIp vb lb vc lc) : 0 ≤ cmpIp va la vc lc := by
  have e1 := ord_swap va la vb lb
  have e2 := ord_swap vb lb vc lc
  have e3 := ord_swap va la vc lc
  have := ord_trans vc lc vb lb va la (by omega) (by omega)
  omega
theorem cmpI_same : ∀ l, cmpI l l = 0 := fun l => (cmpI_zero l l).2 rfl
theorem ord_four (n k : Int) (hn : 0 ≤ n ∧ n ≤ 4294967295) (hk : 0 ≤ k ∧ k ≤ 4294967295) : cmpIp false (four n) false (four k) < 0 ↔ n < k := by
  unfold cmpIp four
  rw [if_pos rfl]
  simp only [List.cons_append, List.nil_append, cmpI, cmpI_same]
  split
  · constructor <;> intro _ <;> omega
  · split
    · constructor <;> intro _ <;> omega
    · split
      · constructor <;> intro _ <;> omega
      · split
        · constructor <;> intro _ <;> omega
        · split
          · constructor <;> intro _ <;> omega
          · split
            · constructor <;> intro _ <;> omega
            · split
              · constructor <;> intro _ <;> omega
              · split
                · constructor <;> intro _ <;> omega
                · constructor <;> intro _ <;> omega

theorem run_cmp (P : Program) (w : World) (b1 o1 c1 b2 o2 c2 n : Nat) (xs ys : List Int) (hx : xs.length = n) (hy : ys.length = n) (ox : Oct xs) (oy : Oct ys)
    (h1 : ∀ i, i < n → w.cell? ⟨b1, o1 + i, none⟩ = some (.int .u8 (xs.getD i 0))) (h2 : ∀ i, i < n → w.cell? ⟨b2, o2 + i, none⟩ = some (.int .u8 (ys.getD i 0))) :
    (Extern.BytealgCompare.compare #[.slice (some ⟨b1, o1, none⟩) n c1, .slice (some ⟨b2, o2, none⟩) n c2]).run P w = .ok (.int .i64 (cmpI xs ys)) w := by
  have key : ∀ (b o : Nat) (zs : List Int), zs.length = n → (∀ i, i < n → w.cell? ⟨b, o + i, none⟩ = some (.int .u8 (zs.getD i 0))) → (Extern.Bytes.loadBytes ⟨b, o, none⟩ n .empty).run P w = .ok ⟨(Lib.bytesOf zs).toArray⟩ w := by
    intro b o zs hz hc
    have hl := Lib.run_loadBytesX (P := P) w zs ⟨b, o, none⟩ .empty (fun j x hj => by
      have hjl : j < zs.length := (List.getElem?_eq_some_iff.1 hj).1
      have e : (⟨b, o, none⟩ : Addr).add j = ⟨b, o + j, none⟩ := by unfold Addr.add; split <;> simp_all
      rw [e, hc j (by omega), List.getD_eq_getElem?_getD, hj]
      rfl)
    rw [hz] at hl
    have he : (⟨ByteArray.empty.data ++ (Lib.bytesOf zs).toArray⟩ : ByteArray) = ⟨(Lib.bytesOf zs).toArray⟩ := by
      apply ByteArray.ext
      show (#[] : Array UInt8) ++ (Lib.bytesOf zs).toArray = (Lib.bytesOf zs).toArray
      simp
    rw [he] at hl
    exact hl
  change Sem.run P (do pure (goInt (Extern.BytealgCompare.cmp (← Extern.Bytes.bytesOf (.slice (some ⟨b1, o1, none⟩) n c1)) (← Extern.Bytes.bytesOf (.slice (some ⟨b2, o2, none⟩) n c2))))) w = _
  simp only [Extern.Bytes.bytesOf, Sem.run_bind, Sem.run_pure, key b1 o1 xs hx h1, key b2 o2 ys hy h2, Result.andThen]
  rw [Lib.cmp_eq, ← cmpI_eq xs ys ox oy]
  rfl
set_option maxHeartbeats 1000000 in
set_option maxRecDepth 100000 in
theorem bc_is (w : World) (b1 o1 c1 b2 o2 c2 n : Nat) (xs ys : List Int) (hx : xs.length = n) (hy : ys.length = n) (ox : Oct xs) (oy : Oct ys)
    (h1 : ∀ i, i < n → w.cell? ⟨b1, o1 + i, none⟩ = some (.int .u8 (xs.getD i 0))) (h2 : ∀ i, i < n → w.cell? ⟨b2, o2 + i, none⟩ = some (.int .u8 (ys.getD i 0))) :
    Calls Tryd.prog 77 #[.slice (some ⟨b1, o1, none⟩) n c1, .slice (some ⟨b2, o2, none⟩) n c2] w fun e w' => e = .returned (.int .i64 (cmpI xs ys)) ∧ w' = w := by
  have HR := Lib.hid (run_cmp Tryd.prog w b1 o1 c1 b2 o2 c2 n xs ys hx hy ox oy h1 h2)
  clear h1 h2
  go_enter Tryd.func77, Tryd.ntmps77
  go_wp2
  rw [run_callFunc_extern Tryd.func118 (by kernel_rfl) (by kernel_rfl) (by kernel_rfl) (e := Extern.BytealgCompare.compare) (by kernel_rfl), HR.out]
  simp only [Result.andThen]
  rw [Oper.upon_value]
  go_wp2
  go_ret
  exact ⟨rfl, rfl⟩
set_option maxHeartbeats 2000000 in
set_option maxRecDepth 100000 in
theorem cmp_same (w : World) (v : Bool) (la lb : List Int) (ha : la.length = 16) (hb : lb.length = 16) (oa : Oct la) (ob : Oct lb) :
    Calls Tryd.prog 23 #[.agg (ipc v la).toArray, .agg (ipc v lb).toArray] w fun e w' => e = .returned (.int .i64 (cmpI la lb)) ∧ Below w.heap.size w w' := by
  have hA := (Blk.new w 24 (ipc v la).toArray).alloc (.cells (ipc v lb).toArray 24)
  have hB := Blk.new (w.alloc (.cells (ipc v la).toArray 24)) 24 (ipc v lb).toArray
  rw [show (w.alloc (.cells (ipc v la).toArray 24)).heap.size = w.heap.size + 1 by simp] at hB
  have ca : ((w.alloc (.cells (ipc v la).toArray 24)).alloc (.cells (ipc v lb).toArray 24)).cell? ⟨w.heap.size, 0, none⟩ = some (.bool v) := hA.cell 0
  have cb : ((w.alloc (.cells (ipc v la).toArray 24)).alloc (.cells (ipc v lb).toArray 24)).cell? ⟨w.heap.size + 1, 0, none⟩ = some (.bool v) := hB.cell 0
  have HA := Lib.hid hA
  have HB := Lib.hid hB
  clear hA hB
  go_enter Tryd.func23, Tryd.ntmps23
  go_wp2
  clear ca cb
  refine wp_region_held_drew (S := fun w' => Blk w' w.heap.size 24 (ipc v la).toArray ∧ Blk w' (w.heap.size + 1) 24 (ipc v lb).toArray ∧ Below w.heap.size w w') (by kernel_rfl) (⟨HA.out, HB.out, below_drewN (((Below.refl w.heap.size w).alloc (Nat.le_refl _) _).alloc (by simp) _) 1⟩) (fun hS => ?_)
  refine wpAnyH_take (i := 0) (oi := ⟨some 12, _, _, _, _, _⟩) (v := ?_) rfl (by kernel_rfl) (by kernel_rfl) (by kernel_rfl) (fun _ _ _ h => h) (Or.inl ⟨by rfl, ?_⟩) hS ?_
  rotate_left
  · intro wq hq
    first | (go_simp; done) | (go_simp; rfl)
  try simp only [Act.put, List.setIfInBounds_toArray, List.set_cons_zero, List.set_cons_succ]
  refine wpAnyH_take (i := 1) (oi := ⟨some 13, _, _, _, _, _⟩) (v := ?_) rfl (by kernel_rfl) (by kernel_rfl) (by kernel_rfl) (fun _ _ _ h => h) (Or.inl ⟨by rfl, ?_⟩) hS ?_
  rotate_left
  · intro wq hq
    first | (go_simp; done) | (go_simp; rfl)
  try simp only [Act.put, List.setIfInBounds_toArray, List.set_cons_zero, List.set_cons_succ]
  refine wpAnyH_take (i := 2) (oi := ⟨some 14, _, _, _, _, _⟩) (v := ?_) rfl (by kernel_rfl) (by kernel_rfl) (by kernel_rfl) (fun _ _ _ h => h) (Or.inl ⟨by rfl, ?_⟩) hS ?_
  rotate_left
  · intro wq hq
    first | (go_simp; done) | (go_simp; rfl)
  try simp only [Act.put, List.setIfInBounds_toArray, List.set_cons_zero, List.set_cons_succ]
  refine wpAnyH_take (i := 3) (oi := ⟨some 15, _, _, _, _, _⟩) (v := ?_) rfl (by kernel_rfl) (by kernel_rfl) (by kernel_rfl) (fun _ _ _ h => h) (Or.inl ⟨by rfl, ?_⟩) hS ?_
  rotate_left
  · intro wq hq
    first | (go_simp; done) | (go_simp; rfl)
  try simp only [Act.put, List.setIfInBounds_toArray, List.set_cons_zero, List.set_cons_succ]
  refine wpAnyH_ready (rs := [4]) (by kernel_rfl) (by simp) ?_
  refine AllReadyH.cons (o := ⟨some 16, _, _, _, _, _⟩) rfl (fun K hK => ?_) AllReadyH.nil
  rw [if_pos (by rfl)]
  go_wp2_with fail
  refine (bc_is _ w.heap.size 1 16 (w.heap.size + 1) 1 16 16 la lb ha hb oa ob (fun i hi => by rw [hS.1.cell]; exact ipc_at' _ _ _ (by omega)) (fun i hi => by rw [hS.2.1.cell]; exact ipc_at' _ _ _ (by omega))).mono ?_
  rintro e w1 ⟨rfl, rfl⟩
  have hS1 := hS
  refine hK.out _ _ (hS1) (fun hS => ?_)
  clear hK K
  try simp only [Act.put, List.setIfInBounds_toArray, List.set_cons_zero, List.set_cons_succ]
  refine wpAnyH_take (i := 5) (oi := ⟨some 4, _, _, _, _, _⟩) (v := ?_) rfl (by kernel_rfl) (by kernel_rfl) (by kernel_rfl) (fun _ _ _ h => h) (Or.inl ⟨by rfl, ?_⟩) hS ?_
  rotate_left
  · intro wq hq
    first | (go_simp; done) | (go_simp; rfl)
  try simp only [Act.put, List.setIfInBounds_toArray, List.set_cons_zero, List.set_cons_succ]
  refine wpAnyH_done (by kernel_rfl) ?_ _
  go_wp2
  go_ret
  exact ⟨rfl, hS.2.2⟩
set_option maxHeartbeats 2000000 in
set_option maxRecDepth 100000 in
theorem cmp_is (w : World) (va : Bool) (la : List Int) (vb : Bool) (lb : List Int) (ha : la.length = 16) (oa : Oct la) (hb : lb.length = 16) (ob : Oct lb) :
    Calls Tryd.prog 23 #[.agg (ipc va la).toArray, .agg (ipc vb lb).toArray] w fun e w' => e = .returned (.int .i64 (cmpIp va la vb lb)) ∧ Below w.heap.size w w' := by
  by_cases h : va = vb
  · subst h
    have := cmp_same w va la lb ha hb oa ob
    unfold cmpIp
    rw [if_pos rfl]
    exact this
  · have hA := (Blk.new w 24 (ipc va la).toArray).alloc (.cells (ipc vb lb).toArray 24)
    have hB := Blk.new (w.alloc (.cells (ipc va la).toArray 24)) 24 (ipc vb lb).toArray
    rw [show (w.alloc (.cells (ipc va la).toArray 24)).heap.size = w.heap.size + 1 by simp] at hB
    have ca : ((w.alloc (.cells (ipc va la).toArray 24)).alloc (.cells (ipc vb lb).toArray 24)).cell? ⟨w.heap.size, 0, none⟩ = some (.bool va) := hA.cell 0
    have cb : ((w.alloc (.cells (ipc va la).toArray 24)).alloc (.cells (ipc vb lb).toArray 24)).cell? ⟨w.heap.size + 1, 0, none⟩ = some (.bool vb) := hB.cell 0
    have HO : Hid (cmpIp va la vb lb = if vb then -1 else 1) := Lib.hid (by unfold cmpIp; rw [if_neg h])
    have HL : Hid (Below w.heap.size w ((w.alloc (.cells (ipc va la).toArray 24)).alloc (.cells (ipc vb lb).toArray 24))) := Lib.hid (((Below.refl w.heap.size w).alloc (Nat.le_refl _) _).alloc (by simp) _)
    clear hA hB
    generalize cmpIp va la vb lb = out at *
    cases va <;> cases vb
    · exact absurd rfl h
    · clear h
      go_enter Tryd.func23, Tryd.ntmps23
      go_wp2
      go_ret
      exact ⟨by rw [HO.out]; rfl, HL.out⟩
    · clear h
      go_enter Tryd.func23, Tryd.ntmps23
      go_wp2
      go_ret
      exact ⟨by rw [HO.out]; rfl, HL.out⟩
    · exact absurd rfl h
end Go.Proofs.YtkaimdcepnhkdaaDoor
namespace Go.Proofs.YtkaimdcepnhkdaaDoor
open Go.RowKit
set_option linter.unusedSimpArgs false
set_option linter.unusedVariables false

set_option maxHeartbeats 1000000 in
theorem digit_is (w : World) (c : Int) (h0 : 0 ≤ c) (h1 : c < 256) :
    Calls Tryd.prog 137 #[.int .u8 c] w fun e w' => e = .returned (.int .i64 ((hexD c).getD (-1))) ∧ w = w' := by
  have hcases : (48 ≤ c ∧ c ≤ 57 ∧ hexD c = some (c - 48)) ∨ (97 ≤ c ∧ c ≤ 102 ∧ hexD c = some (c - 87)) ∨ (65 ≤ c ∧ c ≤ 70 ∧ hexD c = some (c - 55)) ∨ (¬ (48 ≤ c ∧ c ≤ 57) ∧ ¬ (97 ≤ c ∧ c ≤ 102) ∧ ¬ (65 ≤ c ∧ c ≤ 70) ∧ hexD c = none) := by
    unfold hexD
    by_cases a : 48 ≤ c ∧ c ≤ 57
    · exact .inl ⟨a.1, a.2, if_pos a⟩
    · rw [if_neg a]
      by_cases b : 97 ≤ c ∧ c ≤ 102
      · exact .inr (.inl ⟨b.1, b.2, if_pos b⟩)
      · rw [if_neg b]
        by_cases d : 65 ≤ c ∧ c ≤ 70
        · exact .inr (.inr (.inl ⟨d.1, d.2, if_pos d⟩))
        · exact .inr (.inr (.inr ⟨a, b, d, if_neg d⟩))
  rcases hcases with ⟨a, b, h⟩ | ⟨a, b, h⟩ | ⟨a, b, h⟩ | ⟨a, b, d, h⟩
  · have H := Lib.hid h
    clear h
    go_enter Tryd.func137, Tryd.ntmps137
    go_wp2
    go_ret
    exact ⟨by rw [H.out]; rfl, rfl⟩
  · have H := Lib.hid h
    have n1 : ¬ c ≤ 57 := by omega
    clear h
    go_enter Tryd.func137, Tryd.ntmps137
    go_wp2
    go_ret
    refine ⟨?_, rfl⟩
    rw [H.out]
    refine congrArg (fun z => Ending.returned (Value.int IntKind.i64 z)) ?_
    show _ = c - 87
    omega
  · have H := Lib.hid h
    have n1 : ¬ c ≤ 57 := by omega
    have n2 : ¬ c ≥ 97 := by omega
    clear h
    go_enter Tryd.func137, Tryd.ntmps137
    go_wp2
    go_ret
    refine ⟨?_, rfl⟩
    rw [H.out]
    refine congrArg (fun z => Ending.returned (Value.int IntKind.i64 z)) ?_
    show _ = c - 55
    omega
  · have H := Lib.hid h
    clear h
    have e1 : (c < 48) ∨ (57 < c ∧ c < 65) ∨ (70 < c ∧ c < 97) ∨ 102 < c := by omega
    rcases e1 with e | e | e | e
    all_goals
      clear a b d
      go_enter Tryd.func137, Tryd.ntmps137
      go_wp2
      go_ret
      exact ⟨by rw [H.out]; rfl, rfl⟩
theorem letter_is (w : World) (n : Int) (h0 : 0 ≤ n) (h1 : n < 16) :
    Calls Tryd.prog 112 #[.int .i64 n] w fun e w' => e = .returned (.int .u8 (hexI n)) ∧ w = w' := by
  by_cases h : n < 10
  · have H : Hid (hexI n = 48 + n) := Lib.hid (by unfold hexI; rw [if_pos h])
    go_enter Tryd.func112, Tryd.ntmps112
    go_wp2
    go_ret
    refine ⟨?_, rfl⟩
    rw [H.out]
    rfl
  · have H : Hid (hexI n = 87 + n) := Lib.hid (by unfold hexI; rw [if_neg h])
    go_enter Tryd.func112, Tryd.ntmps112
    go_wp2
    go_ret
    refine ⟨?_, rfl⟩
    rw [H.out]
    refine congrArg (fun z => Ending.returned (Value.int IntKind.u8 z)) ?_
    omega
/-- The byte at i, as a number. -/
def at8 (s : ByteArray) (i : Nat) : Int := ((s.data.toList.getD i 0).toNat : Int)
theorem at8_get (s : ByteArray) (i : Nat) (h : i < s.size) : at8 s i = (s[i].toNat : Int) := by
  unfold at8
  rw [List.getD_eq_getElem?_getD, List.getElem?_eq_getElem (by simpa using h)]
  rfl
def both (a b : Option Int) : Option Int := match a, b with
  | some h, some l => some (16 * h + l)
  | _, _ => none
def pairAt (s : ByteArray) (i : Nat) : Option Int := if 0 < i ∧ at8 s (3 * i - 1) ≠ 58 then none else both (hexD (at8 s (3 * i))) (hexD (at8 s (3 * i + 1)))
def prTo (s : ByteArray) : Nat → Option (List Int)
  | 0 => some []
  | k + 1 => (prTo s k).bind fun l => (pairAt s k).map fun x => l ++ [x]
def prs (s : ByteArray) (n : Nat) : Option (List Int) := if s.size + 1 = 3 * n then prTo s n else none
theorem prTo_len (s : ByteArray) : ∀ k l, prTo s k = some l → l.length = k
  | 0, l, h => by cases h; rfl
  | k + 1, l, h => by
    unfold prTo at h
    cases h1 : prTo s k with
    | none => rw [h1] at h; cases h
    | some l1 =>
      rw [h1] at h
      cases h2 : pairAt s k with
      | none => rw [h2] at h; cases h
      | some x => rw [h2] at h; cases h; simp [prTo_len s k l1 h1]
theorem both_bd {a b : Int} {x : Int} (h : both (hexD a) (hexD b) = some x) : 0 ≤ x ∧ x < 256 := by
  cases h1 : hexD a with
  | none => rw [h1] at h; cases h
  | some p =>
    cases h2 : hexD b with
    | none => rw [h1, h2] at h; cases h
    | some q =>
      rw [h1, h2] at h
      have := hexD_bd h1
      have := hexD_bd h2
      cases h
      omega
theorem pairAt_bd {s : ByteArray} {i : Nat} {x : Int} (h : pairAt s i = some x) : 0 ≤ x ∧ x < 256 := by
  unfold pairAt at h
  split at h
  · cases h
  · exact both_bd h
theorem prTo_oct (s : ByteArray) : ∀ k l, prTo s k = some l → Oct l
  | 0, l, h => by cases h; intro x hx; cases hx
  | k + 1, l, h => by
    unfold prTo at h
    cases h1 : prTo s k with
    | none => rw [h1] at h; cases h
    | some l1 =>
      rw [h1] at h
      cases h2 : pairAt s k with
      | none => rw [h2] at h; cases h
      | some x =>
        rw [h2] at h
        cases h
        intro y hy
        rcases List.mem_append.1 hy with hy | hy
        · exact prTo_oct s k l1 h1 y hy
        · rw [List.mem_singleton] at hy
          subst hy
          exact pairAt_bd h2
theorem prTo_none (s : ByteArray) (k : Nat) (h : prTo s k = none) : ∀ m, k ≤ m → prTo s m = none
  | 0, hm => by obtain rfl : k = 0 := by omega
                exact h
  | m + 1, hm => by
    rcases Nat.lt_or_ge k (m + 1) with h1 | h1
    · unfold prTo; rw [prTo_none s k h m (by omega)]; rfl
    · obtain rfl : k = m + 1 := by omega
      exact h
theorem prTo_fail (s : ByteArray) (k n : Nat) (hk : k < n) (h : pairAt s k = none) : prTo s n = none :=
  prTo_none s (k + 1) (by unfold prTo; rw [h]; cases prTo s k <;> rfl) n hk
theorem or8_all : ∀ h l : Fin 16, bits .or .u8 ((h.val : Int) * 16) (l.val : Int) = 16 * (h.val : Int) + (l.val : Int) := by decide +kernel
theorem or8 (h l : Int) (h0 : 0 ≤ h) (h1 : h < 16) (l0 : 0 ≤ l) (l1 : l < 16) : bits .or .u8 (h * 16) l = 16 * h + l := by
  have := or8_all ⟨h.toNat, by omega⟩ ⟨l.toNat, by omega⟩
  simpa [Int.toNat_of_nonneg h0, Int.toNat_of_nonneg l0] using this
theorem cell_mid (ds : List Int) (n k : Nat) (hd : ds.length = k) (hk : k < n) : (u8s (ds ++ List.replicate (n - k) 0)).toArray[k]? = some (.int .u8 0) := by
  rw [show n - k = (n - (k + 1)) + 1 by omega, List.replicate_succ]
  subst hd
  simp
theorem set_mid (ds : List Int) (n k : Nat) (x : Int) (hd : ds.length = k) (hk : k < n) : (u8s (ds ++ List.replicate (n - k) 0)).toArray.setIfInBounds k (.int .u8 x) = (u8s ((ds ++ [x]) ++ List.replicate (n - (k + 1)) 0)).toArray := by
  rw [show n - k = (n - (k + 1)) + 1 by omega, List.replicate_succ]
  subst hd
  simp [List.set_append]
def RP (w : World) (g : Nat) (t : TypeId) (o : Option (List Int)) (e : Ending) (w' : World) : Prop := e = .returned (.bool o.isSome) ∧ (∀ l, o = some l → Blk w' g t (u8s l).toArray) ∧ Below g w w'
end Go.Proofs.YtkaimdcepnhkdaaDoor
namespace Go.Proofs.YtkaimdcepnhkdaaDoor
open Go.RowKit
set_option linter.unusedSimpArgs false
set_option linter.unusedVariables false

theorem prs_bd {s : ByteArray} {n : Nat} {l : List Int} (h : prs s n = some l) : l.length = n ∧ Oct l := by
  unfold prs at h
  split at h
  · exact ⟨prTo_len s n l h, prTo_oct s n l h⟩
  · cases h
/-- What a reader of names hands back. -/
def namE (n : Nat) (o : Option (List Int)) : Value := match o with
  | some l => .tuple #[.agg (u8s l).toArray, .int .i64 0]
  | none => .tuple #[.agg (u8s (List.replicate n 0)).toArray, .int .i64 4]
def Nam (w : World) (n : Nat) (o : Option (List Int)) (e : Ending) (w' : World) : Prop := e = .returned (namE n o) ∧ Below w.heap.size w w'

abbrev zmac : Array Value := #[Value.int .u8 0, Value.int .u8 0, Value.int .u8 0, Value.int .u8 0, Value.int .u8 0, Value.int .u8 0]
theorem mac_size (l : List Int) (hl : l.length = 6) : (Tryd.prog.info? 49).map (·.size) = some (u8s l).toArray.size := by
  have : (Tryd.prog.info? 49).map (·.size) = some 6 := by kernel_rfl
  rw [this]; simp [hl]
theorem mac_fetch {ops : Array Oper} {rest : List Oper} {op : Oper} {a : Act} {w : World} {Q : Exit → Act → World → Prop} (hw : Region.wanted op (yielded ops a.tmps) = true) (x : Operand) (ho : op.op = .load 49 x) (b : Nat) (l : List Int) (hl : l.length = 6)
    (hx : a.eval x = .pointer (some ⟨b, 0, none⟩)) (hc : w.rangeAt b 0 (u8s l)) (h : wpList Tryd.prog ops Q rest (a.put op.dst (.agg (u8s l).toArray)) w) : wpList Tryd.prog ops Q (op :: rest) a w :=
  BigFrame.wpList_want hw fun _ hK => wp_load_mid 49 x ho b 0 hx (u8s l) _ hc Tryd.underlying49 rfl (by simpa using mac_size l hl) (hK _ _ h)
theorem mac_store {ops : Array Oper} {rest : List Oper} {o : Oper} {a : Act} {w : World} {Q : Exit → Act → World → Prop} (hgd : o.guard = none) (x y : Operand) (ho : o.op = .store 49 x y) (g : Nat) (l : List Int) (hl : l.length = 6)
    (hx : a.eval x = .pointer (some ⟨g, 0, none⟩)) (hy : a.eval y = .agg (u8s l).toArray) (t : TypeId) (old : Array Value) (hg : Blk w g t old) (hold : old.size = 6)
    (h : wpList Tryd.prog ops Q rest (a.put o.dst undef) (w.setRow g (u8s l).toArray)) : wpList Tryd.prog ops Q (o :: rest) a w :=
  wpList_store_row hgd 49 x y ho g _ hx hy t old hg (mac_size l hl) (by rw [hold]; simp [hl]) (all_oneCell_toArray (u8s_one l)) h
abbrev zesi : Array Value := #[Value.int .u8 0, Value.int .u8 0, Value.int .u8 0, Value.int .u8 0, Value.int .u8 0, Value.int .u8 0, Value.int .u8 0, Value.int .u8 0, Value.int .u8 0, Value.int .u8 0]
end Go.Proofs.YtkaimdcepnhkdaaDoor
namespace Go.Proofs.YtkaimdcepnhkdaaDoor
open Go.RowKit
set_option linter.unusedSimpArgs false
set_option linter.unusedVariables false

theorem info_u8' : (Tryd.prog.info? 5).map (fun i => (i.zero, i.size, i.bytes)) = some (some (.int .u8 0), 1, 1) := by kernel_rfl
theorem u8_made (w : World) (n : Nat) (t : TypeId) : Blk (w.alloc (.cells (madeCells #[.int .u8 0] n) t)) w.heap.size t (u8s (List.replicate n 0)).toArray := by
  unfold Blk
  show (w.heap.push _)[w.heap.size]? = _
  rw [Array.getElem?_push, if_pos rfl]
  congr 2
  apply Array.ext_getElem?
  intro i
  by_cases hi : i < n <;> simp [madeCells, hi, Nat.mod_one]
def Up (w : World) (n : Nat) (o : Option (List Int)) (e : Ending) (w' : World) : Prop :=
  Below w.heap.size w w' ∧ match o with
  | none => e = .returned (.tuple #[.slice none 0 0, .bool false])
  | some l => e = .returned (.tuple #[.slice (some ⟨w.heap.size, 0, none⟩) n n, .bool true]) ∧ Blk w' w.heap.size 5 (u8s l).toArray
end Go.Proofs.YtkaimdcepnhkdaaDoor
namespace Go.Proofs.YtkaimdcepnhkdaaDoor
open Go.RowKit
set_option linter.unusedSimpArgs false
set_option linter.unusedVariables false

theorem splice_all (n : Nat) (l : List Int) (hl : l.length = n) : splice (u8s (List.replicate n 0)) 0 (u8s l) = u8s l := by
  unfold splice
  subst hl
  simp
theorem src8 {w : World} {g : Nat} {t : TypeId} {l : List Int} (h : Blk w g t (u8s l).toArray) : ∀ (j : Nat) (v : Value), (u8s l)[j]? = some v → w.cell? ((⟨g, 0, none⟩ : Addr).add j) = some v := by
  intro j v hv
  have e : (⟨g, 0, none⟩ : Addr).add j = ⟨g, j, none⟩ := by unfold Addr.add; split <;> simp_all
  rw [e, h.cell]
  simpa using hv

end Go.Proofs.YtkaimdcepnhkdaaDoor
namespace Go.Proofs.YtkaimdcepnhkdaaDoor
open Go.RowKit
set_option linter.unusedSimpArgs false
set_option linter.unusedVariables false

/-- A slice of bytes of the call's own. -/
structure Own8 (w0 wr : World) (v : Value) (xs : List Int) : Prop where
  own : wr.ownsRow w0.heap.size 5 1 v xs.length (u8s xs)
  low : Below w0.heap.size w0 wr
theorem Own8.below_grown {w0 wr w' : World} {v : Value} {n : Nat} {xs : List Value} (ho : wr.ownsRow w0.heap.size 5 1 v n xs) (hb : Below w0.heap.size w0 wr) (hg : wr.grownBy w' v.ownBlock) : Below w0.heap.size w0 w' :=
  hb.trans ⟨hg.os, hg.tape, hg.output, hg.size, fun i hi => hg.block i (Nat.lt_of_lt_of_le hi hb.size) (fun e => by have := (ho.lt i e.symm).1; omega)⟩
theorem own_app (ty : TypeId) (w0 wr : World) (v : Value) (xs news : List Int) (h : Own8 w0 wr v xs) (hlen : xs.length + news.length ≤ 1000) :
    ∃ v' w', (Builtin.append_ #[79, 79] ty #[v, .slice (some ⟨wr.heap.size, 0, none⟩) news.length news.length]).run Tryd.prog (wr.alloc (.cells (u8s news).toArray 5)) = .ok v' w' ∧ Own8 w0 w' v' (xs ++ news) := by
  obtain ⟨i, hi, hz0, hz1, hz2⟩ := info_parts info_u8'
  have hb := Blk.new wr 5 (u8s news).toArray
  obtain ⟨v', w', hr, ho, hg, _⟩ := run_append_own (P := Tryd.prog) (wr.alloc (.cells (u8s news).toArray 5)) w0.heap.size 79 ty 5 i (.int .u8 0) 1 1 Tryd.underlying79 hi hz0 hz1 hz2 rfl (by decide) v xs.length (u8s xs) (h.own.alloc _) ⟨wr.heap.size, 0, none⟩ news.length news.length (u8s news) (by simp) (src8 hb) (u8s_one news)
    (by unfold maxLen; omega) (by omega) (by have := h.low.size; simp; omega)
  refine ⟨v', w', hr, ?_, Own8.below_grown (h.own.alloc _) (h.low.alloc h.low.size _) hg⟩
  rw [List.length_append, show u8s (xs ++ news) = u8s xs ++ u8s news from List.map_append]
  exact ho
theorem app_wp {o : Oper} {a : Act} {K : Act → World → Prop} {Q : Exit → Act → World → Prop} (s x : Operand) (ho : o.op = .call { callee := .builtin .append, args := #[s, x], argTypes := #[79, 79] })
    {w0 wr : World} {v : Value} {xs : List Int} (news : List Int) (h : Own8 w0 wr v xs) (hlen : xs.length + news.length ≤ 1000) (hs : a.eval s = v) (hx : a.eval x = .slice (some ⟨wr.heap.size, 0, none⟩) news.length news.length)
    (hk : ∀ v' w', Own8 w0 w' v' (xs ++ news) → K (a.put o.dst v') w') : o.wp Tryd.prog a (wr.alloc (.cells (u8s news).toArray 5)) K Q := by
  obtain ⟨i, hi, hz0, hz1, hz2⟩ := info_parts info_u8'
  have hb := Blk.new wr 5 (u8s news).toArray
  refine wp_append_own (P := Tryd.prog) _ s x 79 ho w0.heap.size 5 i (.int .u8 0) 1 1 Tryd.underlying79 hi hz0 hz1 hz2 rfl (by decide) v xs.length (u8s xs) hs (h.own.alloc _) ⟨wr.heap.size, 0, none⟩ news.length news.length (u8s news) hx (by simp) (src8 hb) (u8s_one news)
    (by unfold maxLen; omega) (by omega) (by have := h.low.size; simp; omega) ?_
  intro v' w' h1 hg _
  refine hk v' w' ⟨?_, Own8.below_grown (h.own.alloc _) (h.low.alloc h.low.size _) hg⟩
  rw [List.length_append, show u8s (xs ++ news) = u8s xs ++ u8s news from List.map_append]
  exact h1
theorem app_arm {ops : Array Oper} {rest : List Oper} {o : Oper} {a : Act} {Q : Exit → Act → World → Prop} (hgd : o.guard = none) (s x : Operand) (ho : o.op = .call { callee := .builtin .append, args := #[s, x], argTypes := #[79, 79] })
    {w0 wr : World} {v : Value} {xs : List Int} (news : List Int) (h : Own8 w0 wr v xs) (hlen : xs.length + news.length ≤ 1000) (hs : a.eval s = v) (hx : a.eval x = .slice (some ⟨wr.heap.size, 0, none⟩) news.length news.length)
    (hk : ∀ v' w', Own8 w0 w' v' (xs ++ news) → wpList Tryd.prog ops Q rest (a.put o.dst v') w') : wpList Tryd.prog ops Q (o :: rest) a (wr.alloc (.cells (u8s news).toArray 5)) :=
  wpList_plain hgd fun _ hK => app_wp s x ho news h hlen hs hx fun v' w' h2 => hK _ _ (hk v' w' h2)
theorem Own8.rd {w0 wr : World} {v : Value} {xs : List Int} (h : Own8 w0 wr v xs) (ho : Oct xs) : ∃ A c, v = .slice A xs.length c ∧ Rd wr wr.heap.size A xs.length xs := by
  rcases h.own.2 with ⟨rfl, hn⟩ | ⟨g, cap, cur, rfl, hb, hg, hnc, hcm, hcs, hx⟩
  · exact ⟨none, 0, by rw [hn], ⟨rfl, ho, fun hp => by omega⟩⟩
  · refine ⟨_, cap, rfl, ⟨rfl, ho, fun _ => ⟨g, 0, rfl, (Array.getElem?_eq_some_iff.1 hg).1, fun i hi => ?_⟩⟩⟩
    rw [Nat.zero_add]
    have h1 : (u8s xs)[i]? = some (.int .u8 (xs.getD i 0)) := by simp [List.getD, hi]
    rw [← hx, List.getElem?_take, if_pos (by omega)] at h1
    simp only [World.cell?, hg]
    rw [← Array.getElem?_toList]
    exact h1
/-- Pairs of digits, with : between. -/
def prK (l : List Int) : Nat → List Int
  | 0 => []
  | k + 1 => prK l k ++ (if 0 < k then [58] else []) ++ [hexI (l.getD k 0 / 16), hexI (l.getD k 0 % 16)]
theorem prK_len (l : List Int) : ∀ k, (prK l k).length ≤ 3 * k
  | 0 => by simp [prK]
  | k + 1 => by
    have := prK_len l k
    unfold prK
    split <;> simp <;> omega
theorem prK_oct (l : List Int) (ho : Oct l) : ∀ k, Oct (prK l k)
  | 0 => by intro x h; cases h
  | k + 1 => by
    have ih := prK_oct l ho k
    have hx := ho.getD k
    unfold prK
    intro x h
    rcases List.mem_append.1 h with h | h
    · rcases List.mem_append.1 h with h | h
      · exact ih x h
      · split at h
        · rw [List.mem_singleton] at h; omega
        · cases h
    · simp only [List.mem_cons, List.mem_nil_iff, or_false] at h
      rcases h with rfl | rfl
      · exact hexI_bd _ (by omega) (by omega)
      · exact hexI_bd _ (by omega) (by omega)
def digs16 : ByteArray := ⟨#[48, 49, 50, 51, 52, 53, 54, 55, 56, 57, 97, 98, 99, 100, 101, 102]⟩
theorem hex_at16 : ∀ d : Fin 16, ((digs16[d.val]'(by have := d.2; show d.val < 16; omega)).toNat : Int) = hexI d.val := by decide +kernel
theorem and15_8 (x : Int) (h0 : 0 ≤ x) (h1 : x < 256) : bits .and .u8 x 15 = x % 16 := by
  obtain ⟨m, rfl⟩ := Int.eq_ofNat_of_zero_le h0
  have h : ∀ m : Fin 256, bits .and .u8 (m.val : Int) 15 = (m.val : Int) % 16 := by decide +kernel
  exact h ⟨m, by omega⟩
set_option maxHeartbeats 4000000 in
set_option maxRecDepth 100000 in
theorem pt_is (w : World) (g : Nat) (t : TypeId) (n : Nat) (l : List Int) (hn : 1 ≤ n ∧ n ≤ 16) (hl : l.length = n) (ho : Oct l) (hb : Blk w g t (u8s l).toArray) :
    Calls Tryd.prog 124 #[.slice (some ⟨g, 0, none⟩) n n] w fun e w' => e = .returned (.string (strOfNums (prK l n))) ∧ Below w.heap.size w w' := by
  have HB := Lib.hid hb
  have hgl := hb.lt
  clear hb
  obtain ⟨i0, hi, hz0, hz1, hz2⟩ := info_parts info_u8'
  obtain ⟨wm, hmk, hown, hgrow⟩ := run_make_own (P := Tryd.prog) w w.heap.size 79 5 i0 (.int .u8 0) 1 Tryd.underlying79 hi hz0 hz1 .i64 .i64 (3 * n) (by rw [hz2]; omega) (by unfold maxLen; omega) (Nat.le_refl _)
  have HO : Hid (Own8 w wm (.slice (some ⟨w.heap.size, 0, none⟩) 0 (3 * n)) []) := Lib.hid ⟨hown, (Below.refl _ _).trans ⟨hgrow.os, hgrow.tape, hgrow.output, hgrow.size, fun i hi => hgrow.block i hi (fun e => by cases e)⟩⟩
  have m0 : 3 * (n : Int) = ((3 * n : Nat) : Int) := by omega
  have hn48 : 3 * n ≤ 48 := by omega
  clear hown hgrow hi hz0 hz1 hz2
  generalize 3 * n = n3 at *
  go_enter Tryd.func124, Tryd.ntmps124
  go_wp2
  clear hmk m0 hn48
  go_loopw [3, 4, 5, 12] (fun v _ _ i wr => ∃ k : Nat, k ≤ n ∧ i = .int .i64 k ∧ Own8 w wr v (prK l k)) (fun _ _ _ i _ => n - (intOf i).toNat)
  case atStart => exact ⟨0, by omega, rfl, HO.out⟩
  case round =>
    obtain ⟨k, hk, rfl, hw⟩ := hrel
    have HW := Lib.hid hw
    clear hw HO
    by_cases hlt : k < n
    · have hcell : wr.cell? ⟨g, k, none⟩ = some (.int .u8 (l.getD k 0)) := by
        rw [(HB.out.below HW.out.low hgl).cell]
        simp [List.getD, show k < l.length by omega]
      have hx := ho.getD k
      have hlen := prK_len l k
      have HP : Hid (prK l (k + 1) = prK l k ++ (if 0 < k then [58] else []) ++ [hexI (l.getD k 0 / 16), hexI (l.getD k 0 % 16)]) := Lib.hid rfl
      generalize l.getD k 0 = x at *
      obtain ⟨d, hd⟩ := Int.eq_ofNat_of_zero_le (show 0 ≤ x / 16 by omega)
      obtain ⟨e, he⟩ := Int.eq_ofNat_of_zero_le (show 0 ≤ x % 16 by omega)
      have hd16 : d < 16 := by omega
      have he16 : e < 16 := by omega
      have hand : bits .and .u8 x 15 = (e : Int) := by rw [and15_8 x hx.1 hx.2, he]
      have HXD := Lib.hid (hex_at16 ⟨d, hd16⟩)
      have HXE := Lib.hid (hex_at16 ⟨e, he16⟩)
      rw [hd, he] at HP
      generalize prK l k = xs at *
      have hdI : (d : Int) < 16 := by omega
      have heI : (e : Int) < 16 := by omega
      by_cases hk0 : 0 < k
      · have hkz : (k : Int) > 0 := by omega
        have HP2 : Hid (prK l (k + 1) = xs ++ [58] ++ [hexI d, hexI e]) := Lib.hid (by rw [HP.out, if_pos hk0])
        clear HP hk0
        go_wp2_with (at_builtin; refine app_arm rfl _ _ rfl [58] HW.out (by simp; omega) rfl rfl ?_)
        intro vv wz hoz
        have HWX := Lib.hid hoz
        clear hoz HW hcell
        go_wp2
        refine wp_region_held_drew (S := fun w' => Below w.heap.size w w') (by kernel_rfl) (below_drewN HWX.out.low 1) (fun hS => ?_)
        refine wpAnyH_take (i := 0) (oi := ⟨some 22, _, _, _, _, _⟩) (v := ?_) rfl (by kernel_rfl) (by kernel_rfl) (by kernel_rfl) (fun _ _ _ h => h) (Or.inl ⟨by rfl, ?_⟩) hS ?_
        rotate_left
        · intro wq hq
          first | (go_simp; done) | (go_simp; rfl)
        try simp only [Act.put, List.setIfInBounds_toArray, List.set_cons_zero, List.set_cons_succ]
        refine wpAnyH_take (i := 1) (oi := ⟨some 23, _, _, _, _, _⟩) (v := ?_) rfl (by kernel_rfl) (by kernel_rfl) (by kernel_rfl) (fun _ _ _ h => h) (Or.inl ⟨by rfl, ?_⟩) hS ?_
        rotate_left
        · intro wq hq
          first | (go_simp; done) | (go_simp; rfl)
        try simp only [Act.put, List.setIfInBounds_toArray, List.set_cons_zero, List.set_cons_succ]
        refine wpAnyH_take (i := 2) (oi := ⟨some 24, _, _, _, _, _⟩) (v := ?_) rfl (by kernel_rfl) (by kernel_rfl) (by kernel_rfl) (fun _ _ _ h => h) (Or.inl ⟨by rfl, ?_⟩) hS ?_
        rotate_left
        · intro wq hq
          first | (go_simp; done) | (go_simp; rfl)
        try simp only [Act.put, List.setIfInBounds_toArray, List.set_cons_zero, List.set_cons_succ]
        refine wpAnyH_take (i := 3) (oi := ⟨some 25, _, _, _, _, _⟩) (v := ?_) rfl (by kernel_rfl) (by kernel_rfl) (by kernel_rfl) (fun _ _ _ h => h) (Or.inl ⟨by rfl, ?_⟩) hS ?_
        rotate_left
        · intro wq hq
          first | (go_simp; done) | (go_simp; rfl)
        try simp only [Act.put, List.setIfInBounds_toArray, List.set_cons_zero, List.set_cons_succ]
        refine wpAnyH_take (i := 4) (oi := ⟨some 26, _, _, _, _, _⟩) (v := ?_) rfl (by kernel_rfl) (by kernel_rfl) (by kernel_rfl) (fun _ _ _ h => h) (Or.inl ⟨by rfl, ?_⟩) hS ?_
        rotate_left
        · intro wq hq
          first | (go_simp; done) | (go_simp; rfl)
        try simp only [Act.put, List.setIfInBounds_toArray, List.set_cons_zero, List.set_cons_succ]
        refine wpAnyH_take (i := 5) (oi := ⟨some 27, _, _, _, _, _⟩) (v := ?_) rfl (by kernel_rfl) (by kernel_rfl) (by kernel_rfl) (fun _ _ _ h => h) (Or.inl ⟨by rfl, ?_⟩) hS ?_
        rotate_left
        · intro wq hq
          first | (go_simp; done) | (go_simp; rfl)
        try simp only [Act.put, List.setIfInBounds_toArray, List.set_cons_zero, List.set_cons_succ]
        refine wpAnyH_take (i := 6) (oi := ⟨some 28, _, _, _, _, _⟩) (v := ?_) rfl (by kernel_rfl) (by kernel_rfl) (by kernel_rfl) (fun _ _ _ h => h) (Or.inl ⟨by rfl, ?_⟩) hS ?_
        rotate_left
        · intro wq hq
          first | (go_simp; done) | (go_simp; rfl)
        try simp only [Act.put, List.setIfInBounds_toArray, List.set_cons_zero, List.set_cons_succ]
        refine wpAnyH_ready (rs := [7]) (by kernel_rfl) (by simp) ?_
        refine AllReadyH.cons (o := ⟨some 29, _, _, _, _, _⟩) rfl (fun K hK => ?_) AllReadyH.nil
        rw [if_pos (by rfl)]
        go_wp2
        refine hK.out _ _ (below_drewN (HWX.out.low.alloc HWX.out.low.size _) 1) (fun hS => ?_)
        clear hK K
        try simp only [Act.put, List.setIfInBounds_toArray, List.set_cons_zero, List.set_cons_succ]
        refine wpAnyH_ready (rs := [8]) (by kernel_rfl) (by simp) ?_
        refine AllReadyH.cons (o := ⟨some 30, _, _, _, _, _⟩) rfl (fun K hK => ?_) AllReadyH.nil
        rw [if_pos (by rfl)]
        refine app_wp (wr := wz.drew) (w0 := w) (v := vv) (xs := xs ++ [58]) _ _ rfl [((digs16[d]'(by show d < 16; omega)).toNat : Int), ((digs16[e]'(by show e < 16; omega)).toNat : Int)] ⟨HWX.out.own, below_drewN HWX.out.low 1⟩ (by simp; omega) rfl rfl ?_
        intro v2 w2 ho2
        rw [HXD.out, HXE.out, ← HP2.out] at ho2
        have HO2 := Lib.hid ho2
        have hS2 := ho2.low
        clear ho2
        refine hK.out _ _ hS2 (fun hS => ?_)
        clear hK K
        try simp only [Act.put, List.setIfInBounds_toArray, List.set_cons_zero, List.set_cons_succ]
        refine wpAnyH_take (i := 9) (oi := ⟨some 3, _, _, _, _, _⟩) (v := ?_) rfl (by kernel_rfl) (by kernel_rfl) (by kernel_rfl) (fun _ _ _ h => h) (Or.inl ⟨by rfl, ?_⟩) hS ?_
        rotate_left
        · intro wq hq
          first | (go_simp; done) | (go_simp; rfl)
        try simp only [Act.put, List.setIfInBounds_toArray, List.set_cons_zero, List.set_cons_succ]
        refine wpAnyH_done (by kernel_rfl) ?_ _
        clear hS hS2
        go_wp2
        exact ⟨⟨k + 1, by omega, by go_num, HO2.out⟩, by simp [intOf]; omega⟩
      · have hkz : ¬ (k : Int) > 0 := by omega
        have HP2 : Hid (prK l (k + 1) = xs ++ [hexI d, hexI e]) := Lib.hid (by rw [HP.out, if_neg hk0, List.append_nil])
        have HWX := Lib.hid HW.out
        clear HP hk0 HW
        generalize u3 = vv at *
        generalize wr = wz at *
        go_wp2
        refine wp_region_held_drew (S := fun w' => Below w.heap.size w w') (by kernel_rfl) (below_drewN HWX.out.low 1) (fun hS => ?_)
        refine wpAnyH_take (i := 0) (oi := ⟨some 22, _, _, _, _, _⟩) (v := ?_) rfl (by kernel_rfl) (by kernel_rfl) (by kernel_rfl) (fun _ _ _ h => h) (Or.inl ⟨by rfl, ?_⟩) hS ?_
        rotate_left
        · intro wq hq
          first | (go_simp; done) | (go_simp; rfl)
        try simp only [Act.put, List.setIfInBounds_toArray, List.set_cons_zero, List.set_cons_succ]
        refine wpAnyH_take (i := 1) (oi := ⟨some 23, _, _, _, _, _⟩) (v := ?_) rfl (by kernel_rfl) (by kernel_rfl) (by kernel_rfl) (fun _ _ _ h => h) (Or.inl ⟨by rfl, ?_⟩) hS ?_
        rotate_left
        · intro wq hq
          first | (go_simp; done) | (go_simp; rfl)
        try simp only [Act.put, List.setIfInBounds_toArray, List.set_cons_zero, List.set_cons_succ]
        refine wpAnyH_take (i := 2) (oi := ⟨some 24, _, _, _, _, _⟩) (v := ?_) rfl (by kernel_rfl) (by kernel_rfl) (by kernel_rfl) (fun _ _ _ h => h) (Or.inl ⟨by rfl, ?_⟩) hS ?_
        rotate_left
        · intro wq hq
          first | (go_simp; done) | (go_simp; rfl)
        try simp only [Act.put, List.setIfInBounds_toArray, List.set_cons_zero, List.set_cons_succ]
        refine wpAnyH_take (i := 3) (oi := ⟨some 25, _, _, _, _, _⟩) (v := ?_) rfl (by kernel_rfl) (by kernel_rfl) (by kernel_rfl) (fun _ _ _ h => h) (Or.inl ⟨by rfl, ?_⟩) hS ?_
        rotate_left
        · intro wq hq
          first | (go_simp; done) | (go_simp; rfl)
        try simp only [Act.put, List.setIfInBounds_toArray, List.set_cons_zero, List.set_cons_succ]
        refine wpAnyH_take (i := 4) (oi := ⟨some 26, _, _, _, _, _⟩) (v := ?_) rfl (by kernel_rfl) (by kernel_rfl) (by kernel_rfl) (fun _ _ _ h => h) (Or.inl ⟨by rfl, ?_⟩) hS ?_
        rotate_left
        · intro wq hq
          first | (go_simp; done) | (go_simp; rfl)
        try simp only [Act.put, List.setIfInBounds_toArray, List.set_cons_zero, List.set_cons_succ]
        refine wpAnyH_take (i := 5) (oi := ⟨some 27, _, _, _, _, _⟩) (v := ?_) rfl (by kernel_rfl) (by kernel_rfl) (by kernel_rfl) (fun _ _ _ h => h) (Or.inl ⟨by rfl, ?_⟩) hS ?_
        rotate_left
        · intro wq hq
          first | (go_simp; done) | (go_simp; rfl)
        try simp only [Act.put, List.setIfInBounds_toArray, List.set_cons_zero, List.set_cons_succ]
        refine wpAnyH_take (i := 6) (oi := ⟨some 28, _, _, _, _, _⟩) (v := ?_) rfl (by kernel_rfl) (by kernel_rfl) (by kernel_rfl) (fun _ _ _ h => h) (Or.inl ⟨by rfl, ?_⟩) hS ?_
        rotate_left
        · intro wq hq
          first | (go_simp; done) | (go_simp; rfl)
        try simp only [Act.put, List.setIfInBounds_toArray, List.set_cons_zero, List.set_cons_succ]
        refine wpAnyH_ready (rs := [7]) (by kernel_rfl) (by simp) ?_
        refine AllReadyH.cons (o := ⟨some 29, _, _, _, _, _⟩) rfl (fun K hK => ?_) AllReadyH.nil
        rw [if_pos (by rfl)]
        go_wp2
        refine hK.out _ _ (below_drewN (HWX.out.low.alloc HWX.out.low.size _) 1) (fun hS => ?_)
        clear hK K
        try simp only [Act.put, List.setIfInBounds_toArray, List.set_cons_zero, List.set_cons_succ]
        refine wpAnyH_ready (rs := [8]) (by kernel_rfl) (by simp) ?_
        refine AllReadyH.cons (o := ⟨some 30, _, _, _, _, _⟩) rfl (fun K hK => ?_) AllReadyH.nil
        rw [if_pos (by rfl)]
        refine app_wp (wr := wz.drew) (w0 := w) (v := vv) (xs := xs) _ _ rfl [((digs16[d]'(by show d < 16; omega)).toNat : Int), ((digs16[e]'(by show e < 16; omega)).toNat : Int)] ⟨HWX.out.own, below_drewN HWX.out.low 1⟩ (by simp; omega) rfl rfl ?_
        intro v2 w2 ho2
        rw [HXD.out, HXE.out, ← HP2.out] at ho2
        have HO2 := Lib.hid ho2
        have hS2 := ho2.low
        clear ho2
        refine hK.out _ _ hS2 (fun hS => ?_)
        clear hK K
        try simp only [Act.put, List.setIfInBounds_toArray, List.set_cons_zero, List.set_cons_succ]
        refine wpAnyH_take (i := 9) (oi := ⟨some 3, _, _, _, _, _⟩) (v := ?_) rfl (by kernel_rfl) (by kernel_rfl) (by kernel_rfl) (fun _ _ _ h => h) (Or.inl ⟨by rfl, ?_⟩) hS ?_
        rotate_left
        · intro wq hq
          first | (go_simp; done) | (go_simp; rfl)
        try simp only [Act.put, List.setIfInBounds_toArray, List.set_cons_zero, List.set_cons_succ]
        refine wpAnyH_done (by kernel_rfl) ?_ _
        clear hS hS2
        go_wp2
        exact ⟨⟨k + 1, by omega, by go_num, HO2.out⟩, by simp [intOf]; omega⟩

    · obtain rfl : k = n := by omega
      obtain ⟨A, c, rfl, hr⟩ := HW.out.rd (prK_oct l ho k)
      have hcv := run_conv_rd (P := Tryd.prog) wr 79 9 5 Tryd.underlying79 Tryd.underlying5 Tryd.underlying9 c hr
      have HL := Lib.hid HW.out.low
      clear HW hr
      go_wp2
      go_ret
      exact ⟨rfl, HL.out⟩
end Go.Proofs.YtkaimdcepnhkdaaDoor
namespace Go.Proofs.YtkaimdcepnhkdaaDoor
open Go.RowKit
set_option linter.unusedSimpArgs false
set_option linter.unusedVariables false

set_option maxHeartbeats 4000000 in
set_option maxRecDepth 100000 in
theorem rpt_is (w : World) (g : Nat) (t : TypeId) (n : Nat) (l : List Int) (hn : 1 ≤ n ∧ n ≤ 16) (hl : l.length = n) (ho : Oct l) (hb : Blk w g t (u8s l).toArray) :
    Calls Tryd.prog 125 #[.slice (some ⟨g, 0, none⟩) n n] w fun e w' => e = .returned (.string (strOfNums (prK l n))) ∧ Below w.heap.size w w' := by
  have HB := Lib.hid hb
  have hgl := hb.lt
  clear hb
  have HO : Hid (Own8 w w (.slice none 0 0) []) := Lib.hid ⟨World.ownsRow_nil _ _ _ _, Below.refl _ _⟩
  go_enter Tryd.func125, Tryd.ntmps125
  go_wp2
  go_loopw [3, 4, 7] (fun v _ i wr => ∃ k : Nat, k ≤ n ∧ i = .int .i64 k ∧ Own8 w wr v (prK l k)) (fun _ _ i _ => n - (intOf i).toNat)
  case atStart => exact ⟨0, by omega, rfl, HO.out⟩
  case round =>
    obtain ⟨k, hk, rfl, hw⟩ := hrel
    have HW := Lib.hid hw
    clear hw HO
    by_cases hlt : k < n
    · have HC : Hid (∀ w', Below w.heap.size w w' → w'.cell? ⟨g, k, none⟩ = some (.int .u8 (l.getD k 0))) := Lib.hid (fun w' h => by
        rw [(HB.out.below h hgl).cell]
        simp [List.getD, show k < l.length by omega])
      have hx := ho.getD k
      have hlen := prK_len l k
      have HP : Hid (prK l (k + 1) = prK l k ++ (if 0 < k then [58] else []) ++ [hexI (l.getD k 0 / 16), hexI (l.getD k 0 % 16)]) := Lib.hid rfl
      generalize l.getD k 0 = x at *
      obtain ⟨d, hd⟩ := Int.eq_ofNat_of_zero_le (show 0 ≤ x / 16 by omega)
      obtain ⟨e, he⟩ := Int.eq_ofNat_of_zero_le (show 0 ≤ x % 16 by omega)
      have hdI : (d : Int) < 16 := by omega
      have heI : (e : Int) < 16 := by omega
      have hq1 : x.tdiv 16 = (d : Int) := by rw [Int.tdiv_eq_ediv_of_nonneg hx.1]; exact hd
      have hq2 : x.tmod 16 = (e : Int) := by rw [Int.tmod_eq_emod_of_nonneg hx.1]; exact he
      have hwx : IntKind.i64.wrap x = x := IntWalk.i64_in _ (by omega)
      rw [hd, he] at HP
      clear hd he
      generalize prK l k = xs at *
      by_cases hk0 : 0 < k
      · have hkz : (k : Int) > 0 := by omega
        have HP2 : Hid (prK l (k + 1) = xs ++ [58] ++ [hexI d, hexI e]) := Lib.hid (by rw [HP.out, if_pos hk0])
        clear HP hk0
        go_wp2_with (at_builtin; refine app_arm rfl _ _ rfl [58] HW.out (by simp; omega) rfl rfl ?_)
        intro vv wz hoz
        have HWX := Lib.hid hoz
        clear hoz HW
        go_wp2
        refine wp_region_held_drew (S := fun w' => Below w.heap.size w w') (by kernel_rfl) (below_drewN HWX.out.low 1) (fun hS => ?_)
        refine wpAnyH_take (i := 0) (oi := ⟨some 15, _, _, _, _, _⟩) (v := ?_) rfl (by kernel_rfl) (by kernel_rfl) (by kernel_rfl) (fun _ _ _ h => h) (Or.inl ⟨by rfl, ?_⟩) hS ?_
        rotate_left
        · intro wq hq
          first | (go_simp; done) | (go_simp; rfl)
        try simp only [Act.put, List.setIfInBounds_toArray, List.set_cons_zero, List.set_cons_succ]
        refine wpAnyH_take (i := 1) (oi := ⟨some 16, _, _, _, _, _⟩) (v := ?_) rfl (by kernel_rfl) (by kernel_rfl) (by kernel_rfl) (fun _ _ _ h => h) (Or.inl ⟨by rfl, ?_⟩) hS ?_
        rotate_left
        · intro wq hq
          first | (go_simp; done) | (go_simp; rfl)
        try simp only [Act.put, List.setIfInBounds_toArray, List.set_cons_zero, List.set_cons_succ]
        refine wpAnyH_take (i := 2) (oi := ⟨some 17, _, _, _, _, _⟩) (v := ?_) rfl (by kernel_rfl) (by kernel_rfl) (by kernel_rfl) (fun _ _ _ h => h) (Or.inl ⟨by rfl, ?_⟩) hS ?_
        rotate_left
        · intro wq hq
          first | (go_simp; done) | (go_simp; rfl)
        try simp only [Act.put, List.setIfInBounds_toArray, List.set_cons_zero, List.set_cons_succ]
        refine wpAnyH_take (i := 3) (oi := ⟨some 18, _, _, _, _, _⟩) (v := ?_) rfl (by kernel_rfl) (by kernel_rfl) (by kernel_rfl) (fun _ _ _ h => h) (Or.inl ⟨by rfl, ?_⟩) hS ?_
        rotate_left
        · intro wq hq
          first | (go_simp; done) | (go_simp; rfl)
        try simp only [Act.put, List.setIfInBounds_toArray, List.set_cons_zero, List.set_cons_succ]
        refine wpAnyH_take (i := 4) (oi := ⟨some 19, _, _, _, _, _⟩) (v := ?_) rfl (by kernel_rfl) (by kernel_rfl) (by kernel_rfl) (fun _ _ _ h => h) (Or.inl ⟨by rfl, ?_⟩) hS ?_
        rotate_left
        · intro wq hq
          have hc := HC.out wq hq
          first | (go_simp; done) | (go_simp; rfl)
        try simp only [Act.put, List.setIfInBounds_toArray, List.set_cons_zero, List.set_cons_succ]
        refine wpAnyH_take (i := 5) (oi := ⟨some 20, _, _, _, _, _⟩) (v := ?_) rfl (by kernel_rfl) (by kernel_rfl) (by kernel_rfl) (fun _ _ _ h => h) (Or.inl ⟨by rfl, ?_⟩) hS ?_
        rotate_left
        · intro wq hq
          first | (go_simp; done) | (go_simp; rfl)
        try simp only [Act.put, List.setIfInBounds_toArray, List.set_cons_zero, List.set_cons_succ]
        refine wpAnyH_take (i := 6) (oi := ⟨some 21, _, _, _, _, _⟩) (v := ?_) rfl (by kernel_rfl) (by kernel_rfl) (by kernel_rfl) (fun _ _ _ h => h) (Or.inl ⟨by rfl, ?_⟩) hS ?_
        rotate_left
        · intro wq hq
          first | (go_simp; done) | (go_simp; rfl)
        try simp only [Act.put, List.setIfInBounds_toArray, List.set_cons_zero, List.set_cons_succ]
        refine wpAnyH_take (i := 8) (oi := ⟨some 23, _, _, _, _, _⟩) (v := ?_) rfl (by kernel_rfl) (by kernel_rfl) (by kernel_rfl) (fun _ _ _ h => h) (Or.inl ⟨by rfl, ?_⟩) hS ?_
        rotate_left
        · intro wq hq
          first | (go_simp; done) | (go_simp; rfl)
        try simp only [Act.put, List.setIfInBounds_toArray, List.set_cons_zero, List.set_cons_succ]
        refine wpAnyH_take (i := 9) (oi := ⟨some 24, _, _, _, _, _⟩) (v := ?_) rfl (by kernel_rfl) (by kernel_rfl) (by kernel_rfl) (fun _ _ _ h => h) (Or.inl ⟨by rfl, ?_⟩) hS ?_
        rotate_left
        · intro wq hq
          first | (go_simp; done) | (go_simp; rfl)
        try simp only [Act.put, List.setIfInBounds_toArray, List.set_cons_zero, List.set_cons_succ]
        refine wpAnyH_take (i := 10) (oi := ⟨some 25, _, _, _, _, _⟩) (v := ?_) rfl (by kernel_rfl) (by kernel_rfl) (by kernel_rfl) (fun _ _ _ h => h) (Or.inl ⟨by rfl, ?_⟩) hS ?_
        rotate_left
        · intro wq hq
          first | (go_simp; done) | (go_simp; rfl)
        try simp only [Act.put, List.setIfInBounds_toArray, List.set_cons_zero, List.set_cons_succ]
        refine wpAnyH_take (i := 11) (oi := ⟨some 26, _, _, _, _, _⟩) (v := ?_) rfl (by kernel_rfl) (by kernel_rfl) (by kernel_rfl) (fun _ _ _ h => h) (Or.inl ⟨by rfl, ?_⟩) hS ?_
        rotate_left
        · intro wq hq
          have hc := HC.out wq hq
          first | (go_simp; done) | (go_simp; rfl)
        try simp only [Act.put, List.setIfInBounds_toArray, List.set_cons_zero, List.set_cons_succ]
        refine wpAnyH_take (i := 12) (oi := ⟨some 27, _, _, _, _, _⟩) (v := ?_) rfl (by kernel_rfl) (by kernel_rfl) (by kernel_rfl) (fun _ _ _ h => h) (Or.inl ⟨by rfl, ?_⟩) hS ?_
        rotate_left
        · intro wq hq
          first | (go_simp; done) | (go_simp; rfl)
        try simp only [Act.put, List.setIfInBounds_toArray, List.set_cons_zero, List.set_cons_succ]
        refine wpAnyH_take (i := 13) (oi := ⟨some 28, _, _, _, _, _⟩) (v := ?_) rfl (by kernel_rfl) (by kernel_rfl) (by kernel_rfl) (fun _ _ _ h => h) (Or.inl ⟨by rfl, ?_⟩) hS ?_
        rotate_left
        · intro wq hq
          first | (go_simp; done) | (go_simp; rfl)
        try simp only [Act.put, List.setIfInBounds_toArray, List.set_cons_zero, List.set_cons_succ]
        refine wpAnyH_ready (rs := [7]) (by kernel_rfl) (by simp) ?_
        refine AllReadyH.cons (o := ⟨some 22, _, _, _, _, _⟩) rfl (fun K hK => ?_) AllReadyH.nil
        rw [if_pos (by rfl)]
        go_wp2_with fail
        refine (letter_is _ (d : Int) (by omega) hdI).mono ?_
        rintro e' w' ⟨rfl, rfl⟩
        have hS1 := hS
        refine hK.out _ _ (hS1) (fun hS => ?_)
        clear hK K
        try simp only [Act.put, List.setIfInBounds_toArray, List.set_cons_zero, List.set_cons_succ]
        refine wpAnyH_ready (rs := [14]) (by kernel_rfl) (by simp) ?_
        refine AllReadyH.cons (o := ⟨some 29, _, _, _, _, _⟩) rfl (fun K hK => ?_) AllReadyH.nil
        rw [if_pos (by rfl)]
        go_wp2_with fail
        refine (letter_is _ (e : Int) (by omega) heI).mono ?_
        rintro e' w' ⟨rfl, rfl⟩
        have hS2 := hS
        refine hK.out _ _ (hS2) (fun hS => ?_)
        clear hK K
        try simp only [Act.put, List.setIfInBounds_toArray, List.set_cons_zero, List.set_cons_succ]
        refine wpAnyH_ready (rs := [15]) (by kernel_rfl) (by simp) ?_
        refine AllReadyH.cons (o := ⟨some 30, _, _, _, _, _⟩) rfl (fun K hK => ?_) AllReadyH.nil
        rw [if_pos (by rfl)]
        go_wp2
        refine hK.out _ _ (below_drewN (HWX.out.low.alloc HWX.out.low.size _) 1) (fun hS => ?_)
        clear hK K
        try simp only [Act.put, List.setIfInBounds_toArray, List.set_cons_zero, List.set_cons_succ]
        refine wpAnyH_ready (rs := [16]) (by kernel_rfl) (by simp) ?_
        refine AllReadyH.cons (o := ⟨some 31, _, _, _, _, _⟩) rfl (fun K hK => ?_) AllReadyH.nil
        rw [if_pos (by rfl)]
        refine app_wp (wr := wz.drew) (w0 := w) (v := vv) (xs := xs ++ [58]) _ _ rfl [hexI d, hexI e] ⟨HWX.out.own, below_drewN HWX.out.low 1⟩ (by simp; omega) rfl rfl ?_
        intro v2 w2 ho2
        rw [← HP2.out] at ho2
        have HO2 := Lib.hid ho2
        have hS2' := ho2.low
        clear ho2
        refine hK.out _ _ hS2' (fun hS => ?_)
        clear hK K
        try simp only [Act.put, List.setIfInBounds_toArray, List.set_cons_zero, List.set_cons_succ]
        refine wpAnyH_take (i := 17) (oi := ⟨some 3, _, _, _, _, _⟩) (v := ?_) rfl (by kernel_rfl) (by kernel_rfl) (by kernel_rfl) (fun _ _ _ h => h) (Or.inl ⟨by rfl, ?_⟩) hS ?_
        rotate_left
        · intro wq hq
          first | (go_simp; done) | (go_simp; rfl)
        try simp only [Act.put, List.setIfInBounds_toArray, List.set_cons_zero, List.set_cons_succ]
        refine wpAnyH_done (by kernel_rfl) ?_ _
        clear hS hS2'
        go_wp2
        exact ⟨⟨k + 1, by omega, by go_num, HO2.out⟩, by simp [intOf]; omega⟩
      · have hkz : ¬ (k : Int) > 0 := by omega
        have HP2 : Hid (prK l (k + 1) = xs ++ [hexI d, hexI e]) := Lib.hid (by rw [HP.out, if_neg hk0, List.append_nil])
        have HWX := Lib.hid HW.out
        clear HP hk0 HW
        generalize u3 = vv at *
        generalize wr = wz at *
        go_wp2
        refine wp_region_held_drew (S := fun w' => Below w.heap.size w w') (by kernel_rfl) (below_drewN HWX.out.low 1) (fun hS => ?_)
        refine wpAnyH_take (i := 0) (oi := ⟨some 15, _, _, _, _, _⟩) (v := ?_) rfl (by kernel_rfl) (by kernel_rfl) (by kernel_rfl) (fun _ _ _ h => h) (Or.inl ⟨by rfl, ?_⟩) hS ?_
        rotate_left
        · intro wq hq
          first | (go_simp; done) | (go_simp; rfl)
        try simp only [Act.put, List.setIfInBounds_toArray, List.set_cons_zero, List.set_cons_succ]
        refine wpAnyH_take (i := 1) (oi := ⟨some 16, _, _, _, _, _⟩) (v := ?_) rfl (by kernel_rfl) (by kernel_rfl) (by kernel_rfl) (fun _ _ _ h => h) (Or.inl ⟨by rfl, ?_⟩) hS ?_
        rotate_left
        · intro wq hq
          first | (go_simp; done) | (go_simp; rfl)
        try simp only [Act.put, List.setIfInBounds_toArray, List.set_cons_zero, List.set_cons_succ]
        refine wpAnyH_take (i := 2) (oi := ⟨some 17, _, _, _, _, _⟩) (v := ?_) rfl (by kernel_rfl) (by kernel_rfl) (by kernel_rfl) (fun _ _ _ h => h) (Or.inl ⟨by rfl, ?_⟩) hS ?_
        rotate_left
        · intro wq hq
          first | (go_simp; done) | (go_simp; rfl)
        try simp only [Act.put, List.setIfInBounds_toArray, List.set_cons_zero, List.set_cons_succ]
        refine wpAnyH_take (i := 3) (oi := ⟨some 18, _, _, _, _, _⟩) (v := ?_) rfl (by kernel_rfl) (by kernel_rfl) (by kernel_rfl) (fun _ _ _ h => h) (Or.inl ⟨by rfl, ?_⟩) hS ?_
        rotate_left
        · intro wq hq
          first | (go_simp; done) | (go_simp; rfl)
        try simp only [Act.put, List.setIfInBounds_toArray, List.set_cons_zero, List.set_cons_succ]
        refine wpAnyH_take (i := 4) (oi := ⟨some 19, _, _, _, _, _⟩) (v := ?_) rfl (by kernel_rfl) (by kernel_rfl) (by kernel_rfl) (fun _ _ _ h => h) (Or.inl ⟨by rfl, ?_⟩) hS ?_
        rotate_left
        · intro wq hq
          have hc := HC.out wq hq
          first | (go_simp; done) | (go_simp; rfl)
        try simp only [Act.put, List.setIfInBounds_toArray, List.set_cons_zero, List.set_cons_succ]
        refine wpAnyH_take (i := 5) (oi := ⟨some 20, _, _, _, _, _⟩) (v := ?_) rfl (by kernel_rfl) (by kernel_rfl) (by kernel_rfl) (fun _ _ _ h => h) (Or.inl ⟨by rfl, ?_⟩) hS ?_
        rotate_left
        · intro wq hq
          first | (go_simp; done) | (go_simp; rfl)
        try simp only [Act.put, List.setIfInBounds_toArray, List.set_cons_zero, List.set_cons_succ]
        refine wpAnyH_take (i := 6) (oi := ⟨some 21, _, _, _, _, _⟩) (v := ?_) rfl (by kernel_rfl) (by kernel_rfl) (by kernel_rfl) (fun _ _ _ h => h) (Or.inl ⟨by rfl, ?_⟩) hS ?_
        rotate_left
        · intro wq hq
          first | (go_simp; done) | (go_simp; rfl)
        try simp only [Act.put, List.setIfInBounds_toArray, List.set_cons_zero, List.set_cons_succ]
        refine wpAnyH_take (i := 8) (oi := ⟨some 23, _, _, _, _, _⟩) (v := ?_) rfl (by kernel_rfl) (by kernel_rfl) (by kernel_rfl) (fun _ _ _ h => h) (Or.inl ⟨by rfl, ?_⟩) hS ?_
        rotate_left
        · intro wq hq
          first | (go_simp; done) | (go_simp; rfl)
        try simp only [Act.put, List.setIfInBounds_toArray, List.set_cons_zero, List.set_cons_succ]
        refine wpAnyH_take (i := 9) (oi := ⟨some 24, _, _, _, _, _⟩) (v := ?_) rfl (by kernel_rfl) (by kernel_rfl) (by kernel_rfl) (fun _ _ _ h => h) (Or.inl ⟨by rfl, ?_⟩) hS ?_
        rotate_left
        · intro wq hq
          first | (go_simp; done) | (go_simp; rfl)
        try simp only [Act.put, List.setIfInBounds_toArray, List.set_cons_zero, List.set_cons_succ]
        refine wpAnyH_take (i := 10) (oi := ⟨some 25, _, _, _, _, _⟩) (v := ?_) rfl (by kernel_rfl) (by kernel_rfl) (by kernel_rfl) (fun _ _ _ h => h) (Or.inl ⟨by rfl, ?_⟩) hS ?_
        rotate_left
        · intro wq hq
          first | (go_simp; done) | (go_simp; rfl)
        try simp only [Act.put, List.setIfInBounds_toArray, List.set_cons_zero, List.set_cons_succ]
        refine wpAnyH_take (i := 11) (oi := ⟨some 26, _, _, _, _, _⟩) (v := ?_) rfl (by kernel_rfl) (by kernel_rfl) (by kernel_rfl) (fun _ _ _ h => h) (Or.inl ⟨by rfl, ?_⟩) hS ?_
        rotate_left
        · intro wq hq
          have hc := HC.out wq hq
          first | (go_simp; done) | (go_simp; rfl)
        try simp only [Act.put, List.setIfInBounds_toArray, List.set_cons_zero, List.set_cons_succ]
        refine wpAnyH_take (i := 12) (oi := ⟨some 27, _, _, _, _, _⟩) (v := ?_) rfl (by kernel_rfl) (by kernel_rfl) (by kernel_rfl) (fun _ _ _ h => h) (Or.inl ⟨by rfl, ?_⟩) hS ?_
        rotate_left
        · intro wq hq
          first | (go_simp; done) | (go_simp; rfl)
        try simp only [Act.put, List.setIfInBounds_toArray, List.set_cons_zero, List.set_cons_succ]
        refine wpAnyH_take (i := 13) (oi := ⟨some 28, _, _, _, _, _⟩) (v := ?_) rfl (by kernel_rfl) (by kernel_rfl) (by kernel_rfl) (fun _ _ _ h => h) (Or.inl ⟨by rfl, ?_⟩) hS ?_
        rotate_left
        · intro wq hq
          first | (go_simp; done) | (go_simp; rfl)
        try simp only [Act.put, List.setIfInBounds_toArray, List.set_cons_zero, List.set_cons_succ]
        refine wpAnyH_ready (rs := [7]) (by kernel_rfl) (by simp) ?_
        refine AllReadyH.cons (o := ⟨some 22, _, _, _, _, _⟩) rfl (fun K hK => ?_) AllReadyH.nil
        rw [if_pos (by rfl)]
        go_wp2_with fail
        refine (letter_is _ (d : Int) (by omega) hdI).mono ?_
        rintro e' w' ⟨rfl, rfl⟩
        have hS1 := hS
        refine hK.out _ _ (hS1) (fun hS => ?_)
        clear hK K
        try simp only [Act.put, List.setIfInBounds_toArray, List.set_cons_zero, List.set_cons_succ]
        refine wpAnyH_ready (rs := [14]) (by kernel_rfl) (by simp) ?_
        refine AllReadyH.cons (o := ⟨some 29, _, _, _, _, _⟩) rfl (fun K hK => ?_) AllReadyH.nil
        rw [if_pos (by rfl)]
        go_wp2_with fail
        refine (letter_is _ (e : Int) (by omega) heI).mono ?_
        rintro e' w' ⟨rfl, rfl⟩
        have hS2 := hS
        refine hK.out _ _ (hS2) (fun hS => ?_)
        clear hK K
        try simp only [Act.put, List.setIfInBounds_toArray, List.set_cons_zero, List.set_cons_succ]
        refine wpAnyH_ready (rs := [15]) (by kernel_rfl) (by simp) ?_
        refine AllReadyH.cons (o := ⟨some 30, _, _, _, _, _⟩) rfl (fun K hK => ?_) AllReadyH.nil
        rw [if_pos (by rfl)]
        go_wp2
        refine hK.out _ _ (below_drewN (HWX.out.low.alloc HWX.out.low.size _) 1) (fun hS => ?_)
        clear hK K
        try simp only [Act.put, List.setIfInBounds_toArray, List.set_cons_zero, List.set_cons_succ]
        refine wpAnyH_ready (rs := [16]) (by kernel_rfl) (by simp) ?_
        refine AllReadyH.cons (o := ⟨some 31, _, _, _, _, _⟩) rfl (fun K hK => ?_) AllReadyH.nil
        rw [if_pos (by rfl)]
        refine app_wp (wr := wz.drew) (w0 := w) (v := vv) (xs := xs) _ _ rfl [hexI d, hexI e] ⟨HWX.out.own, below_drewN HWX.out.low 1⟩ (by simp; omega) rfl rfl ?_
        intro v2 w2 ho2
        rw [← HP2.out] at ho2
        have HO2 := Lib.hid ho2
        have hS2' := ho2.low
        clear ho2
        refine hK.out _ _ hS2' (fun hS => ?_)
        clear hK K
        try simp only [Act.put, List.setIfInBounds_toArray, List.set_cons_zero, List.set_cons_succ]
        refine wpAnyH_take (i := 17) (oi := ⟨some 3, _, _, _, _, _⟩) (v := ?_) rfl (by kernel_rfl) (by kernel_rfl) (by kernel_rfl) (fun _ _ _ h => h) (Or.inl ⟨by rfl, ?_⟩) hS ?_
        rotate_left
        · intro wq hq
          first | (go_simp; done) | (go_simp; rfl)
        try simp only [Act.put, List.setIfInBounds_toArray, List.set_cons_zero, List.set_cons_succ]
        refine wpAnyH_done (by kernel_rfl) ?_ _
        clear hS hS2'
        go_wp2
        exact ⟨⟨k + 1, by omega, by go_num, HO2.out⟩, by simp [intOf]; omega⟩
    · obtain rfl : k = n := by omega
      obtain ⟨A, c, rfl, hr⟩ := HW.out.rd (prK_oct l ho k)
      have hcv := run_conv_rd (P := Tryd.prog) wr 79 9 5 Tryd.underlying79 Tryd.underlying5 Tryd.underlying9 c hr
      have HL := Lib.hid HW.out.low
      clear HW hr
      go_wp2
      go_ret
      exact ⟨rfl, HL.out⟩
set_option maxRecDepth 100000 in
theorem mact_is (w : World) (l : List Int) (hl : l.length = 6) (ho : Oct l) :
    Calls Tryd.prog 101 #[.agg (u8s l).toArray] w fun e w' => e = .returned (.string (strOfNums (prK l 6))) ∧ Below w.heap.size w w' := by
  have HA := Lib.hid (Blk.new w 49 (u8s l).toArray)
  have HL : Hid (Below w.heap.size w (w.alloc (.cells (u8s l).toArray 49))) := Lib.hid ((Below.refl _ _).alloc (Nat.le_refl _) _)
  have HCall := Lib.hid (fun w' (h : Blk w' w.heap.size 49 (u8s l).toArray) => pt_is w' w.heap.size 49 6 l (by omega) hl ho h)
  generalize strOfNums (prK l 6) = s at *
  go_enter Tryd.func101, Tryd.ntmps101
  go_wp2_with fail
  refine (HCall.out _ HA.out).mono ?_
  rintro e w1 ⟨rfl, hB⟩
  have HL1 := Lib.hid (HL.out.trans (hB.mono HL.out.size))
  clear hB HCall
  go_wp2
  go_ret
  exact ⟨rfl, HL1.out⟩
set_option maxRecDepth 100000 in
theorem rmact_is (w : World) (l : List Int) (hl : l.length = 6) (ho : Oct l) :
    Calls Tryd.prog 104 #[.agg (u8s l).toArray] w fun e w' => e = .returned (.string (strOfNums (prK l 6))) ∧ Below w.heap.size w w' := by
  have HA := Lib.hid (Blk.new w 49 (u8s l).toArray)
  have HL : Hid (Below w.heap.size w (w.alloc (.cells (u8s l).toArray 49))) := Lib.hid ((Below.refl _ _).alloc (Nat.le_refl _) _)
  have HCall := Lib.hid (fun w' (h : Blk w' w.heap.size 49 (u8s l).toArray) => rpt_is w' w.heap.size 49 6 l (by omega) hl ho h)
  generalize strOfNums (prK l 6) = s at *
  go_enter Tryd.func104, Tryd.ntmps104
  go_wp2_with fail
  refine (HCall.out _ HA.out).mono ?_
  rintro e w1 ⟨rfl, hB⟩
  have HL1 := Lib.hid (HL.out.trans (hB.mono HL.out.size))
  clear hB HCall
  go_wp2
  go_ret
  exact ⟨rfl, HL1.out⟩
end Go.Proofs.YtkaimdcepnhkdaaDoor
