/-
  Layer 4 (comm): communities are made.
-/
import Derived.Test.YtkaimdcepnhkdaaDoorComB
namespace Go.Proofs.YtkaimdcepnhkdaaDoor
open Go.RowKit
set_option linter.unusedSimpArgs false
set_option linter.unusedVariables false

/-- A function's own variable c (block g + 1, behind its result's block g), filled by the answer of begin. -/
structure Two (w0 w : World) (g : Nat) (l : List Int) : Prop where
  res : Blk w g 52 zc8
  var : Blk w (g + 1) 52 (u8s l).toArray
  low : Below g w0 w
  len : l.length = 8
theorem Two.grown {w0 w w' : World} {g : Nat} {l l' : List Int} (h : Two w0 w g l) (hb : Blk w' (g + 1) 52 (u8s l').toArray) (hg : w.grownBy w' (some (g + 1))) (hl : l'.length = 8) : Two w0 w' g l' := by
  have h1 := h.res.lt
  exact ⟨h.res.grown hg (by simp), hb, below_only h.low hg (by omega) (fun i e => by cases e; omega), hl⟩
theorem two_new (w w1 : World) (l : List Int) (hl : l.length = 8) (hB : Below (w.alloc (.cells zc8 52)).heap.size (w.alloc (.cells zc8 52)) w1) (hs : w1.heap.size = w.heap.size + 1 → True) (g1 : Nat) (hg1 : g1 = w1.heap.size) :
    Blk ((w1.alloc (.cells zc8 52)).setRow g1 (u8s l).toArray) g1 52 (u8s l).toArray ∧ Blk ((w1.alloc (.cells zc8 52)).setRow g1 (u8s l).toArray) w.heap.size 52 zc8 ∧ Below w.heap.size w ((w1.alloc (.cells zc8 52)).setRow g1 (u8s l).toArray) ∧ w.heap.size < g1 := by
  subst hg1
  rw [size_a1] at hB
  have hz := hB.size
  rw [size_a1] at hz
  refine ⟨Blk.setRow (Blk.new w1 52 zc8) _, ?_, ?_, by omega⟩
  · exact (((Blk.new w 52 zc8).below hB (by omega)).alloc _).below (below_setRow _ w1.heap.size _ (Nat.le_refl _)) (by omega)
  · exact (((Below.refl w.heap.size w).alloc (Nat.le_refl _) _).trans (hB.mono (by omega))).alloc (by omega) _ |>.trans (below_setRow _ _ _ (by omega))
/-- The variable g1 beside the result's block w0.heap.size. -/
structure Var (w0 w : World) (g1 : Nat) (l : List Int) : Prop where
  res : Blk w w0.heap.size 52 zc8
  var : Blk w g1 52 (u8s l).toArray
  low : Below w0.heap.size w0 w
  lt : w0.heap.size < g1
  len : l.length = 8
theorem Var.grown {w0 w w' : World} {g : Nat} {l l' : List Int} (h : Var w0 w g l) (hb : Blk w' g 52 (u8s l').toArray) (hg : w.grownBy w' (some g)) (hl : l'.length = 8) : Var w0 w' g l' := by
  have h1 := h.res.lt
  have h2 := h.lt
  exact ⟨h.res.grown hg (by simp; omega), hb, below_only h.low hg (by omega) (fun i e => by cases e; omega), h2, hl⟩
theorem var_new (w w1 : World) (l : List Int) (hl : l.length = 8) (hB : Below (w.alloc (.cells zc8 52)).heap.size (w.alloc (.cells zc8 52)) w1) : Var w ((w1.alloc (.cells zc8 52)).setRow w1.heap.size (u8s l).toArray) w1.heap.size l := by
  obtain ⟨a, b, c, d⟩ := two_new w w1 l hl hB (fun _ => trivial) _ rfl
  exact ⟨b, a, c, d, hl⟩
def tgtL (h : Int) (e : Nat) (as_ n : Int) : List Int := put8 (put8 (put8 z8 0 2 h) 2 (e - 2) as_) e (8 - e) n
theorem p0_len (h : Int) : (put8 z8 0 2 h).length = 8 := put8_len _ _ _ _ (by decide)
theorem p1_len (h : Int) (e : Nat) (a : Int) (he : 2 ≤ e ∧ e ≤ 8) : (put8 (put8 z8 0 2 h) 2 (e - 2) a).length = 8 := by rw [put8_len _ _ _ _ (by rw [p0_len]; omega), p0_len]
theorem tgtL_len (h : Int) (e : Nat) (a n : Int) (he : 2 ≤ e ∧ e ≤ 8) : (tgtL h e a n).length = 8 := by unfold tgtL; rw [put8_len _ _ _ _ (by rw [p1_len h e a he]; omega), p1_len h e a he]
set_option maxHeartbeats 2000000 in
set_option maxRecDepth 100000 in
theorem mkt_is (w : World) (h : Int) (e : Nat) (a n : Int) (he : e = 4 ∨ e = 6) (h0 : 0 ≤ h) (h1 : h < 4294967296) (a0 : 0 ≤ a) (a1 : a < 4294967296) (n0 : 0 ≤ n) (n1 : n < 4294967296) :
    Calls Tryd.prog 85 #[.int .u32 h, .int .i64 e, .int .u32 a, .int .u32 n] w fun x w' => x = .returned (.agg (u8s (tgtL h e a n)).toArray) ∧ Below w.heap.size w w' := by
  rcases he with rfl | rfl
  · go_enter Tryd.func85, Tryd.ntmps85
    go_wp2_with fail
    refine (beg_is _ h h0 h1).mono ?_
    rintro x w1 ⟨rfl, hB⟩
    have HV := Lib.hid (var_new w w1 _ (p0_len h) hB)
    have HN := Lib.hid (Blk.new w1 52 zc8)
    clear hB
    go_wp2_with (refine comm_store rfl _ _ rfl w1.heap.size (put8 z8 0 2 h) (p0_len h) rfl rfl 52 zc8 HN.out rfl ?_)
    refine (pn_is _ w1.heap.size 52 _ 2 2 6 a HV.out.var (by rw [p0_len]; omega) (by omega) a0 a1).mono ?_
    rintro x w2 ⟨rfl, hb, hg⟩
    have HV2 := Lib.hid (HV.out.grown hb hg (p1_len h 4 a (by omega)))
    clear hb hg HV HN
    go_wp2_with fail
    refine (pn_is _ w1.heap.size 52 _ 4 4 4 n HV2.out.var (by rw [p1_len h 4 a (by omega)]; omega) (by omega) n0 n1).mono ?_
    rintro x w3 ⟨rfl, hb, hg⟩
    have HV3 := Lib.hid (HV2.out.grown hb hg (tgtL_len h 4 a n (by omega)))
    clear hb hg HV2
    go_wp2_with (first
      | (refine comm_fetch rfl _ rfl w1.heap.size 0 (tgtL h 4 a n) (tgtL_len h 4 a n (by omega)) rfl HV3.out.var.range ?_)
      | (refine comm_store rfl _ _ rfl w.heap.size (tgtL h 4 a n) (tgtL_len h 4 a n (by omega)) rfl rfl 52 zc8 HV3.out.res rfl ?_))
    exact bodyPost_ret (comm_res rfl _ _ w.heap.size 52 (tgtL h 4 a n) (tgtL_len h 4 a n (by omega)) rfl (Blk.setRow HV3.out.res _)) rfl ⟨rfl, HV3.out.low.trans (below_setRow _ _ _ (Nat.le_refl _))⟩
  · go_enter Tryd.func85, Tryd.ntmps85
    go_wp2_with fail
    refine (beg_is _ h h0 h1).mono ?_
    rintro x w1 ⟨rfl, hB⟩
    have HV := Lib.hid (var_new w w1 _ (p0_len h) hB)
    have HN := Lib.hid (Blk.new w1 52 zc8)
    clear hB
    go_wp2_with (refine comm_store rfl _ _ rfl w1.heap.size (put8 z8 0 2 h) (p0_len h) rfl rfl 52 zc8 HN.out rfl ?_)
    refine (pn_is _ w1.heap.size 52 _ 2 4 6 a HV.out.var (by rw [p0_len]; omega) (by omega) a0 a1).mono ?_
    rintro x w2 ⟨rfl, hb, hg⟩
    have HV2 := Lib.hid (HV.out.grown hb hg (p1_len h 6 a (by omega)))
    clear hb hg HV HN
    go_wp2_with fail
    refine (pn_is _ w1.heap.size 52 _ 6 2 2 n HV2.out.var (by rw [p1_len h 6 a (by omega)]; omega) (by omega) n0 n1).mono ?_
    rintro x w3 ⟨rfl, hb, hg⟩
    have HV3 := Lib.hid (HV2.out.grown hb hg (tgtL_len h 6 a n (by omega)))
    clear hb hg HV2
    go_wp2_with (first
      | (refine comm_fetch rfl _ rfl w1.heap.size 0 (tgtL h 6 a n) (tgtL_len h 6 a n (by omega)) rfl HV3.out.var.range ?_)
      | (refine comm_store rfl _ _ rfl w.heap.size (tgtL h 6 a n) (tgtL_len h 6 a n (by omega)) rfl rfl 52 zc8 HV3.out.res rfl ?_))
    exact bodyPost_ret (comm_res rfl _ _ w.heap.size 52 (tgtL h 6 a n) (tgtL_len h 6 a n (by omega)) rfl (Blk.setRow HV3.out.res _)) rfl ⟨rfl, HV3.out.low.trans (below_setRow _ _ _ (Nat.le_refl _))⟩
/-- The target of a and n. -/
def tgt (a n : Int) : List Int := if a ≤ 65535 then [0, 2] ++ be 2 a ++ be 4 n else [2, 2] ++ be 4 a ++ be 2 n
theorem tgtL_4 (a n : Int) (h : a ≤ 65535) : tgtL 2 4 a n = tgt a n := by unfold tgt; rw [if_pos h]; rfl
theorem tgtL_6 (a n : Int) (h : ¬ a ≤ 65535) : tgtL 514 6 a n = tgt a n := by unfold tgt; rw [if_neg h]; rfl
theorem tgt_len (a n : Int) : (tgt a n).length = 8 := by unfold tgt; split <;> simp [be_len]
def commE (o : Option (List Int)) : Value := match o with
  | some l => .tuple #[.agg (u8s l).toArray, .int .i64 0]
  | none => .tuple #[.agg (u8s z8).toArray, .int .i64 2]
def mtO (a n : Int) : Option (List Int) := if a ≤ 65535 then some (tgt a n) else if n ≤ 65535 then some (tgt a n) else none
theorem z8_len : z8.length = 8 := rfl
set_option maxHeartbeats 2000000 in
set_option maxRecDepth 100000 in
theorem mt_is (w : World) (a n : Int) (a0 : 0 ≤ a) (a1 : a < 4294967296) (n0 : 0 ≤ n) (n1 : n < 4294967296) :
    Calls Tryd.prog 36 #[.int .u32 a, .int .u32 n] w fun x w' => x = .returned (commE (mtO a n)) ∧ Below w.heap.size w w' := by
  have HR := Lib.hid (Blk.new w 52 zc8)
  have HL := Lib.hid ((Below.refl w.heap.size w).alloc (Nat.le_refl _) (.cells zc8 52))
  by_cases ha : a ≤ 65535
  · have HO : Hid (mtO a n = some (tgt a n)) := Lib.hid (by unfold mtO; rw [if_pos ha])
    have HT := Lib.hid (tgtL_4 a n ha)
    go_enter Tryd.func36, Tryd.ntmps36
    go_wp2_with fail
    refine (mkt_is _ 2 4 a n (.inl rfl) (by decide) (by decide) a0 a1 n0 n1).mono ?_
    rintro x w1 ⟨rfl, hB⟩
    rw [HT.out]
    rw [size_a1] at hB
    have HR1 := Lib.hid (HR.out.below hB (by omega))
    have HL1 := Lib.hid (HL.out.trans (hB.mono (by omega)))
    clear hB HR HL HT
    go_wp2_with (refine comm_store rfl _ _ rfl w.heap.size (tgt a n) (tgt_len a n) rfl rfl 52 zc8 HR1.out rfl ?_)
    refine bodyPost_ret (v := commE (some (tgt a n))) ?_ rfl ⟨by rw [HO.out], HL1.out.trans (below_setRow _ _ _ (Nat.le_refl _))⟩
    exact results_cell_slot rfl _ _ w.heap.size 52 _ _ _ rfl rfl (Blk.setRow HR1.out _) Tryd.underlying52 rfl (comm_size _ (tgt_len a n))
  · by_cases hn : n ≤ 65535
    · have HO : Hid (mtO a n = some (tgt a n)) := Lib.hid (by unfold mtO; rw [if_neg ha, if_pos hn])
      have HT := Lib.hid (tgtL_6 a n ha)
      go_enter Tryd.func36, Tryd.ntmps36
      go_wp2_with fail
      refine (mkt_is _ 514 6 a n (.inr rfl) (by decide) (by decide) a0 a1 n0 n1).mono ?_
      rintro x w1 ⟨rfl, hB⟩
      rw [HT.out]
      rw [size_a1] at hB
      have HR1 := Lib.hid (HR.out.below hB (by omega))
      have HL1 := Lib.hid (HL.out.trans (hB.mono (by omega)))
      clear hB HR HL HT
      go_wp2_with (refine comm_store rfl _ _ rfl w.heap.size (tgt a n) (tgt_len a n) rfl rfl 52 zc8 HR1.out rfl ?_)
      refine bodyPost_ret (v := commE (some (tgt a n))) ?_ rfl ⟨by rw [HO.out], HL1.out.trans (below_setRow _ _ _ (Nat.le_refl _))⟩
      exact results_cell_slot rfl _ _ w.heap.size 52 _ _ _ rfl rfl (Blk.setRow HR1.out _) Tryd.underlying52 rfl (comm_size _ (tgt_len a n))
    · have HO : Hid (mtO a n = none) := Lib.hid (by unfold mtO; rw [if_neg ha, if_neg hn])
      go_enter Tryd.func36, Tryd.ntmps36
      go_wp2_with (refine comm_store rfl _ _ rfl w.heap.size z8 rfl rfl rfl 52 zc8 HR.out rfl ?_)
      refine bodyPost_ret (v := commE none) ?_ rfl ⟨by rw [HO.out], HL.out.trans (below_setRow _ _ _ (Nat.le_refl _))⟩
      exact results_cell_slot rfl _ _ w.heap.size 52 _ _ _ rfl rfl (Blk.setRow HR.out _) Tryd.underlying52 rfl (comm_size _ z8_len)
def mob (b : Bool) (n : Int) : List Int := [6, 0, fl b, 0] ++ be 4 n
def lab (b : Bool) (n : Int) : List Int := [6, 1, fl b, 0, 0] ++ be 3 n
def enc (k : Int) : List Int := [3, 12, 0, 0, 0, 0] ++ be 2 k
theorem mob_len (b : Bool) (n : Int) : (mob b n).length = 8 := by simp [mob, be_len]
theorem lab_len (b : Bool) (n : Int) : (lab b n).length = 8 := by simp [lab, be_len]
theorem enc_len (k : Int) : (enc k).length = 8 := by simp [enc, be_len]
theorem p_mob : put8 z8 0 2 1536 = [6, 0, 0, 0, 0, 0, 0, 0] := by decide
theorem p_lab : put8 z8 0 2 1537 = [6, 1, 0, 0, 0, 0, 0, 0] := by decide
theorem p_enc : put8 z8 0 2 780 = [3, 12, 0, 0, 0, 0, 0, 0] := by decide
set_option maxHeartbeats 2000000 in
set_option maxRecDepth 100000 in
theorem mm_is (w : World) (b : Bool) (n : Int) (n0 : 0 ≤ n) (n1 : n < 4294967296) :
    Calls Tryd.prog 40 #[.bool b, .int .u32 n] w fun x w' => x = .returned (.agg (u8s (mob b n)).toArray) ∧ Below w.heap.size w w' := by
  go_enter Tryd.func40, Tryd.ntmps40
  go_wp2_with fail
  refine (beg_is _ 1536 (by decide) (by decide)).mono ?_
  rintro x w1 ⟨rfl, hB⟩
  rw [p_mob]
  have HV := Lib.hid (var_new w w1 [6, 0, 0, 0, 0, 0, 0, 0] rfl hB)
  have HN := Lib.hid (Blk.new w1 52 zc8)
  clear hB
  go_wp2_with (refine comm_store rfl _ _ rfl w1.heap.size [6, 0, 0, 0, 0, 0, 0, 0] rfl rfl rfl 52 zc8 HN.out rfl ?_)
  refine (sf_is _ w1.heap.size 52 6 0 [0, 0, 0, 0, 0] b HV.out.var).mono ?_
  rintro x w2 ⟨rfl, hb, hg⟩
  have HV2 := Lib.hid (HV.out.grown hb hg rfl)
  clear hb hg HV HN
  go_wp2_with fail
  refine (pn_is _ w1.heap.size 52 _ 4 4 4 n HV2.out.var (by simp) (by omega) n0 n1).mono ?_
  rintro x w3 ⟨rfl, hb, hg⟩
  have HV3 : Hid (Var w w3 w1.heap.size (mob b n)) := Lib.hid (HV2.out.grown hb hg rfl)
  clear hb hg HV2
  go_wp2_with (first
    | (refine comm_fetch rfl _ rfl w1.heap.size 0 (mob b n) (mob_len b n) rfl HV3.out.var.range ?_)
    | (refine comm_store rfl _ _ rfl w.heap.size (mob b n) (mob_len b n) rfl rfl 52 zc8 HV3.out.res rfl ?_))
  exact bodyPost_ret (comm_res rfl _ _ w.heap.size 52 (mob b n) (mob_len b n) rfl (Blk.setRow HV3.out.res _)) rfl ⟨rfl, HV3.out.low.trans (below_setRow _ _ _ (Nat.le_refl _))⟩
def mlO (b : Bool) (n : Int) : Option (List Int) := if n ≤ 16777215 then some (lab b n) else none
set_option maxHeartbeats 2000000 in
set_option maxRecDepth 100000 in
theorem ml_is' (w : World) (b : Bool) (n : Int) (n0 : 0 ≤ n) (n1 : n < 4294967296) :
    Calls Tryd.prog 38 #[.bool b, .int .u32 n] w fun x w' => x = .returned (commE (mlO b n)) ∧ Below w.heap.size w w' := by
  by_cases hn : n ≤ 16777215
  · have HO : Hid (mlO b n = some (lab b n)) := Lib.hid (by unfold mlO; rw [if_pos hn])
    have hn' : ¬ n > 16777215 := by omega
    go_enter Tryd.func38, Tryd.ntmps38
    go_wp2_with fail
    refine (beg_is _ 1537 (by decide) (by decide)).mono ?_
    rintro x w1 ⟨rfl, hB⟩
    rw [p_lab]
    have HV := Lib.hid (var_new w w1 [6, 1, 0, 0, 0, 0, 0, 0] rfl hB)
    have HN := Lib.hid (Blk.new w1 52 zc8)
    clear hB
    go_wp2_with (refine comm_store rfl _ _ rfl w1.heap.size [6, 1, 0, 0, 0, 0, 0, 0] rfl rfl rfl 52 zc8 HN.out rfl ?_)
    refine (sf_is _ w1.heap.size 52 6 1 [0, 0, 0, 0, 0] b HV.out.var).mono ?_
    rintro x w2 ⟨rfl, hb, hg⟩
    have HV2 := Lib.hid (HV.out.grown hb hg rfl)
    clear hb hg HV HN
    go_wp2_with fail
    refine (pn_is _ w1.heap.size 52 _ 5 3 3 n HV2.out.var (by simp) (by omega) n0 n1).mono ?_
    rintro x w3 ⟨rfl, hb, hg⟩
    have HV3 : Hid (Var w w3 w1.heap.size (lab b n)) := Lib.hid (HV2.out.grown hb hg rfl)
    clear hb hg HV2
    go_wp2_with (first
      | (refine comm_fetch rfl _ rfl w1.heap.size 0 (lab b n) (lab_len b n) rfl HV3.out.var.range ?_)
      | (refine comm_store rfl _ _ rfl w.heap.size (lab b n) (lab_len b n) rfl rfl 52 zc8 HV3.out.res rfl ?_))
    refine bodyPost_ret (v := commE (some (lab b n))) ?_ rfl ⟨by rw [HO.out], HV3.out.low.trans (below_setRow _ _ _ (Nat.le_refl _))⟩
    exact results_cell_slot rfl _ _ w.heap.size 52 _ _ _ rfl rfl (Blk.setRow HV3.out.res _) Tryd.underlying52 rfl (comm_size _ (lab_len b n))
  · have HO : Hid (mlO b n = none) := Lib.hid (by unfold mlO; rw [if_neg hn])
    have HR := Lib.hid (Blk.new w 52 zc8)
    have HL := Lib.hid ((Below.refl w.heap.size w).alloc (Nat.le_refl _) (.cells zc8 52))
    have hn' : n > 16777215 := by omega
    go_enter Tryd.func38, Tryd.ntmps38
    go_wp2_with (refine comm_store rfl _ _ rfl w.heap.size z8 rfl rfl rfl 52 zc8 HR.out rfl ?_)
    refine bodyPost_ret (v := commE none) ?_ rfl ⟨by rw [HO.out], HL.out.trans (below_setRow _ _ _ (Nat.le_refl _))⟩
    exact results_cell_slot rfl _ _ w.heap.size 52 _ _ _ rfl rfl (Blk.setRow HR.out _) Tryd.underlying52 rfl (comm_size _ z8_len)
set_option maxHeartbeats 2000000 in
set_option maxRecDepth 100000 in
theorem me_is (w : World) (k : Int) (k0 : 0 ≤ k) (k1 : k < 65536) :
    Calls Tryd.prog 46 #[.int .u16 k] w fun x w' => x = .returned (.agg (u8s (enc k)).toArray) ∧ Below w.heap.size w w' := by
  have hk : k % 4294967296 = k := Int.emod_eq_of_lt k0 (by omega)
  go_enter Tryd.func46, Tryd.ntmps46
  go_wp2_with fail
  refine (beg_is _ 780 (by decide) (by decide)).mono ?_
  rintro x w1 ⟨rfl, hB⟩
  rw [p_enc]
  have HV := Lib.hid (var_new w w1 [3, 12, 0, 0, 0, 0, 0, 0] rfl hB)
  have HN := Lib.hid (Blk.new w1 52 zc8)
  clear hB
  go_wp2_with (refine comm_store rfl _ _ rfl w1.heap.size [3, 12, 0, 0, 0, 0, 0, 0] rfl rfl rfl 52 zc8 HN.out rfl ?_)
  refine (pn_is _ w1.heap.size 52 _ 6 2 2 k HV.out.var (by simp) (by omega) k0 (by omega)).mono ?_
  rintro x w3 ⟨rfl, hb, hg⟩
  have HV3 : Hid (Var w w3 w1.heap.size (enc k)) := Lib.hid (HV.out.grown hb hg rfl)
  clear hb hg HV HN
  go_wp2_with (first
    | (refine comm_fetch rfl _ rfl w1.heap.size 0 (enc k) (enc_len k) rfl HV3.out.var.range ?_)
    | (refine comm_store rfl _ _ rfl w.heap.size (enc k) (enc_len k) rfl rfl 52 zc8 HV3.out.res rfl ?_))
  exact bodyPost_ret (comm_res rfl _ _ w.heap.size 52 (enc k) (enc_len k) rfl (Blk.setRow HV3.out.res _)) rfl ⟨rfl, HV3.out.low.trans (below_setRow _ _ _ (Nat.le_refl _))⟩
end Go.Proofs.YtkaimdcepnhkdaaDoor
