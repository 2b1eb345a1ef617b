/-
  Layer 4 (comm): Text.
-/
import Derived.Test.YtkaimdcepnhkdaaDoorComI
namespace Go.Proofs.YtkaimdcepnhkdaaDoor
open Go.RowKit
set_option linter.unusedSimpArgs false
set_option linter.unusedVariables false

theorem rd_isA (w : World) (l : List Int) (hl : l.length = 8) (ho : Oct l) (f : Fd) (hf : rdF l = f) :
    Calls Tryd.prog 50 #[.agg (u8s l).toArray] w fun e w' => e = .returned (.agg (fdA f)) ∧ Below w.heap.size w w' := by
  subst hf
  exact rd_is w l hl ho
def sRt : ByteArray := ⟨#[114, 116, 32]⟩
def sMob : ByteArray := ⟨#[109, 111, 98, 105, 108, 105, 116, 121, 32]⟩
def sLab : ByteArray := ⟨#[101, 115, 105, 45, 108, 97, 98, 101, 108, 32]⟩
def sImp : ByteArray := ⟨#[101, 115, 45, 105, 109, 112, 111, 114, 116, 32]⟩
def sRtr : ByteArray := ⟨#[114, 111, 117, 116, 101, 114, 32]⟩
def sEnc : ByteArray := ⟨#[101, 110, 99, 97, 112, 32]⟩
def sOth : ByteArray := ⟨#[111, 116, 104, 101, 114, 32]⟩
def sSti : ByteArray := ⟨#[115, 116, 105, 99, 107, 121]⟩
def sSin : ByteArray := ⟨#[115, 105, 110, 103, 108, 101]⟩
/-- A community's text, by what it says. -/
def txtF (f : Fd) (l : List Int) : ByteArray :=
  if f.kind = 1 then sRt ++ asS f.form f.as_ ++ ⟨#[58]⟩ ++ decS f.n
  else if f.kind = 2 then sMob ++ decS f.n ++ fgS f.flag sSti
  else if f.kind = 3 then sLab ++ decS f.n ++ fgS f.flag sSin
  else if f.kind = 4 then sImp ++ strOfNums (prK f.mac 6)
  else if f.kind = 5 then sRtr ++ strOfNums (prK f.mac 6)
  else if f.kind = 6 then sEnc ++ decS f.n
  else sOth ++ strOfNums (hxK l 8)
def txt (l : List Int) : ByteArray := txtF (rdF l) l
theorem strOfNums_size (l : List Int) : (strOfNums l).size = l.length := by
  have h := congrArg List.length (strOfNums_data l)
  simpa using h
theorem fgS_size (b : Bool) (s : ByteArray) : (fgS b s).size ≤ 1 + s.size := by
  unfold fgS
  split
  · rw [ByteArray.size_append]; show 1 + s.size ≤ 1 + s.size; omega
  · show 0 ≤ 1 + s.size; omega
theorem asS_size (fm a : Int) (h0 : 0 ≤ a) (h1 : a < 4294967296) : (asS fm a).size ≤ 84 := by
  have hd := decS_size a h0 (by omega)
  unfold asS
  split
  · have := fourS_size ((four a).take 4) (fun x hx => four_oct a h0 h1 x (List.mem_of_mem_take hx))
    rw [List.length_take] at this
    omega
  · split
    · rw [ByteArray.size_append]; show (decS a).size + 1 ≤ 84; omega
    · omega
/-- Text's blocks. -/
structure TX (w0 w : World) (g : Nat) (t : TypeId) (f : Fd) (l : List Int) : Prop where
  com : Blk w w0.heap.size 52 (u8s l).toArray
  var : Blk w g t (fdA f)
  low : Below w0.heap.size w0 w
  env : Env w
theorem TX.below {w0 w w' : World} {g : Nat} {t : TypeId} {f : Fd} {l : List Int} (h : TX w0 w g t f l) (hB : Below w.heap.size w w') : TX w0 w' g t f l :=
  ⟨h.com.below hB h.com.lt, h.var.below hB h.var.lt, h.low.trans (hB.mono h.low.size), h.env.below hB⟩
theorem TX.drew {w0 w : World} {g : Nat} {t : TypeId} {f : Fd} {l : List Int} (h : TX w0 w g t f l) : TX w0 w.drew g t f l := ⟨h.com, h.var, below_drewN h.low 1, h.env.drewN 1⟩
theorem tx_new (w w1 : World) (E : Env w) (l : List Int) (f : Fd) (t : TypeId) (hB : Below (w.alloc (.cells (u8s l).toArray 52)).heap.size (w.alloc (.cells (u8s l).toArray 52)) w1) :
    TX w ((w1.alloc (.cells zfd t)).setRow w1.heap.size (fdA f)) w1.heap.size t f l := by
  rw [size_a1] at hB
  have hz := hB.size
  rw [size_a1] at hz
  have hl : Below w.heap.size w ((w1.alloc (.cells zfd t)).setRow w1.heap.size (fdA f)) := ((((Below.refl w.heap.size w).alloc (Nat.le_refl _) _).trans (hB.mono (by omega))).alloc (by omega) _).trans (below_setRow _ _ _ (by omega))
  exact ⟨(((Blk.new w 52 _).below hB (by omega)).alloc _).below (below_setRow _ w1.heap.size _ (Nat.le_refl _)) (by omega), Blk.setRow (Blk.new w1 t zfd) _, hl, E.below hl⟩
theorem txtF_1 (f : Fd) (l : List Int) (hk : f.kind = 1) : txtF f l = sRt ++ asS f.form f.as_ ++ ⟨#[58]⟩ ++ decS f.n := by unfold txtF; rw [if_pos hk]
set_option maxHeartbeats 2000000 in
set_option maxRecDepth 100000 in
theorem tx_1 (w : World) (E : Env w) (l : List Int) (hl : l.length = 8) (ho : Oct l) (f : Fd) (hf : rdF l = f) (ok : FdOk f) (hk : f.kind = 1) :
    Calls Tryd.prog 52 #[.agg (u8s l).toArray] w fun e w' => e = .returned (.string (txtF f l)) ∧ Below w.heap.size w w' := by
  rw [txtF_1 f l hk]
  have HC := Lib.hid (Blk.new w 52 (u8s l).toArray)
  have HF := Lib.hid hf
  have HOk := Lib.hid ok
  have a0 := ok.as0
  have a1 := ok.as1
  have n0 := ok.n0
  have n1 := ok.n1
  clear hf ok
  go_enter Tryd.func52, Tryd.ntmps52
  go_wp2_with (refine comm_fetch rfl _ rfl w.heap.size 0 l hl rfl HC.out.range ?_)
  refine (rd_isA _ l hl ho f HF.out).mono ?_
  rintro e w1 ⟨rfl, hB⟩
  have HT := Lib.hid (tx_new w w1 E l f 63 hB)
  have HN := Lib.hid (Blk.new w1 63 zfd)
  have c0 := (FdCell HT.out.var).1
  rw [hk] at c0
  clear hk hB HC HF
  have hs1 := asS_size f.form f.as_ a0 a1
  have hs2 := decS_size f.n n0 (by omega)
  have hz1 : ¬ 9223372036854775807 < 3 + (asS f.form f.as_).size := by omega
  have hz2 : ¬ 9223372036854775807 < 3 + (asS f.form f.as_).size + 1 := by omega
  have hz3 : ¬ 9223372036854775807 < 3 + (asS f.form f.as_).size + 1 + (decS f.n).size := by omega
  clear hs1 hs2
  go_wp2_with (refine fdA_store rfl _ _ rfl w1.heap.size f HOk.out.len rfl rfl 63 zfd HN.out rfl ?_)
  clear c0 HN
  generalize ((w1.alloc (.cells zfd 63)).setRow w1.heap.size (fdA f)) = w2 at *
  generalize w1.heap.size = g at *
  refine wp_region_held_drew (S := fun w' => TX w w' g 63 f l) (by kernel_rfl) (HT.out.drew) (fun hS => ?_)
  refine wpAnyH_take (i := 0) (oi := ⟨some 10, _, _, _, _, _⟩) rfl (by kernel_rfl) (by kernel_rfl) (by kernel_rfl) (fun _ _ _ h => h) (yieldsIf_load_mid (by rfl) 63 _ rfl _ _ rfl (fdc f) _ (fun wq hq => Blk.range hq.var) Tryd.underlying63 rfl (by simpa using fdc_size f HOk.out.len)) hS ?_
  try simp only [Act.put, List.setIfInBounds_toArray, List.set_cons_zero, List.set_cons_succ]
  refine wpAnyH_take (i := 4) (oi := ⟨some 14, _, _, _, _, _⟩) (v := ?_) rfl (by kernel_rfl) (by kernel_rfl) (by kernel_rfl) (fun _ _ _ h => h) (Or.inl ⟨by rfl, ?_⟩) hS ?_
  rotate_left
  · intro wq hq
    first | (go_simp; done) | (go_simp; rfl)
  try simp only [Act.put, List.setIfInBounds_toArray, List.set_cons_zero, List.set_cons_succ]
  refine wpAnyH_take (i := 5) (oi := ⟨some 15, _, _, _, _, _⟩) (v := ?_) rfl (by kernel_rfl) (by kernel_rfl) (by kernel_rfl) (fun _ _ _ h => h) (Or.inl ⟨by rfl, ?_⟩) hS ?_
  rotate_left
  · intro wq hq
    have hc := (FdCell hq.var).2.2.2.1
    first | (go_simp; done) | (go_simp; rfl)
  try simp only [Act.put, List.setIfInBounds_toArray, List.set_cons_zero, List.set_cons_succ]
  refine wpAnyH_ready (rs := [1]) (by kernel_rfl) (by simp) ?_
  refine AllReadyH.cons (o := ⟨some 11, _, _, _, _, _⟩) rfl (fun K hK => ?_) AllReadyH.nil
  rw [if_pos (by rfl)]
  go_wp2_with fail
  refine (at_is _ hS.env f HOk.out).mono ?_
  rintro e w3 ⟨rfl, hB⟩
  have hS3 := hS.below hB
  refine hK.out _ _ (hS3) (fun hS => ?_)
  clear hK K
  try simp only [Act.put, List.setIfInBounds_toArray, List.set_cons_zero, List.set_cons_succ]
  refine wpAnyH_take (i := 2) (oi := ⟨some 12, _, _, _, _, _⟩) (v := ?_) rfl (by kernel_rfl) (by kernel_rfl) (by kernel_rfl) (fun _ _ _ h => h) (Or.inl ⟨by rfl, ?_⟩) hS ?_
  rotate_left
  · intro wq hq
    first | (go_simp; done) | (go_simp; rfl)
  try simp only [Act.put, List.setIfInBounds_toArray, List.set_cons_zero, List.set_cons_succ]
  refine wpAnyH_take (i := 3) (oi := ⟨some 13, _, _, _, _, _⟩) (v := ?_) rfl (by kernel_rfl) (by kernel_rfl) (by kernel_rfl) (fun _ _ _ h => h) (Or.inl ⟨by rfl, ?_⟩) hS ?_
  rotate_left
  · intro wq hq
    first | (go_simp; done) | (go_simp; rfl)
  try simp only [Act.put, List.setIfInBounds_toArray, List.set_cons_zero, List.set_cons_succ]
  refine wpAnyH_ready (rs := [6]) (by kernel_rfl) (by simp) ?_
  refine AllReadyH.cons (o := ⟨some 16, _, _, _, _, _⟩) rfl (fun K hK => ?_) AllReadyH.nil
  rw [if_pos (by rfl)]
  go_wp2_with fail
  refine (cdec_is _ hS3.env f.n n0 n1).mono ?_
  rintro e w4 ⟨rfl, hB⟩
  have hS4 := hS3.below hB
  refine hK.out _ _ (hS4) (fun hS => ?_)
  clear hK K
  try simp only [Act.put, List.setIfInBounds_toArray, List.set_cons_zero, List.set_cons_succ]
  refine wpAnyH_take (i := 7) (oi := ⟨some 17, _, _, _, _, _⟩) (v := ?_) rfl (by kernel_rfl) (by kernel_rfl) (by kernel_rfl) (fun _ _ _ h => h) (Or.inl ⟨by rfl, ?_⟩) hS ?_
  rotate_left
  · intro wq hq
    first | (go_simp; done) | (go_simp; rfl)
  try simp only [Act.put, List.setIfInBounds_toArray, List.set_cons_zero, List.set_cons_succ]
  refine wpAnyH_take (i := 8) (oi := ⟨some 2, _, _, _, _, _⟩) (v := ?_) rfl (by kernel_rfl) (by kernel_rfl) (by kernel_rfl) (fun _ _ _ h => h) (Or.inl ⟨by rfl, ?_⟩) hS ?_
  rotate_left
  · intro wq hq
    first | (go_simp; done) | (go_simp; rfl)
  try simp only [Act.put, List.setIfInBounds_toArray, List.set_cons_zero, List.set_cons_succ]
  refine wpAnyH_done (by kernel_rfl) ?_ _
  go_wp2
  go_ret
  exact ⟨rfl, hS4.low⟩
theorem txtF_2 (f : Fd) (l : List Int) (hk : f.kind = 2) : txtF f l = sMob ++ decS f.n ++ fgS f.flag sSti := by unfold txtF; rw [if_neg (by rw [hk]; decide)]; rw [if_pos hk]
set_option maxHeartbeats 2000000 in
set_option maxRecDepth 100000 in
theorem tx_2 (w : World) (E : Env w) (l : List Int) (hl : l.length = 8) (ho : Oct l) (f : Fd) (hf : rdF l = f) (ok : FdOk f) (hk : f.kind = 2) :
    Calls Tryd.prog 52 #[.agg (u8s l).toArray] w fun e w' => e = .returned (.string (txtF f l)) ∧ Below w.heap.size w w' := by
  rw [txtF_2 f l hk]
  have HC := Lib.hid (Blk.new w 52 (u8s l).toArray)
  have HF := Lib.hid hf
  have HOk := Lib.hid ok
  have a0 := ok.as0
  have a1 := ok.as1
  have n0 := ok.n0
  have n1 := ok.n1
  clear hf ok
  go_enter Tryd.func52, Tryd.ntmps52
  go_wp2_with (refine comm_fetch rfl _ rfl w.heap.size 0 l hl rfl HC.out.range ?_)
  refine (rd_isA _ l hl ho f HF.out).mono ?_
  rintro e w1 ⟨rfl, hB⟩
  have HT := Lib.hid (tx_new w w1 E l f 63 hB)
  have HN := Lib.hid (Blk.new w1 63 zfd)
  have c0 := (FdCell HT.out.var).1
  rw [hk] at c0
  clear hk hB HC HF
  have hs2 := decS_size f.n n0 (by omega)
  have hs1 := fgS_size f.flag sSti
  have hs3 : sSti.size = 6 := rfl
  have hz1 : ¬ 9223372036854775807 < 9 + (decS f.n).size := by omega
  have hz2 : ¬ 9223372036854775807 < 9 + (decS f.n).size + (fgS f.flag sSti).size := by omega
  clear hs1 hs2 hs3
  go_wp2_with (refine fdA_store rfl _ _ rfl w1.heap.size f HOk.out.len rfl rfl 63 zfd HN.out rfl ?_)
  clear c0 HN
  generalize ((w1.alloc (.cells zfd 63)).setRow w1.heap.size (fdA f)) = w2 at *
  generalize w1.heap.size = g at *
  refine wp_region_held_drew (S := fun w' => TX w w' g 63 f l) (by kernel_rfl) (HT.out.drew) (fun hS => ?_)
  refine wpAnyH_take (i := 0) (oi := ⟨some 20, _, _, _, _, _⟩) (v := ?_) rfl (by kernel_rfl) (by kernel_rfl) (by kernel_rfl) (fun _ _ _ h => h) (Or.inl ⟨by rfl, ?_⟩) hS ?_
  rotate_left
  · intro wq hq
    first | (go_simp; done) | (go_simp; rfl)
  try simp only [Act.put, List.setIfInBounds_toArray, List.set_cons_zero, List.set_cons_succ]
  refine wpAnyH_take (i := 1) (oi := ⟨some 21, _, _, _, _, _⟩) (v := ?_) rfl (by kernel_rfl) (by kernel_rfl) (by kernel_rfl) (fun _ _ _ h => h) (Or.inl ⟨by rfl, ?_⟩) hS ?_
  rotate_left
  · intro wq hq
    have hc := (FdCell hq.var).2.2.2.1
    first | (go_simp; done) | (go_simp; rfl)
  try simp only [Act.put, List.setIfInBounds_toArray, List.set_cons_zero, List.set_cons_succ]
  refine wpAnyH_take (i := 4) (oi := ⟨some 24, _, _, _, _, _⟩) (v := ?_) rfl (by kernel_rfl) (by kernel_rfl) (by kernel_rfl) (fun _ _ _ h => h) (Or.inl ⟨by rfl, ?_⟩) hS ?_
  rotate_left
  · intro wq hq
    first | (go_simp; done) | (go_simp; rfl)
  try simp only [Act.put, List.setIfInBounds_toArray, List.set_cons_zero, List.set_cons_succ]
  refine wpAnyH_take (i := 5) (oi := ⟨some 25, _, _, _, _, _⟩) (v := ?_) rfl (by kernel_rfl) (by kernel_rfl) (by kernel_rfl) (fun _ _ _ h => h) (Or.inl ⟨by rfl, ?_⟩) hS ?_
  rotate_left
  · intro wq hq
    have hc := (FdCell hq.var).2.2.2.2
    first | (go_simp; done) | (go_simp; rfl)
  try simp only [Act.put, List.setIfInBounds_toArray, List.set_cons_zero, List.set_cons_succ]
  refine wpAnyH_ready (rs := [2]) (by kernel_rfl) (by simp) ?_
  refine AllReadyH.cons (o := ⟨some 22, _, _, _, _, _⟩) rfl (fun K hK => ?_) AllReadyH.nil
  rw [if_pos (by rfl)]
  go_wp2_with fail
  refine (cdec_is _ hS.env f.n n0 n1).mono ?_
  rintro e w3 ⟨rfl, hB⟩
  have hS3 := hS.below hB
  refine hK.out _ _ (hS3) (fun hS => ?_)
  clear hK K
  try simp only [Act.put, List.setIfInBounds_toArray, List.set_cons_zero, List.set_cons_succ]
  refine wpAnyH_take (i := 3) (oi := ⟨some 23, _, _, _, _, _⟩) (v := ?_) rfl (by kernel_rfl) (by kernel_rfl) (by kernel_rfl) (fun _ _ _ h => h) (Or.inl ⟨by rfl, ?_⟩) hS ?_
  rotate_left
  · intro wq hq
    first | (go_simp; done) | (go_simp; rfl)
  try simp only [Act.put, List.setIfInBounds_toArray, List.set_cons_zero, List.set_cons_succ]
  refine wpAnyH_ready (rs := [6]) (by kernel_rfl) (by simp) ?_
  refine AllReadyH.cons (o := ⟨some 26, _, _, _, _, _⟩) rfl (fun K hK => ?_) AllReadyH.nil
  rw [if_pos (by rfl)]
  go_wp2_with fail
  refine (ft_is _ f.flag sSti (by decide)).mono ?_
  rintro e w4 ⟨rfl, rfl⟩
  refine hK.out _ _ (hS3) (fun hS => ?_)
  clear hK K
  try simp only [Act.put, List.setIfInBounds_toArray, List.set_cons_zero, List.set_cons_succ]
  refine wpAnyH_take (i := 7) (oi := ⟨some 27, _, _, _, _, _⟩) (v := ?_) rfl (by kernel_rfl) (by kernel_rfl) (by kernel_rfl) (fun _ _ _ h => h) (Or.inl ⟨by rfl, ?_⟩) hS ?_
  rotate_left
  · intro wq hq
    first | (go_simp; done) | (go_simp; rfl)
  try simp only [Act.put, List.setIfInBounds_toArray, List.set_cons_zero, List.set_cons_succ]
  refine wpAnyH_take (i := 8) (oi := ⟨some 2, _, _, _, _, _⟩) (v := ?_) rfl (by kernel_rfl) (by kernel_rfl) (by kernel_rfl) (fun _ _ _ h => h) (Or.inl ⟨by rfl, ?_⟩) hS ?_
  rotate_left
  · intro wq hq
    first | (go_simp; done) | (go_simp; rfl)
  try simp only [Act.put, List.setIfInBounds_toArray, List.set_cons_zero, List.set_cons_succ]
  refine wpAnyH_done (by kernel_rfl) ?_ _
  go_wp2
  go_ret
  exact ⟨rfl, hS3.low⟩
theorem txtF_3 (f : Fd) (l : List Int) (hk : f.kind = 3) : txtF f l = sLab ++ decS f.n ++ fgS f.flag sSin := by unfold txtF; rw [if_neg (by rw [hk]; decide)]; rw [if_neg (by rw [hk]; decide)]; rw [if_pos hk]
set_option maxHeartbeats 2000000 in
set_option maxRecDepth 100000 in
theorem tx_3 (w : World) (E : Env w) (l : List Int) (hl : l.length = 8) (ho : Oct l) (f : Fd) (hf : rdF l = f) (ok : FdOk f) (hk : f.kind = 3) :
    Calls Tryd.prog 52 #[.agg (u8s l).toArray] w fun e w' => e = .returned (.string (txtF f l)) ∧ Below w.heap.size w w' := by
  rw [txtF_3 f l hk]
  have HC := Lib.hid (Blk.new w 52 (u8s l).toArray)
  have HF := Lib.hid hf
  have HOk := Lib.hid ok
  have a0 := ok.as0
  have a1 := ok.as1
  have n0 := ok.n0
  have n1 := ok.n1
  clear hf ok
  go_enter Tryd.func52, Tryd.ntmps52
  go_wp2_with (refine comm_fetch rfl _ rfl w.heap.size 0 l hl rfl HC.out.range ?_)
  refine (rd_isA _ l hl ho f HF.out).mono ?_
  rintro e w1 ⟨rfl, hB⟩
  have HT := Lib.hid (tx_new w w1 E l f 63 hB)
  have HN := Lib.hid (Blk.new w1 63 zfd)
  have c0 := (FdCell HT.out.var).1
  rw [hk] at c0
  clear hk hB HC HF
  have hs2 := decS_size f.n n0 (by omega)
  have hs1 := fgS_size f.flag sSin
  have hs3 : sSin.size = 6 := rfl
  have hz1 : ¬ 9223372036854775807 < 10 + (decS f.n).size := by omega
  have hz2 : ¬ 9223372036854775807 < 10 + (decS f.n).size + (fgS f.flag sSin).size := by omega
  clear hs1 hs2 hs3
  go_wp2_with (refine fdA_store rfl _ _ rfl w1.heap.size f HOk.out.len rfl rfl 63 zfd HN.out rfl ?_)
  clear c0 HN
  generalize ((w1.alloc (.cells zfd 63)).setRow w1.heap.size (fdA f)) = w2 at *
  generalize w1.heap.size = g at *
  refine wp_region_held_drew (S := fun w' => TX w w' g 63 f l) (by kernel_rfl) (HT.out.drew) (fun hS => ?_)
  refine wpAnyH_take (i := 0) (oi := ⟨some 30, _, _, _, _, _⟩) (v := ?_) rfl (by kernel_rfl) (by kernel_rfl) (by kernel_rfl) (fun _ _ _ h => h) (Or.inl ⟨by rfl, ?_⟩) hS ?_
  rotate_left
  · intro wq hq
    first | (go_simp; done) | (go_simp; rfl)
  try simp only [Act.put, List.setIfInBounds_toArray, List.set_cons_zero, List.set_cons_succ]
  refine wpAnyH_take (i := 1) (oi := ⟨some 31, _, _, _, _, _⟩) (v := ?_) rfl (by kernel_rfl) (by kernel_rfl) (by kernel_rfl) (fun _ _ _ h => h) (Or.inl ⟨by rfl, ?_⟩) hS ?_
  rotate_left
  · intro wq hq
    have hc := (FdCell hq.var).2.2.2.1
    first | (go_simp; done) | (go_simp; rfl)
  try simp only [Act.put, List.setIfInBounds_toArray, List.set_cons_zero, List.set_cons_succ]
  refine wpAnyH_take (i := 4) (oi := ⟨some 34, _, _, _, _, _⟩) (v := ?_) rfl (by kernel_rfl) (by kernel_rfl) (by kernel_rfl) (fun _ _ _ h => h) (Or.inl ⟨by rfl, ?_⟩) hS ?_
  rotate_left
  · intro wq hq
    first | (go_simp; done) | (go_simp; rfl)
  try simp only [Act.put, List.setIfInBounds_toArray, List.set_cons_zero, List.set_cons_succ]
  refine wpAnyH_take (i := 5) (oi := ⟨some 35, _, _, _, _, _⟩) (v := ?_) rfl (by kernel_rfl) (by kernel_rfl) (by kernel_rfl) (fun _ _ _ h => h) (Or.inl ⟨by rfl, ?_⟩) hS ?_
  rotate_left
  · intro wq hq
    have hc := (FdCell hq.var).2.2.2.2
    first | (go_simp; done) | (go_simp; rfl)
  try simp only [Act.put, List.setIfInBounds_toArray, List.set_cons_zero, List.set_cons_succ]
  refine wpAnyH_ready (rs := [2]) (by kernel_rfl) (by simp) ?_
  refine AllReadyH.cons (o := ⟨some 32, _, _, _, _, _⟩) rfl (fun K hK => ?_) AllReadyH.nil
  rw [if_pos (by rfl)]
  go_wp2_with fail
  refine (cdec_is _ hS.env f.n n0 n1).mono ?_
  rintro e w3 ⟨rfl, hB⟩
  have hS3 := hS.below hB
  refine hK.out _ _ (hS3) (fun hS => ?_)
  clear hK K
  try simp only [Act.put, List.setIfInBounds_toArray, List.set_cons_zero, List.set_cons_succ]
  refine wpAnyH_take (i := 3) (oi := ⟨some 33, _, _, _, _, _⟩) (v := ?_) rfl (by kernel_rfl) (by kernel_rfl) (by kernel_rfl) (fun _ _ _ h => h) (Or.inl ⟨by rfl, ?_⟩) hS ?_
  rotate_left
  · intro wq hq
    first | (go_simp; done) | (go_simp; rfl)
  try simp only [Act.put, List.setIfInBounds_toArray, List.set_cons_zero, List.set_cons_succ]
  refine wpAnyH_ready (rs := [6]) (by kernel_rfl) (by simp) ?_
  refine AllReadyH.cons (o := ⟨some 36, _, _, _, _, _⟩) rfl (fun K hK => ?_) AllReadyH.nil
  rw [if_pos (by rfl)]
  go_wp2_with fail
  refine (ft_is _ f.flag sSin (by decide)).mono ?_
  rintro e w4 ⟨rfl, rfl⟩
  refine hK.out _ _ (hS3) (fun hS => ?_)
  clear hK K
  try simp only [Act.put, List.setIfInBounds_toArray, List.set_cons_zero, List.set_cons_succ]
  refine wpAnyH_take (i := 7) (oi := ⟨some 37, _, _, _, _, _⟩) (v := ?_) rfl (by kernel_rfl) (by kernel_rfl) (by kernel_rfl) (fun _ _ _ h => h) (Or.inl ⟨by rfl, ?_⟩) hS ?_
  rotate_left
  · intro wq hq
    first | (go_simp; done) | (go_simp; rfl)
  try simp only [Act.put, List.setIfInBounds_toArray, List.set_cons_zero, List.set_cons_succ]
  refine wpAnyH_take (i := 8) (oi := ⟨some 2, _, _, _, _, _⟩) (v := ?_) rfl (by kernel_rfl) (by kernel_rfl) (by kernel_rfl) (fun _ _ _ h => h) (Or.inl ⟨by rfl, ?_⟩) hS ?_
  rotate_left
  · intro wq hq
    first | (go_simp; done) | (go_simp; rfl)
  try simp only [Act.put, List.setIfInBounds_toArray, List.set_cons_zero, List.set_cons_succ]
  refine wpAnyH_done (by kernel_rfl) ?_ _
  go_wp2
  go_ret
  exact ⟨rfl, hS3.low⟩
theorem txtF_4 (f : Fd) (l : List Int) (hk : f.kind = 4) : txtF f l = sImp ++ strOfNums (prK f.mac 6) := by unfold txtF; rw [if_neg (by rw [hk]; decide)]; rw [if_neg (by rw [hk]; decide)]; rw [if_neg (by rw [hk]; decide)]; rw [if_pos hk]
set_option maxHeartbeats 2000000 in
set_option maxRecDepth 100000 in
theorem tx_4 (w : World) (E : Env w) (l : List Int) (hl : l.length = 8) (ho : Oct l) (f : Fd) (hf : rdF l = f) (ok : FdOk f) (hk : f.kind = 4) :
    Calls Tryd.prog 52 #[.agg (u8s l).toArray] w fun e w' => e = .returned (.string (txtF f l)) ∧ Below w.heap.size w w' := by
  rw [txtF_4 f l hk]
  have HC := Lib.hid (Blk.new w 52 (u8s l).toArray)
  have HF := Lib.hid hf
  have HOk := Lib.hid ok
  have a0 := ok.as0
  have a1 := ok.as1
  have n0 := ok.n0
  have n1 := ok.n1
  clear hf ok
  go_enter Tryd.func52, Tryd.ntmps52
  go_wp2_with (refine comm_fetch rfl _ rfl w.heap.size 0 l hl rfl HC.out.range ?_)
  refine (rd_isA _ l hl ho f HF.out).mono ?_
  rintro e w1 ⟨rfl, hB⟩
  have HT := Lib.hid (tx_new w w1 E l f 63 hB)
  have HN := Lib.hid (Blk.new w1 63 zfd)
  have c0 := (FdCell HT.out.var).1
  rw [hk] at c0
  clear hk hB HC HF
  have hs1 : (strOfNums (prK f.mac 6)).size ≤ 18 := by rw [strOfNums_size]; exact prK_len f.mac 6
  have hz1 : ¬ 9223372036854775807 < 10 + (strOfNums (prK f.mac 6)).size := by omega
  clear hs1
  go_wp2_with (first
    | (refine fdA_store rfl _ _ rfl w1.heap.size f HOk.out.len rfl rfl 63 zfd HN.out rfl ?_)
    | (refine mac6_fetch rfl _ rfl w1.heap.size 5 f.mac HOk.out.len rfl (FdMac HT.out.var) ?_))
  refine (mact_is _ f.mac HOk.out.len HOk.out.oct).mono ?_
  rintro e w3 ⟨rfl, hB⟩
  have HT3 := Lib.hid (HT.out.below hB)
  clear hB HT c0 HN
  go_wp2
  go_ret
  exact ⟨rfl, HT3.out.low⟩
theorem txtF_5 (f : Fd) (l : List Int) (hk : f.kind = 5) : txtF f l = sRtr ++ strOfNums (prK f.mac 6) := by unfold txtF; rw [if_neg (by rw [hk]; decide)]; rw [if_neg (by rw [hk]; decide)]; rw [if_neg (by rw [hk]; decide)]; rw [if_neg (by rw [hk]; decide)]; rw [if_pos hk]
set_option maxHeartbeats 2000000 in
set_option maxRecDepth 100000 in
theorem tx_5 (w : World) (E : Env w) (l : List Int) (hl : l.length = 8) (ho : Oct l) (f : Fd) (hf : rdF l = f) (ok : FdOk f) (hk : f.kind = 5) :
    Calls Tryd.prog 52 #[.agg (u8s l).toArray] w fun e w' => e = .returned (.string (txtF f l)) ∧ Below w.heap.size w w' := by
  rw [txtF_5 f l hk]
  have HC := Lib.hid (Blk.new w 52 (u8s l).toArray)
  have HF := Lib.hid hf
  have HOk := Lib.hid ok
  have a0 := ok.as0
  have a1 := ok.as1
  have n0 := ok.n0
  have n1 := ok.n1
  clear hf ok
  go_enter Tryd.func52, Tryd.ntmps52
  go_wp2_with (refine comm_fetch rfl _ rfl w.heap.size 0 l hl rfl HC.out.range ?_)
  refine (rd_isA _ l hl ho f HF.out).mono ?_
  rintro e w1 ⟨rfl, hB⟩
  have HT := Lib.hid (tx_new w w1 E l f 63 hB)
  have HN := Lib.hid (Blk.new w1 63 zfd)
  have c0 := (FdCell HT.out.var).1
  rw [hk] at c0
  clear hk hB HC HF
  have hs1 : (strOfNums (prK f.mac 6)).size ≤ 18 := by rw [strOfNums_size]; exact prK_len f.mac 6
  have hz1 : ¬ 9223372036854775807 < 7 + (strOfNums (prK f.mac 6)).size := by omega
  clear hs1
  go_wp2_with (first
    | (refine fdA_store rfl _ _ rfl w1.heap.size f HOk.out.len rfl rfl 63 zfd HN.out rfl ?_)
    | (refine mac6_fetch rfl _ rfl w1.heap.size 5 f.mac HOk.out.len rfl (FdMac HT.out.var) ?_))
  refine (mact_is _ f.mac HOk.out.len HOk.out.oct).mono ?_
  rintro e w3 ⟨rfl, hB⟩
  have HT3 := Lib.hid (HT.out.below hB)
  clear hB HT c0 HN
  go_wp2
  go_ret
  exact ⟨rfl, HT3.out.low⟩
theorem txtF_6 (f : Fd) (l : List Int) (hk : f.kind = 6) : txtF f l = sEnc ++ decS f.n := by unfold txtF; rw [if_neg (by rw [hk]; decide)]; rw [if_neg (by rw [hk]; decide)]; rw [if_neg (by rw [hk]; decide)]; rw [if_neg (by rw [hk]; decide)]; rw [if_neg (by rw [hk]; decide)]; rw [if_pos hk]
set_option maxHeartbeats 2000000 in
set_option maxRecDepth 100000 in
theorem tx_6 (w : World) (E : Env w) (l : List Int) (hl : l.length = 8) (ho : Oct l) (f : Fd) (hf : rdF l = f) (ok : FdOk f) (hk : f.kind = 6) :
    Calls Tryd.prog 52 #[.agg (u8s l).toArray] w fun e w' => e = .returned (.string (txtF f l)) ∧ Below w.heap.size w w' := by
  rw [txtF_6 f l hk]
  have HC := Lib.hid (Blk.new w 52 (u8s l).toArray)
  have HF := Lib.hid hf
  have HOk := Lib.hid ok
  have a0 := ok.as0
  have a1 := ok.as1
  have n0 := ok.n0
  have n1 := ok.n1
  clear hf ok
  go_enter Tryd.func52, Tryd.ntmps52
  go_wp2_with (refine comm_fetch rfl _ rfl w.heap.size 0 l hl rfl HC.out.range ?_)
  refine (rd_isA _ l hl ho f HF.out).mono ?_
  rintro e w1 ⟨rfl, hB⟩
  have HT := Lib.hid (tx_new w w1 E l f 63 hB)
  have HN := Lib.hid (Blk.new w1 63 zfd)
  have c0 := (FdCell HT.out.var).1
  rw [hk] at c0
  clear hk hB HC HF
  have c3 := (FdCell HT.out.var).2.2.2.1
  have hs2 := decS_size f.n n0 (by omega)
  have hz1 : ¬ 9223372036854775807 < 6 + (decS f.n).size := by omega
  clear hs2
  go_wp2_with (refine fdA_store rfl _ _ rfl w1.heap.size f HOk.out.len rfl rfl 63 zfd HN.out rfl ?_)
  refine (cdec_is _ HT.out.env f.n n0 n1).mono ?_
  rintro e w3 ⟨rfl, hB⟩
  have HT3 := Lib.hid (HT.out.below hB)
  clear hB HT c0 c3 HN
  go_wp2
  go_ret
  exact ⟨rfl, HT3.out.low⟩
theorem txtF_0 (f : Fd) (l : List Int) (hk : f.kind ≠ 1 ∧ f.kind ≠ 2 ∧ f.kind ≠ 3 ∧ f.kind ≠ 4 ∧ f.kind ≠ 5 ∧ f.kind ≠ 6) : txtF f l = sOth ++ strOfNums (hxK l 8) := by unfold txtF; rw [if_neg hk.1, if_neg hk.2.1, if_neg hk.2.2.1, if_neg hk.2.2.2.1, if_neg hk.2.2.2.2.1, if_neg hk.2.2.2.2.2]
set_option maxHeartbeats 2000000 in
set_option maxRecDepth 100000 in
theorem tx_0 (w : World) (E : Env w) (l : List Int) (hl : l.length = 8) (ho : Oct l) (f : Fd) (hf : rdF l = f) (ok : FdOk f) (hk : f.kind ≠ 1 ∧ f.kind ≠ 2 ∧ f.kind ≠ 3 ∧ f.kind ≠ 4 ∧ f.kind ≠ 5 ∧ f.kind ≠ 6) :
    Calls Tryd.prog 52 #[.agg (u8s l).toArray] w fun e w' => e = .returned (.string (txtF f l)) ∧ Below w.heap.size w w' := by
  rw [txtF_0 f l hk]
  have HC := Lib.hid (Blk.new w 52 (u8s l).toArray)
  have HF := Lib.hid hf
  have HOk := Lib.hid ok
  have a0 := ok.as0
  have a1 := ok.as1
  have n0 := ok.n0
  have n1 := ok.n1
  clear hf ok
  go_enter Tryd.func52, Tryd.ntmps52
  go_wp2_with (refine comm_fetch rfl _ rfl w.heap.size 0 l hl rfl HC.out.range ?_)
  refine (rd_isA _ l hl ho f HF.out).mono ?_
  rintro e w1 ⟨rfl, hB⟩
  have HT := Lib.hid (tx_new w w1 E l f 63 hB)
  have HN := Lib.hid (Blk.new w1 63 zfd)
  have c0 := (FdCell HT.out.var).1
  obtain ⟨k1, k2, k3, k4, k5, k6⟩ := hk
  have b1 : (f.kind == 1) = false := by simpa using k1
  have b2 : (f.kind == 2) = false := by simpa using k2
  have b3 : (f.kind == 3) = false := by simpa using k3
  have b4 : (f.kind == 4) = false := by simpa using k4
  have b5 : (f.kind == 5) = false := by simpa using k5
  have b6 : (f.kind == 6) = false := by simpa using k6
  clear k1 k2 k3 k4 k5 k6 hB HC HF
  have hs1 : (strOfNums (hxK l 8)).size = 16 := by rw [strOfNums_size]; exact hxK_len l 8
  have hz1 : ¬ 9223372036854775807 < 6 + (strOfNums (hxK l 8)).size := by omega
  clear hs1
  go_wp2_with (first
    | (refine fdA_store rfl _ _ rfl w1.heap.size f HOk.out.len rfl rfl 63 zfd HN.out rfl ?_)
    | (refine comm_fetch rfl _ rfl w.heap.size 0 l hl rfl HT.out.com.range ?_))
  refine (ht_is _ l hl ho).mono ?_
  rintro e w3 ⟨rfl, hB⟩
  have HT3 := Lib.hid (HT.out.below hB)
  clear hB HT c0 HN
  go_wp2
  go_ret
  exact ⟨rfl, HT3.out.low⟩
theorem tx_is (w : World) (E : Env w) (l : List Int) (hl : l.length = 8) (ho : Oct l) :
    Calls Tryd.prog 52 #[.agg (u8s l).toArray] w fun e w' => e = .returned (.string (txt l)) ∧ Below w.heap.size w w' := by
  have ok := rdF_ok l hl ho
  unfold txt
  rcases (show (rdF l).kind = 1 ∨ (rdF l).kind = 2 ∨ (rdF l).kind = 3 ∨ (rdF l).kind = 4 ∨ (rdF l).kind = 5 ∨ (rdF l).kind = 6 ∨ ((rdF l).kind ≠ 1 ∧ (rdF l).kind ≠ 2 ∧ (rdF l).kind ≠ 3 ∧ (rdF l).kind ≠ 4 ∧ (rdF l).kind ≠ 5 ∧ (rdF l).kind ≠ 6) by omega) with h | h | h | h | h | h | h
  · exact tx_1 w E l hl ho _ rfl ok h
  · exact tx_2 w E l hl ho _ rfl ok h
  · exact tx_3 w E l hl ho _ rfl ok h
  · exact tx_4 w E l hl ho _ rfl ok h
  · exact tx_5 w E l hl ho _ rfl ok h
  · exact tx_6 w E l hl ho _ rfl ok h
  · exact tx_0 w E l hl ho _ rfl ok h
end Go.Proofs.YtkaimdcepnhkdaaDoor
