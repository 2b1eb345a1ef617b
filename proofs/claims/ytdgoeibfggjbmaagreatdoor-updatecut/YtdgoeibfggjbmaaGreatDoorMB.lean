/-
  Put together: AtE AtG AtF AtH AtS AtT AtU AtV AtW AuA AuB AuC AuD AuE AdB AuF AuG.
-/
import Derived.Test.YtdgoeibfggjbmaaGreatDoorMA
namespace Go.Proofs.YtdgoeibfggjbmaaGreatDoor
open Go.RowKit
set_option maxRecDepth 100000
set_option linter.unusedSimpArgs false
set_option linter.unusedVariables false

def Nexted (w : World) (g : Nat) (l : List Int) (at_ : Nat) (e : Ending) (w' : World) : Prop :=
  ∃ A n, e = .returned (.agg #[.int .i64 (nx l at_).f, .int .i64 (nx l at_).k, .slice A n n]) ∧ New 5 w w' A n (stepTook l (nx l at_).a (nx l at_).e (nx l at_).n) ∧
    IsCur w' g l (stepAt l (nx l at_).a (nx l at_).e (nx l at_).n) (stepErr l (nx l at_).a (nx l at_).e (nx l at_).n) ∧ w.grownBy w' (some g)
theorem wrap_num {x : Int} (h : 0 ≤ x ∧ x ≤ 65535) : IntKind.i64.wrap x = x := by rw [IntKind.wrap_i64]; omega

theorem New.grown {t : TypeId} {w w' w2 : World} {A : Option Addr} {n : Nat} {l : List Int} {g : Nat} (h : New t w w' A n l) (hb : w'.grownBy w2 (some g)) (hg : g < w.heap.size) : New t w w2 A n l :=
  ⟨h.1, h.2.1, h.2.2.imp id fun ⟨i, a, b, c⟩ => ⟨i, a, b, c.grown hb (fun e => by injection e; omega)⟩⟩

set_option maxHeartbeats 1000000 in
theorem next_is (w : World) (g : Nat) (l : List Int) (at_ : Nat) (h : IsCur w g l at_ 0) (ho : Oct l) :
    Calls Tryz.prog 167 #[.pointer (some ⟨g, 0, none⟩)] w (Nexted w g l at_) := by
  have hg := h.lt
  have hb0 : Below w.heap.size w (w.alloc (.cells #[.int .i64 0, .int .i64 0, .slice none 0 0] 67)) := (Below.refl _ _).alloc (Nat.le_refl _) _
  have HC := Lib.hid (h.keep (hb0.mono hg))
  have HN := Lib.hid (Blk.new w 67 #[.int .i64 0, .int .i64 0, .slice none 0 0])
  have HG : Hid (w.grownBy (w.alloc (.cells #[.int .i64 0, .int .i64 0, .slice none 0 0] 67)) (some g)) := Lib.hid (only_of_below hb0 _)
  unfold Nexted nx
  simp only
  clear h hb0
  go_enter Tryz.func167, Tryz.ntmps167
  go_wp2_with fail
  refine (num_is _ g l at_ 0 1 HC.out).mono ?_
  generalize (w.alloc (.cells #[.int .i64 0, .int .i64 0, .slice none 0 0] 67)) = w0 at *
  rintro e w1 ⟨rfl, hc1, hg1⟩
  have bf := numVal_bd l at_ 0 1 ho (by decide)
  generalize h_f : numVal l at_ 0 1 = f at *
  have H_f := Lib.hid h_f
  clear h_f
  generalize h_a1 : numAt l at_ 0 1 = a1 at *
  have H_a1 := Lib.hid h_a1
  clear h_a1
  generalize h_e1 : numErr l at_ 0 1 = e1 at *
  have H_e1 := Lib.hid h_e1
  clear h_e1
  have wf := wrap_num bf
  have HC1 := Lib.hid hc1
  have HN1 := Lib.hid (HN.out.grown hg1 (fun e => by injection e; omega))
  have HG1 := Lib.hid (only_trans HG.out hg1)
  clear hc1 hg1 HC HN HG
  go_wp2_with fail
  refine (num_is _ g l a1 e1 1 HC1.out).mono ?_
  rintro e w2 ⟨rfl, hc2, hg2⟩
  have bk := numVal_bd l a1 e1 1 ho (by decide)
  generalize h_k : numVal l a1 e1 1 = k at *
  have H_k := Lib.hid h_k
  clear h_k
  generalize h_a2 : numAt l a1 e1 1 = a2 at *
  have H_a2 := Lib.hid h_a2
  clear h_a2
  generalize h_e2 : numErr l a1 e1 1 = e2 at *
  have H_e2 := Lib.hid h_e2
  clear h_e2
  have wk := wrap_num bk
  have HC2 := Lib.hid hc2
  have HN2 := Lib.hid (HN1.out.grown hg2 (fun e => by injection e; omega))
  have HG2 := Lib.hid (only_trans HG1.out hg2)
  clear hc2 hg2 HC1 HN1 HG1
  go_wp2_with fail
  refine (lengthSize_is _ f).mono ?_
  rintro e w' ⟨rfl, rfl⟩
  have hls := lsz_12 f
  generalize h_s : lsz f = s at *
  have H_s := Lib.hid h_s
  clear h_s
  go_wp2_with fail
  refine (num_is _ g l a2 e2 s HC2.out).mono ?_
  rintro e w3 ⟨rfl, hc3, hg3⟩
  have bn := numVal_bd l a2 e2 s ho (by omega)
  generalize h_n : numVal l a2 e2 s = n at *
  have H_n := Lib.hid h_n
  clear h_n
  generalize h_a3 : numAt l a2 e2 s = a3 at *
  have H_a3 := Lib.hid h_a3
  clear h_a3
  generalize h_e3 : numErr l a2 e2 s = e3 at *
  have H_e3 := Lib.hid h_e3
  clear h_e3
  have wn := wrap_num bn
  have HC3 := Lib.hid hc3
  have HN3 := Lib.hid (HN2.out.grown hg3 (fun e => by injection e; omega))
  have HG3 := Lib.hid (only_trans HG2.out hg3)
  clear hc3 hg3 HC2 HN2 HG2
  go_wp2_with fail
  refine (take_is _ g l a3 e3 n HC3.out).mono ?_
  rintro e w4 ⟨A, rfl, hn4, hc4, hg4⟩
  have hN4 := HN3.out.grown hg4 (fun e => by injection e; omega)
  have HC4 := Lib.hid hc4
  have HG4 := Lib.hid (only_trans HG3.out hg4)
  have HW4 := Lib.hid (hn4.from_ HG3.out.size)
  have HN4 := Lib.hid hN4
  clear hn4 hc4 hg4 HC3 HN3 HG3 hN4
  generalize h_tk : stepTook l a3 e3 n = tk at *
  have H_tk := Lib.hid h_tk
  clear h_tk
  generalize h_a4 : stepAt l a3 e3 n = a4 at *
  have H_a4 := Lib.hid h_a4
  clear h_a4
  generalize h_e4 : stepErr l a3 e3 n = e4 at *
  have H_e4 := Lib.hid h_e4
  clear h_e4
  go_wp2_with (refine raw_store rfl _ _ rfl w.heap.size f k A tk.length tk.length rfl rfl 67 _ HN4.out rfl ?_)
  try simp only [Exit.inBlock, Exit.then]
  have hA : New 5 w (w4.setRow w.heap.size #[.int .i64 f, .int .i64 k, .slice A tk.length tk.length]) A tk.length tk := ⟨HW4.out.1, HW4.out.2.1, HW4.out.2.2.imp id fun ⟨i, a, b, c⟩ => ⟨i, a, b, (setRow_other w4 w.heap.size i _ (row_ne c HN4.out (by decide))).trans c⟩⟩
  have hB : IsCur (w4.setRow w.heap.size #[.int .i64 f, .int .i64 k, .slice A tk.length tk.length]) g l a4 e4 := HC4.out.keep (below_setRow _ w.heap.size _ (B := g + 1) (by omega))
  have hC : w.grownBy (w4.setRow w.heap.size #[.int .i64 f, .int .i64 k, .slice A tk.length tk.length]) (some g) := ⟨HG4.out.os, HG4.out.tape, HG4.out.output, by rw [size_setRow]; exact HG4.out.size, fun i hi hne => (setRow_other w4 w.heap.size i _ (by omega)).trans (HG4.out.block i hi hne)⟩
  refine bodyPost_ret (results_cell_row rfl _ _ w.heap.size 67 _ (0, 0) _ rfl (Blk.setRow HN4.out _) Tryz.underlying67 rfl rsz) rfl ?_
  obtain rfl := H_f.out
  obtain rfl := H_a1.out
  obtain rfl := H_e1.out
  obtain rfl := H_k.out
  obtain rfl := H_a2.out
  obtain rfl := H_e2.out
  obtain rfl := H_s.out
  obtain rfl := H_n.out
  obtain rfl := H_a3.out
  obtain rfl := H_e3.out
  obtain rfl := H_tk.out
  obtain rfl := H_a4.out
  obtain rfl := H_e4.out
  exact ⟨A, _, rfl, hA, hB, hC⟩

def Splitted (w : World) (l : List Int) (e : Ending) (w' : World) : Prop :=
  Below w.heap.size w w' ∧ match split l with
    | some rs => ∃ v, e = .returned (.tuple #[v, .int .i64 0]) ∧ OwnR w.heap.size w' v rs
    | none => e = .returned (.tuple #[.slice none 0 0, .int .i64 3])
/-- What the loop carries on. -/
structure SplRel (w : World) (g : Nat) (T : TypeId) (l : List Int) (v : Value) (wr : World) (at_ : Nat) (done : List Raw) : Prop where
  cur : IsCurT T wr g l at_ 0
  own : OwnR (g + 1) wr v done
  bel : Below w.heap.size w wr
  goes : ∃ m, l.length - at_ ≤ m ∧ split l = (spl m (l.drop at_)).map (done ++ ·)
  cnt : done.length ≤ at_
theorem spl_end {l : List Int} {at_ : Nat} {done : List Raw} (h : ∃ m, l.length - at_ ≤ m ∧ split l = (spl m (l.drop at_)).map (done ++ ·)) (he : at_ = l.length) : split l = some done := by
  obtain ⟨m, _, h⟩ := h
  rw [h, List.drop_of_length_le (by omega), spl_nil]
  simp
theorem spl_bad {l : List Int} {at_ : Nat} {done : List Raw} (h : ∃ m, l.length - at_ ≤ m ∧ split l = (spl m (l.drop at_)).map (done ++ ·)) (hlt : at_ < l.length) (ho : one (l.drop at_) = none) : split l = none := by
  obtain ⟨m, hm, h⟩ := h
  obtain ⟨m, rfl⟩ : ∃ q, m = q + 1 := ⟨m - 1, by omega⟩
  rw [h, spl_none (by simp; omega) ho]
  rfl
theorem spl_step {l : List Int} {at_ k : Nat} {done : List Raw} {x : Raw} (h : ∃ m, l.length - at_ ≤ m ∧ split l = (spl m (l.drop at_)).map (done ++ ·)) (hlt : at_ < l.length) (ho : one (l.drop at_) = some (x, k)) :
    ∃ m, l.length - (at_ + k) ≤ m ∧ split l = (spl m (l.drop (at_ + k))).map ((done ++ [x]) ++ ·) := by
  obtain ⟨m, hm, h⟩ := h
  obtain ⟨m, rfl⟩ : ∃ q, m = q + 1 := ⟨m - 1, by omega⟩
  have hp := one_pos ho
  refine ⟨m, by omega, ?_⟩
  rw [h, spl_some (by simp; omega) ho, List.drop_drop]
  cases spl m (l.drop (at_ + k)) <;> simp

/-- A step that turns a cursor's block leaves attributes as they are. -/
theorem OwnR.cur {lo : Nat} {w w' : World} {v : Value} {rs : List Raw} {g : Nat} {T : TypeId} {l : List Int} {a : Nat} {e : Int} (h : OwnR lo w v rs) (hc : IsCurT T w g l a e) (hg : w.grownBy w' (some g)) (h1 : T ≠ 67) (h2 : T ≠ 5) : OwnR lo w' v rs :=
  h.keep fun i c t hi _ ht => hg.block i (Array.getElem?_eq_some_iff.1 hi).1 (fun e => by
    injection e with e
    subst e
    obtain ⟨_, _, q, _, _⟩ := hc.ex
    unfold CurT Blk at q
    rw [hi] at q
    injection q with q
    injection q with _ q
    rcases ht with rfl | rfl
    · exact h1 q.symm
    · exact h2 q.symm)

set_option maxHeartbeats 2000000 in
theorem split_is (w : World) (A : Option Addr) (n c : Nat) (l : List Int) (hr : Rd w w.heap.size A n l) (hm : n ≤ 3000000000000) :
    Calls Tryz.prog 116 #[.slice A n c] w (Splitted w l) := by
  have HO := Lib.hid hr.oct
  have hln := hr.len
  have HR := Lib.hid hr
  clear hr
  go_enter Tryz.func116, Tryz.ntmps116
  go_wp2_with fail
  refine (new_is w A n c l HR.out (by omega)).mono ?_
  rintro e w1 ⟨g, rfl, hg, hcur, hB⟩
  have HC := Lib.hid hcur
  have HB := Lib.hid hB
  have HG := Lib.hid hg
  clear hcur hB hg
  go_wp2
  go_loopw [4, 6, 7] (fun v _ _ wr => ∃ at_ done, SplRel w g 212 l v wr at_ done) (fun _ _ _ wr => l.length - (intOf ((wr.cell? ⟨g, 1, none⟩).getD (.int .i64 0))).toNat)
  case atStart => exact ⟨0, [], HC.out, OwnR.nil_ _ _, HB.out, ⟨l.length, by omega, by simp [split]⟩, Nat.zero_le _⟩
  case round =>
    obtain ⟨at_, done, hrel⟩ := hrel
    have HRel := Lib.hid hrel
    have hle := hrel.cur.le
    clear hrel HC HB HR
    go_wp2_with fail
    refine (leftC_is _ g l at_ 0 HRel.out.cur).mono ?_
    rintro e w2 ⟨rfl, k1, rfl⟩
    by_cases hlt : at_ < l.length
    · have hp : (0 : Int) < (l.length : Int) - at_ := by omega
      go_wp2_with fail
      refine (next_is _ g l at_ (HRel.out.cur.drewN k1) HO.out).mono ?_
      rintro e w3 ⟨A3, n3, rfl, hn3, hc3, hg3⟩
      have hsz3 : wr.heap.size ≤ w3.heap.size := hg3.size
      have hB3 : Below w.heap.size w w3 := below_only (below_drewN HRel.out.bel k1) hg3 HRel.out.bel.size (fun j e => by injection e with e; rw [← e]; exact HG.out)
      have hO3 : OwnR (g + 1) w3 u4 done := (HRel.out.own.below (below_drewN (Below.refl _ _) k1)).cur (HRel.out.cur.drewN k1) hg3 (by decide) (by decide)
      have hN3 := hn3.body (lo := g + 1) HRel.out.cur.lt
      have hal : Below w3.heap.size w3 (w3.alloc (.cells #[.int .i64 (nx l at_).f, .int .i64 (nx l at_).k, .slice A3 n3 n3] 67)) := (Below.refl _ _).alloc (Nat.le_refl _) _
      have hcz := hc3.lt
      have HC4 := Lib.hid (hc3.keep (hal.mono hcz))
      have HB4 := Lib.hid (hB3.trans (hal.mono hB3.size))
      have HO4 := Lib.hid (hO3.below hal)
      have HN4 := Lib.hid (hN3.keep (w' := w3.alloc (.cells #[.int .i64 (nx l at_).f, .int .i64 (nx l at_).k, .slice A3 n3 n3] 67)) fun i c hi _ => hal.block i (Array.getElem?_eq_some_iff.1 hi).1)
      have HR4 := Lib.hid (Blk.new w3 67 #[.int .i64 (nx l at_).f, .int .i64 (nx l at_).k, .slice A3 n3 n3])
      have HM0 : Hid ((wr.cell? ⟨g, 1, none⟩) = some (.int .i64 at_)) := Lib.hid (by obtain ⟨_, _, q, _, _⟩ := HRel.out.cur.ex; exact Blk.cell q 1)
      clear hn3 hc3 hg3 hB3 hO3 hN3 hal
      cases ho : one (l.drop at_) with
      | none =>
        have he := nx_no l at_ HO.out hle ho
        have HS := Lib.hid (spl_bad HRel.out.goes hlt ho)
        rw [he] at HC4
        clear he ho
        generalize (nx l at_).f = f at *
        generalize (nx l at_).k = k at *
        go_wp2_with fail
        refine (err_is _ g l _ 3 HC4.out).mono ?_
        rintro e w5 ⟨rfl, rfl⟩
        go_wp2
        go_ret2
        exact ⟨HB4.out, by rw [HS.out]; rfl⟩
      | some r =>
        obtain ⟨x, m⟩ := r
        obtain ⟨q1, q2, q3, q4, q5⟩ := nx_ok l at_ x m HO.out hle ho
        have HS := Lib.hid (spl_step HRel.out.goes hlt ho)
        have hp := one_pos ho
        rw [List.length_drop] at hp
        rw [q3] at HN4
        rw [q4, q5] at HC4
        rw [q1, q2] at HC4 HB4 HO4 HN4 HR4
        rw [q1, q2]
        have HCnt := Lib.hid HRel.out.cnt
        clear q1 q2 q3 q4 q5 ho HRel
        obtain ⟨f, k, bd⟩ := x
        simp only at *
        have HLen : Hid (done.length ≤ 3000000000000) := Lib.hid (by have := HCnt.out; omega)
        go_wp2_with fail
        refine (err_is _ g l _ 0 HC4.out).mono ?_
        generalize hw4 : w3.alloc (.cells #[.int .i64 f, .int .i64 k, .slice A3 n3 n3] 67) = w4 at *
        rintro e w5 ⟨rfl, rfl⟩
        have c0 : w4.cell? ⟨w3.heap.size, 0, none⟩ = some (.int .i64 f) := HR4.out.cell 0
        have c1 : w4.cell? ⟨w3.heap.size, 1, none⟩ = some (.int .i64 k) := HR4.out.cell 1
        have c2 : w4.cell? ⟨w3.heap.size, 2, none⟩ = some (.slice A3 n3 n3) := HR4.out.cell 2
        have HZ4 : Hid (g + 1 ≤ w4.heap.size) := Lib.hid HC4.out.lt
        clear hw4 HR4
        go_wp2_with (first
          | (refine raw_fetch rfl _ rfl w3.heap.size 0 f k A3 n3 n3 rfl c0 c1 c2 ?_)
          | (at_builtin; refine app_raw (f := f) (k := k) (body := bd) rfl _ _ rfl HO4.out HZ4.out HLen.out HN4.out rfl rfl ?_))
        intro v' w6 hO6 hg6 hold
        have hb6 : Below (g + 1) w4 w6 := (Below.refl _ _).grown hg6 HZ4.out (fun i e => (hold i e).1)
        have hC6 : IsCur w6 g l (at_ + m) 0 := HC4.out.keep hb6
        have HR6 : Hid (SplRel w g 212 l v' w6 (at_ + m) (done ++ [(f, k, bd)])) := Lib.hid ⟨hC6, hO6, HB4.out.trans (hb6.mono (Nat.le_succ_of_le HG.out)), HS.out, by have := HCnt.out; simp; omega⟩
        clear hO6 hg6 hold hb6 hC6 c0 c1 c2
        go_wp2
        refine ⟨⟨at_ + m, _, HR6.out⟩, ?_⟩
        have hM6 : w6.cell? ⟨g, 1, none⟩ = some (.int .i64 (at_ + m : Nat)) := by obtain ⟨_, _, q, _, _⟩ := HR6.out.cur.ex; exact Blk.cell q 1
        rw [HM0.out, hM6]
        simp [intOf]
        omega
    · obtain rfl : at_ = l.length := by omega
      have HS := Lib.hid (spl_end HRel.out.goes rfl)
      go_wp2
      go_ret2
      exact ⟨below_drewN HRel.out.bel k1, by rw [HS.out]; exact ⟨_, rfl, (HRel.out.own.below (below_drewN (Below.refl _ _) k1)).low (Nat.le_succ_of_le HG.out)⟩⟩
end Go.Proofs.YtdgoeibfggjbmaaGreatDoor
namespace Go.Proofs.YtdgoeibfggjbmaaGreatDoor
open Go.RowKit
set_option maxRecDepth 100000
set_option linter.unusedSimpArgs false
set_option linter.unusedVariables false

/-- Bytes of the call's own. -/
structure OwnB (lo : Nat) (w : World) (v : Value) (l : List Int) : Prop where
  own : w.ownsRow lo 5 1 v l.length (u8s l)
  oct : Oct l
theorem OwnB.nil_ (lo : Nat) (w : World) : OwnB lo w (.slice none 0 0) [] := ⟨World.ownsRow_nil _ _ _ _, fun x h => by cases h⟩
theorem OwnB.keep {lo : Nat} {w w' : World} {v : Value} {l : List Int} (h : OwnB lo w v l) (hk : ∀ i c, w.heap[i]? = some (.cells c 5 (0, 0)) → lo ≤ i → v.ownBlock = some i → w'.heap[i]? = w.heap[i]?) : OwnB lo w' v l := ⟨own_keep h.own hk, h.oct⟩
theorem OwnB.below {lo : Nat} {w w' : World} {v : Value} {l : List Int} (h : OwnB lo w v l) (hb : Below w.heap.size w w') : OwnB lo w' v l :=
  h.keep fun i c hi _ _ => hb.block i (Array.getElem?_eq_some_iff.1 hi).1
theorem OwnB.low {lo lo' : Nat} {w : World} {v : Value} {l : List Int} (h : OwnB lo w v l) (hl : lo' ≤ lo) : OwnB lo' w v l := ⟨own_low h.own hl, h.oct⟩
theorem OwnB.at_ {lo : Nat} {w : World} {v : Value} {l : List Int} (h : OwnB lo w v l) :
    ∃ A c, v = .slice A l.length c ∧ l.length ≤ c ∧ Rd w w.heap.size A l.length l ∧ (0 < l.length → ∃ g, A = some ⟨g, 0, none⟩ ∧ lo ≤ g ∧ g < w.heap.size ∧ ∀ i, w.frozen? ⟨g, i, none⟩ = false) := by
  rcases h.own.2 with ⟨rfl, hn⟩ | ⟨g, cap, cur, rfl, hb, hg, hnc, hcm, hcs, hx⟩
  · exact ⟨none, 0, by rw [hn], by omega, ⟨rfl, h.oct, fun hp => by omega⟩, fun hp => by omega⟩
  · have hgl : g < w.heap.size := (Array.getElem?_eq_some_iff.1 hg).1
    refine ⟨_, cap, rfl, hnc, ⟨rfl, h.oct, fun _ => ⟨g, 0, rfl, hgl, fun i hi => ?_⟩⟩, fun _ => ⟨g, rfl, hb, hgl, fun i => by simp [World.frozen?, hg]⟩⟩
    rw [Nat.zero_add]
    have h1 : (u8s l)[i]? = some (.int .u8 (l.getD i 0)) := by simp [List.getD, hi]
    rw [← hx, List.getElem?_take, if_pos (by omega)] at h1
    simp only [World.cell?, hg]
    rw [← Array.getElem?_toList]
    exact h1

/-- append of bytes that are read, onto bytes of the call's own. -/
theorem app_bs {ops : Array Oper} {rest : List Oper} {o : Oper} {a : Act} {Q : Exit → Act → World → Prop} (hgd : o.guard = none) (s x : Operand)
    (ho : o.op = .call { callee := .builtin .append, args := #[s, x], argTypes := #[38, 38] }) {lo : Nat} {w : World} {v : Value} {P : List Int} (h : OwnB lo w v P) (hlo : lo ≤ w.heap.size)
    {A : Option Addr} {m c : Nat} {news : List Int} (hr : Rd w w.heap.size A m news) (hlen : P.length + m ≤ 100000000) (hs : a.eval s = v) (hx : a.eval x = .slice A m c)
    (hk : ∀ v' w', OwnB lo w' v' (P ++ news) → Below lo w w' → w.grownBy w' v.ownBlock → (∀ i, v.ownBlock = some i → lo ≤ i ∧ ∃ c, w.heap[i]? = some (.cells c 5 (0, 0))) → wpList Tryz.prog ops Q rest (a.put o.dst v') w') :
    wpList Tryz.prog ops Q (o :: rest) a w := by
  obtain ⟨i, hi, hz0, hz1, hz2⟩ := info_parts info_byte
  have hlm := hr.len
  have hold : ∀ i, v.ownBlock = some i → lo ≤ i ∧ ∃ c, w.heap[i]? = some (.cells c 5 (0, 0)) := fun i hi => ⟨(h.own.lt i hi).1, own_heap h.own hi⟩
  cases A with
  | none =>
    have hm0 : m = 0 := by
      rcases Nat.eq_zero_or_pos m with h0 | h0
      · exact h0
      · obtain ⟨_, _, e, _⟩ := hr.at_ h0
        cases e
    subst hm0
    have hn : news = [] := List.eq_nil_of_length_eq_zero hlm
    subst hn
    have hrun : (Builtin.append_ #[38, 38] o.type #[v, .slice none 0 c]).run Tryz.prog w = .ok v w := by
      rcases h.own.2 with ⟨rfl, hn⟩ | ⟨g, cap, cur, rfl, _, _, hnc, _⟩
      · simp [Builtin.append_, run_underlying Tryz.underlying38, sizeOf, typeInfo, hi, Builtin.lenOf, Builtin.firstCells]
      · simp [Builtin.append_, run_underlying Tryz.underlying38, sizeOf, typeInfo, hi, Builtin.lenOf, Builtin.firstCells, hnc, storeCells]
    refine wpList_plain hgd fun _ hK => ?_
    unfold Oper.wp execOp
    simp only [ho, resolve, invoke, builtin, Sem.run_bind, Sem.run_pure, Result.andThen_ok, List.map_toArray, List.map_cons, List.map_nil, hs, hx, hrun]
    exact hK _ _ (hk v w (by rw [List.append_nil]; exact h) (Below.refl _ _) (only_refl _ _) hold)
  | some ad =>
    have hsrc : ∀ j y, (u8s news)[j]? = some y → w.cell? (ad.add j) = some y := by
      rcases Nat.eq_zero_or_pos m with h0 | h0
      · intro j y hy
        have := (List.getElem?_eq_some_iff.1 hy).1
        simp at this
        omega
      · obtain ⟨b, off, e, _, hc⟩ := hr.at_ h0
        injection e with e
        subst e
        exact src_u8 hlm hc
    refine wpList_append_own_at _ hgd s x 38 ho lo 5 i _ 1 1 Tryz.underlying38 hi hz0 hz1 hz2 rfl (by decide) v P.length (u8s P) hs h.own ad m c (u8s news) hx (by simp [hlm]) hsrc (one_u8 news) (by unfold maxLen; omega) (by omega) hlo ?_
    intro v' w' hown hgr _ _
    refine hk v' w' ⟨?_, fun y hy => (List.mem_append.1 hy).elim (h.oct y) (hr.oct y)⟩ ((Below.refl lo w).grown hgr hlo (fun i e => (h.own.lt i e).1)) hgr hold
    rw [List.length_append, hlm, show u8s (P ++ news) = u8s P ++ u8s news from List.map_append]
    exact hown

/-- A slice of slices of bytes that reads as ls. -/
structure RdL (w : World) (B : Nat) (A : Option Addr) (n : Nat) (ls : List (List Int)) : Prop where
  len : ls.length = n
  at_ : 0 < n → ∃ b off, A = some ⟨b, off, none⟩ ∧ b < B ∧ ∀ i (h : i < ls.length), ∃ A1 n1 c1, w.cell? ⟨b, off + i, none⟩ = some (.slice A1 n1 c1) ∧ Rd w B A1 n1 ls[i]
theorem RdL.below {w w' : World} {B n : Nat} {A : Option Addr} {ls : List (List Int)} (h : RdL w B A n ls) (hb : Below B w w') : RdL w' B A n ls :=
  ⟨h.len, fun hn => by
    obtain ⟨b, off, e, hlt, hc⟩ := h.at_ hn
    refine ⟨b, off, e, hlt, fun i hi => ?_⟩
    obtain ⟨A1, n1, c1, h1, h2⟩ := hc i hi
    exact ⟨A1, n1, c1, (hb.cell (p := ⟨b, off + i, none⟩) hlt).trans h1, h2.below hb⟩⟩
theorem RdL.more {w : World} {B B' n : Nat} {A : Option Addr} {ls : List (List Int)} (h : RdL w B A n ls) (hb : B ≤ B') : RdL w B' A n ls :=
  ⟨h.len, fun hn => by
    obtain ⟨b, off, e, hlt, hc⟩ := h.at_ hn
    refine ⟨b, off, e, by omega, fun i hi => ?_⟩
    obtain ⟨A1, n1, c1, h1, h2⟩ := hc i hi
    exact ⟨A1, n1, c1, h1, h2.more hb⟩⟩
theorem RdL.get {w : World} {B : Nat} {A : Option Addr} {n : Nat} {ls : List (List Int)} (h : RdL w B A n ls) {m : Nat} (hm : m < ls.length) : ∃ b off A1 n1 c1, A = some ⟨b, off, none⟩ ∧ w.cell? ⟨b, off + m, none⟩ = some (.slice A1 n1 c1) ∧ Rd w B A1 n1 ls[m] := by
  obtain ⟨b, off, rfl, _, hc⟩ := h.at_ (by have := h.len; omega)
  obtain ⟨A1, n1, c1, h1, h2⟩ := hc m hm
  exact ⟨b, off, A1, n1, c1, rfl, h1, h2⟩
theorem flat_take (ls : List (List Int)) (m : Nat) (hm : m < ls.length) : (ls.take (m + 1)).flatten = (ls.take m).flatten ++ ls[m] := by
  rw [List.take_succ_eq_append_getElem hm, List.flatten_append]
  simp
theorem flat_take_le (ls : List (List Int)) (m : Nat) : (ls.take m).flatten.length ≤ ls.flatten.length := by
  have : ls.flatten = (ls.take m).flatten ++ (ls.drop m).flatten := by rw [← List.flatten_append, List.take_append_drop]
  rw [this, List.length_append]
  omega

set_option maxHeartbeats 2000000 in
theorem chain_is (w : World) (A : Option Addr) (n c : Nat) (ls : List (List Int)) (hr : RdL w w.heap.size A n ls) (hn : n ≤ 1000000) (hb : ls.flatten.length ≤ 100000000) :
    Calls Tryz.prog 157 #[.slice A n c] w fun e w' => ∃ v, e = .returned v ∧ OwnB w.heap.size w' v ls.flatten ∧ Below w.heap.size w w' := by
  have HR := Lib.hid hr
  have hlen := hr.len
  clear hr
  go_enter Tryz.func157, Tryz.ntmps157
  go_wp2
  go_loop [3, 5, 11] (fun s _ i => ∃ m : Nat, m ≤ n ∧ i = .int .i64 m ∧ s = .int .i64 ((ls.take m).flatten.length : Nat)) (fun _ _ i => n - (intOf i).toNat)
  case atStart => exact ⟨0, Nat.zero_le _, rfl, rfl⟩
  case round =>
    obtain ⟨m, hm, rfl, rfl⟩ := hrel
    by_cases hlt : m < n
    · have hml : m < ls.length := by omega
      obtain ⟨b, off, A1, n1, c1, rfl, x0, hr1⟩ := HR.out.get hml
      have HT := Lib.hid (flat_take ls m hml)
      have h1 := flat_take_le ls (m + 1)
      rw [flat_take ls m hml, List.length_append, hr1.len] at h1
      have HL := Lib.hid hr1.len
      generalize ls[m] = y at *
      generalize (ls.take m).flatten = z at *
      clear hr1
      go_wp2
      refine ⟨⟨m + 1, by omega, by go_num, ?_⟩, by simp [intOf]; omega⟩
      rw [HT.out, List.length_append, HL.out]
      go_num
    · obtain rfl : n = m := by omega
      rw [List.take_of_length_le (by omega)]
      by_cases h0 : ls.flatten.length = 0
      · have hz : ls.flatten = [] := List.eq_nil_of_length_eq_zero h0
        have HZ := Lib.hid hz
        rw [h0]
        clear h0 hz
        go_wp2
        go_ret
        exact ⟨_, rfl, by rw [HZ.out]; exact OwnB.nil_ _ _, Below.refl _ _⟩
      · have e0 : ((ls.flatten.length : Int) == 0) = false := by rw [beq_eq_false_iff_ne]; omega
        obtain ⟨i, hi, hz0, hz1, hz2⟩ := info_parts info_byte
        obtain ⟨w1, hmk, hown, hgr⟩ := run_make_own (P := Tryz.prog) w w.heap.size 38 5 i _ 1 Tryz.underlying38 hi hz0 hz1 .i64 .i64 ls.flatten.length (by rw [hz2]; omega) (by unfold maxLen; omega) (Nat.le_refl _)
        have hB1 : Below w.heap.size w w1 := (Below.refl _ _).grown hgr (Nat.le_refl _) (fun g e => by cases e)
        have HO1 : Hid (OwnB w.heap.size w1 (.slice (some ⟨w.heap.size, 0, none⟩) 0 ls.flatten.length) []) := Lib.hid ⟨hown, fun x h => by cases h⟩
        have HB1 := Lib.hid hB1
        have HR1 := Lib.hid (HR.out.below hB1)
        have HFl := Lib.hid (flat_take_le ls)
        have HFt := Lib.hid (flat_take ls)
        have hsz1 := hB1.size
        generalize hT : ls.flatten.length = T at *
        have HTT := Lib.hid hT
        clear hown hgr hB1 hi hz0 hz1 hz2 h0 hT
        go_wp2
        go_loopw [6, 8, 26] (fun v _ i wr => ∃ m : Nat, m ≤ n ∧ i = .int .i64 m ∧ OwnB w.heap.size wr v (ls.take m).flatten ∧ Below w.heap.size w wr) (fun _ _ i _ => n - (intOf i).toNat)
        case atStart => exact ⟨0, Nat.zero_le _, rfl, HO1.out, HB1.out⟩
        case round =>
          obtain ⟨m, hm, rfl, ho, hw⟩ := hrel
          by_cases hlt : m < n
          · have hml : m < ls.length := by omega
            obtain ⟨b, off, A1, n1, c1, rfl, x0, hr1⟩ := (HR.out.below hw).get hml
            have HT := Lib.hid (HFt.out m hml)
            have hle : (ls.take m).flatten.length + n1 ≤ 100000000 := by
              have h1 := HFl.out (m + 1)
              rw [HFt.out m hml, List.length_append, hr1.len] at h1
              omega
            have HO := Lib.hid ho
            have HW := Lib.hid hw
            have hsz := hw.size
            have HR2 := Lib.hid (hr1.more hw.size)
            generalize ls[m] = y at *
            generalize (ls.take m).flatten = z at *
            clear hr1 ho hw hmk
            go_wp2_with (at_builtin; refine app_bs rfl _ _ rfl HO.out hsz HR2.out hle rfl rfl ?_)
            intro v' w2 ho2 hb2 _ _
            have HO2 := Lib.hid ho2
            have HB2 := Lib.hid (HW.out.trans hb2)
            clear ho2 hb2
            go_wp2
            exact ⟨⟨m + 1, by omega, by go_num, by rw [HT.out]; exact HO2.out, HB2.out⟩, by simp [intOf]; omega⟩
          · obtain rfl : n = m := by omega
            rw [List.take_of_length_le (by omega)] at ho
            have HO := Lib.hid ho
            have HW := Lib.hid hw
            clear ho hw
            go_wp2
            go_ret
            exact ⟨_, rfl, HO.out, HW.out⟩

/-- Spoil of bytes in one block that are not frozen: nothing but that block turns. -/
def U8At (w : World) (g n : Nat) : Prop := ∀ i, i < n → (∃ x : Int, 0 ≤ x ∧ x < 256 ∧ w.cell? ⟨g, i, none⟩ = some (.int .u8 x)) ∧ w.frozen? ⟨g, i, none⟩ = false
theorem U8At.set_ {w : World} {g n : Nat} (h : U8At w g n) (k : Nat) {x : Int} (h0 : 0 ≤ x) (h1 : x < 256) : U8At (w.setCell ⟨g, k, none⟩ (.int .u8 x)) g n := by
  intro i hi
  obtain ⟨⟨y, y0, y1, hy⟩, hf⟩ := h i hi
  refine ⟨?_, by simpa using hf⟩
  by_cases hk : i = k
  · subst hk
    exact ⟨x, h0, h1, World.cell?_setCell_same _ _ _ hy⟩
  · exact ⟨y, y0, y1, by rw [World.cell?_setCell_other _ _ _ _ (fun e => hk (by injection e with _ e2; exact e2.symm))]; exact hy⟩
end Go.Proofs.YtdgoeibfggjbmaaGreatDoor
namespace Go.Proofs.YtdgoeibfggjbmaaGreatDoor
open Go.RowKit
set_option maxRecDepth 100000
set_option linter.unusedSimpArgs false
set_option linter.unusedVariables false

theorem rd_made (w : World) (l : List Int) (ho : Oct l) : Rd (w.alloc (.cells (l.map (Value.int .u8)).toArray 5)) (w.heap.size + 1) (some ⟨w.heap.size, 0, none⟩) l.length l := by
  have hb : Byt (w.alloc (.cells (l.map (Value.int .u8)).toArray 5)) w.heap.size 5 l := Blk.new w 5 _
  exact hb.rd_all ho (by omega)

end Go.Proofs.YtdgoeibfggjbmaaGreatDoor
namespace Go.Proofs.YtdgoeibfggjbmaaGreatDoor
open Go.RowKit
set_option maxRecDepth 100000
set_option linter.unusedSimpArgs false
set_option linter.unusedVariables false

/-- What Join says of one attribute: 0, or the error. -/
def encE (r : Raw) : Int := if 0 ≤ r.1 ∧ r.1 ≤ 255 ∧ 0 ≤ r.2.1 ∧ r.2.1 ≤ 255 then (if r.2.2.length < 256 ^ lsz r.1 then 0 else 5) else 2
def encB (r : Raw) : List Int := [r.1, r.2.1] ++ (be (lsz r.1) r.2.2.length ++ r.2.2)
def BytesOf (w : World) (r : Raw) (e : Ending) (w' : World) : Prop :=
  Below w.heap.size w w' ∧ if encE r = 0 then ∃ v, e = .returned (.tuple #[v, .int .i64 0]) ∧ OwnB w.heap.size w' v (encB r) else e = .returned (.tuple #[.slice none 0 0, .int .i64 (encE r)])
theorem lsz_pow (f : Int) : (256 : Nat) ^ lsz f = 256 ∨ (256 : Nat) ^ lsz f = 65536 := by
  rcases lsz_12 f with h | h <;> rw [h] <;> simp

set_option maxHeartbeats 2000000 in
theorem bytesOf_bad (w : World) (f k : Int) (A : Option Addr) (n c : Nat) (v : List Int) (h : ¬ (0 ≤ f ∧ f ≤ 255 ∧ 0 ≤ k ∧ k ≤ 255)) :
    Calls Tryz.prog 98 #[.agg #[.int .i64 f, .int .i64 k, .slice A n c]] w (BytesOf w (f, k, v)) := by
  have HE : Hid (encE (f, k, v) = 2) := Lib.hid (by unfold encE; rw [if_neg h])
  have HB : Hid (Below w.heap.size w (w.alloc (.cells #[.int .i64 f, .int .i64 k, .slice A n c] 67))) := Lib.hid ((Below.refl _ _).alloc (Nat.le_refl _) _)
  by_cases hf : 0 ≤ f ∧ f ≤ 255
  · have hk : decide (0 ≤ k ∧ k ≤ 255) = false := by simp; omega
    have hf' : decide (0 ≤ f ∧ f ≤ 255) = true := by simpa using hf
    have H1 := Lib.hid (fun w => isByte_is w f)
    have H2 := Lib.hid (fun w => isByte_is w k)
    rw [hf'] at H1
    rw [hk] at H2
    clear hf hk hf' h
    go_enter Tryz.func98, Tryz.ntmps98
    go_wp2_with fail
    refine (H1.out _).mono ?_
    rintro e w' ⟨rfl, rfl⟩
    go_wp2_with fail
    refine (H2.out _).mono ?_
    rintro e w' ⟨rfl, rfl⟩
    go_wp2
    go_ret2
    exact ⟨HB.out, by rw [HE.out]; rfl⟩
  · have hf' : decide (0 ≤ f ∧ f ≤ 255) = false := by simp; omega
    have H1 := Lib.hid (fun w => isByte_is w f)
    rw [hf'] at H1
    clear hf hf' h
    go_enter Tryz.func98, Tryz.ntmps98
    go_wp2_with fail
    refine (H1.out _).mono ?_
    rintro e w' ⟨rfl, rfl⟩
    go_wp2
    go_ret2
    exact ⟨HB.out, by rw [HE.out]; rfl⟩

theorem u64_small {n : Nat} (h : n ≤ 140737488355328) : IntKind.u64.wrap (n : Int) = n := by rw [IntKind.wrap_u64]; omega
set_option maxHeartbeats 4000000 in
theorem bytesOf_ok (w : World) (f k : Int) (A : Option Addr) (n c : Nat) (v : List Int) (hr : Rd w w.heap.size A n v) (hm : n ≤ 140737488355328) (h : 0 ≤ f ∧ f ≤ 255 ∧ 0 ≤ k ∧ k ≤ 255) :
    Calls Tryz.prog 98 #[.agg #[.int .i64 f, .int .i64 k, .slice A n c]] w (BytesOf w (f, k, v)) := by
  have hln := hr.len
  have HE : Hid (encE (f, k, v) = if n < 256 ^ lsz f then 0 else 5) := Lib.hid (by unfold encE; rw [if_pos h, ← hln])
  have HEB : Hid (encB (f, k, v) = [f, k] ++ (be (lsz f) n ++ v)) := Lib.hid (by unfold encB; rw [← hln])
  have hB0 : Below w.heap.size w (w.alloc (.cells #[.int .i64 f, .int .i64 k, .slice A n c] 67)) := (Below.refl _ _).alloc (Nat.le_refl _) _
  have HB0 := Lib.hid hB0
  have HN0 := Lib.hid (Blk.new w 67 #[.int .i64 f, .int .i64 k, .slice A n c])
  have HR0 := Lib.hid (hr.below hB0)
  have hz0 : w.heap.size < (w.alloc (.cells #[.int .i64 f, .int .i64 k, .slice A n c] 67)).heap.size := by simp
  have HZ0 := Lib.hid hz0
  have H1 := Lib.hid (fun w => isByte_is w f)
  have H2 := Lib.hid (fun w => isByte_is w k)
  rw [show decide (0 ≤ f ∧ f ≤ 255) = true by simp; omega] at H1
  rw [show decide (0 ≤ k ∧ k ≤ 255) = true by simp; omega] at H2
  have hls := lsz_12 f
  have hu := u64_small hm
  have HF := Lib.hid h
  clear hr hB0 h hz0
  go_enter Tryz.func98, Tryz.ntmps98
  go_wp2_with fail
  refine (H1.out _).mono ?_
  rintro e w' ⟨rfl, rfl⟩
  go_wp2_with fail
  refine (H2.out _).mono ?_
  rintro e w' ⟨rfl, rfl⟩
  generalize hw0 : (w.alloc (.cells #[.int .i64 f, .int .i64 k, .slice A n c] 67)) = w0 at *
  clear hw0 H1 H2
  go_wp2
  refine wp_region_held_drew (S := fun W => Below w.heap.size w W ∧ Blk W w.heap.size 67 #[.int .i64 f, .int .i64 k, .slice A n c]) (by kernel_rfl) (⟨below_drewN HB0.out 1, HN0.out⟩) (fun hS => ?_)
  refine wpAnyH_take (i := 0) (oi := ⟨some 17, _, _, _, _, _⟩) (v := ?_) rfl (by kernel_rfl) (by kernel_rfl) (by kernel_rfl) (fun _ _ _ h => h) (Or.inl ⟨by rfl, ?_⟩) hS ?_
  rotate_left
  · intro wq hq
    first | (go_simp; done) | (go_simp; rfl)
  try simp only [Act.put, List.setIfInBounds_toArray, List.set_cons_zero, List.set_cons_succ]
  refine wpAnyH_take (i := 1) (oi := ⟨some 18, _, _, _, _, _⟩) (v := ?_) rfl (by kernel_rfl) (by kernel_rfl) (by kernel_rfl) (fun _ _ _ h => h) (Or.inl ⟨by rfl, ?_⟩) hS ?_
  rotate_left
  · intro wq hq
    have d2 : wq.cell? ⟨w.heap.size, 2, none⟩ = some (.slice A n c) := hq.2.cell 2
    first | (go_simp; done) | (go_simp; rfl)
  try simp only [Act.put, List.setIfInBounds_toArray, List.set_cons_zero, List.set_cons_succ]
  refine wpAnyH_take (i := 2) (oi := ⟨some 19, _, _, _, _, _⟩) (v := ?_) rfl (by kernel_rfl) (by kernel_rfl) (by kernel_rfl) (fun _ _ _ h => h) (Or.inl ⟨by rfl, ?_⟩) hS ?_
  rotate_left
  · intro wq hq
    first | (go_simp; done) | (go_simp; rfl)
  try simp only [Act.put, List.setIfInBounds_toArray, List.set_cons_zero, List.set_cons_succ]
  refine wpAnyH_take (i := 3) (oi := ⟨some 20, _, _, _, _, _⟩) (v := ?_) rfl (by kernel_rfl) (by kernel_rfl) (by kernel_rfl) (fun _ _ _ h => h) (Or.inl ⟨by rfl, ?_⟩) hS ?_
  rotate_left
  · intro wq hq
    first | (go_simp; done) | (go_simp; rfl)
  try simp only [Act.put, List.setIfInBounds_toArray, List.set_cons_zero, List.set_cons_succ]
  refine wpAnyH_take (i := 4) (oi := ⟨some 21, _, _, _, _, _⟩) (v := ?_) rfl (by kernel_rfl) (by kernel_rfl) (by kernel_rfl) (fun _ _ _ h => h) (Or.inl ⟨by rfl, ?_⟩) hS ?_
  rotate_left
  · intro wq hq
    first | (go_simp; done) | (go_simp; rfl)
  try simp only [Act.put, List.setIfInBounds_toArray, List.set_cons_zero, List.set_cons_succ]
  refine wpAnyH_take (i := 5) (oi := ⟨some 22, _, _, _, _, _⟩) (v := ?_) rfl (by kernel_rfl) (by kernel_rfl) (by kernel_rfl) (fun _ _ _ h => h) (Or.inl ⟨by rfl, ?_⟩) hS ?_
  rotate_left
  · intro wq hq
    have d0 : wq.cell? ⟨w.heap.size, 0, none⟩ = some (.int .i64 f) := hq.2.cell 0
    first | (go_simp; done) | (go_simp; rfl)
  try simp only [Act.put, List.setIfInBounds_toArray, List.set_cons_zero, List.set_cons_succ]
  refine wpAnyH_ready (rs := [6]) (by kernel_rfl) (by simp) ?_
  refine AllReadyH.cons (o := ⟨some 23, _, _, _, _, _⟩) rfl (fun K hK => ?_) AllReadyH.nil
  rw [if_pos (by rfl)]
  go_wp2_with fail
  refine (lengthSize_is _ f).mono ?_
  rintro e w' ⟨rfl, rfl⟩
  have hS1 := hS
  refine hK.out _ _ (hS1) (fun hS => ?_)
  clear hK K
  try simp only [Act.put, List.setIfInBounds_toArray, List.set_cons_zero, List.set_cons_succ]
  clear hS1
  have hfit : ∀ s : Nat, (n : Int) < 256 ^ s ↔ n < 256 ^ s := fun s => by
    have h : ((256 ^ s : Nat) : Int) = (256 : Int) ^ s := by simp
    omega
  have HFit := Lib.hid (hfit (lsz f))
  clear hfit
  generalize lsz f = s at *
  refine wpAnyH_ready (rs := [7]) (by kernel_rfl) (by simp) ?_
  refine AllReadyH.cons (o := ⟨some 24, _, _, _, _, _⟩) rfl (fun K hK => ?_) AllReadyH.nil
  rw [if_pos (by rfl)]
  go_wp2_with fail
  refine (put_is _ none 0 0 [] n s (Rd.nil_ _) (by omega) (by omega) (by omega)).mono ?_
  rintro e w1 ⟨hB, he⟩
  have hS1 := hS
  by_cases hn : n < 256 ^ s
  · rw [if_pos ⟨by omega, by omega, by rw [Int.toNat_natCast]; exact HFit.out.2 hn⟩] at he
    simp only [List.length_nil, Nat.zero_add, Int.toNat_natCast, List.nil_append] at he
    obtain ⟨rfl, hby⟩ := he
    rw [if_pos hn] at HE
    refine hK.out _ _ (⟨hS1.1.trans (hB.mono hS1.1.size), hS1.2.below hB hS1.2.lt⟩) (fun hS => ?_)
    clear hK K
    try simp only [Act.put, List.setIfInBounds_toArray, List.set_cons_zero, List.set_cons_succ]
    refine wpAnyH_take (i := 8) (oi := ⟨some 16, _, _, _, _, _⟩) (v := ?_) rfl (by kernel_rfl) (by kernel_rfl) (by kernel_rfl) (fun _ _ _ h => h) (Or.inl ⟨by rfl, ?_⟩) hS ?_
    rotate_left
    · intro wq hq
      first | (go_simp; done) | (go_simp; rfl)
    try simp only [Act.put, List.setIfInBounds_toArray, List.set_cons_zero, List.set_cons_succ]
    refine wpAnyH_take (i := 9) (oi := ⟨some 25, _, _, _, _, _⟩) (v := ?_) rfl (by kernel_rfl) (by kernel_rfl) (by kernel_rfl) (fun _ _ _ h => h) (Or.inl ⟨by rfl, ?_⟩) hS ?_
    rotate_left
    · intro wq hq
      first | (go_simp; done) | (go_simp; rfl)
    try simp only [Act.put, List.setIfInBounds_toArray, List.set_cons_zero, List.set_cons_succ]
    refine wpAnyH_take (i := 10) (oi := ⟨some 26, _, _, _, _, _⟩) (v := ?_) rfl (by kernel_rfl) (by kernel_rfl) (by kernel_rfl) (fun _ _ _ h => h) (Or.inl ⟨by rfl, ?_⟩) hS ?_
    rotate_left
    · intro wq hq
      first | (go_simp; done) | (go_simp; rfl)
    try simp only [Act.put, List.setIfInBounds_toArray, List.set_cons_zero, List.set_cons_succ]
    refine wpAnyH_take (i := 11) (oi := ⟨some 4, _, _, _, _, _⟩) (v := ?_) rfl (by kernel_rfl) (by kernel_rfl) (by kernel_rfl) (fun _ _ _ h => h) (Or.inl ⟨by rfl, ?_⟩) hS ?_
    rotate_left
    · intro wq hq
      first | (go_simp; done) | (go_simp; rfl)
    try simp only [Act.put, List.setIfInBounds_toArray, List.set_cons_zero, List.set_cons_succ]
    refine wpAnyH_take (i := 12) (oi := ⟨some 5, _, _, _, _, _⟩) (v := ?_) rfl (by kernel_rfl) (by kernel_rfl) (by kernel_rfl) (fun _ _ _ h => h) (Or.inl ⟨by rfl, ?_⟩) hS ?_
    rotate_left
    · intro wq hq
      first | (go_simp; done) | (go_simp; rfl)
    try simp only [Act.put, List.setIfInBounds_toArray, List.set_cons_zero, List.set_cons_succ]
    refine wpAnyH_done (by kernel_rfl) ?_ _
    have hB1 := hS.1
    have hN1 := hS.2
    have hby1 : Byt w1 w0.heap.size 5 (be s n) := hby
    have c0 : w1.cell? ⟨w.heap.size, 0, none⟩ = some (.int .i64 f) := hN1.cell 0
    have c1 : w1.cell? ⟨w.heap.size, 1, none⟩ = some (.int .i64 k) := hN1.cell 1
    have c2 : w1.cell? ⟨w.heap.size, 2, none⟩ = some (.slice A n c) := hN1.cell 2
    have d2 : (w1.alloc (.cells #[.int .u8 f, .int .u8 k] 5)).cell? ⟨w.heap.size, 2, none⟩ = some (.slice A n c) := (hN1.alloc _).cell 2
    have hwf : IntKind.u8.wrap f = f := by have := HF.out; rw [wrap_u8_mod]; omega
    have hwk : IntKind.u8.wrap k = k := by have := HF.out; rw [wrap_u8_mod]; omega
    have hr1 : Rd w1 w.heap.size A n v := (HR0.out.below (w' := w1) ((below_drewN (Below.refl _ _) 1).trans (hB.mono (by have := HB0.out.size; exact this))))
    have hRd : Rd w1 w1.heap.size (some ⟨w0.heap.size, 0, none⟩) s (be s n) := by
      have := hby1.rd_all (be_oct s n) hby1.lt
      rwa [be_len] at this
    have hal1 : Below w1.heap.size w1 (w1.alloc (.cells #[.int .u8 f, .int .u8 k] 5)) := (Below.refl _ _).alloc (Nat.le_refl _) _
    have hof : Oct [f, k] := by have := HF.out; intro x hx; simp at hx; omega
    have h2 := rd_made w1 [f, k] hof
    have hal2 : Below (w1.heap.size + 1) (w1.alloc (.cells #[.int .u8 f, .int .u8 k] 5)) ((w1.alloc (.cells #[.int .u8 f, .int .u8 k] 5)).alloc (.cells #[.slice (some ⟨w1.heap.size, 0, none⟩) 2 2, .slice (some ⟨w0.heap.size, 0, none⟩) s s, .slice A n c] 38)) := (Below.refl _ _).alloc (by simp) _
    have hB3 : Below w.heap.size w ((w1.alloc (.cells #[.int .u8 f, .int .u8 k] 5)).alloc (.cells #[.slice (some ⟨w1.heap.size, 0, none⟩) 2 2, .slice (some ⟨w0.heap.size, 0, none⟩) s s, .slice A n c] 38)) := hB1.trans ((hal1.mono hB1.size).trans (hal2.mono (by have := hB1.size; omega)))
    have hbl := Blk.new (w1.alloc (.cells #[.int .u8 f, .int .u8 k] 5)) 38 #[.slice (some ⟨w1.heap.size, 0, none⟩) 2 2, .slice (some ⟨w0.heap.size, 0, none⟩) s s, .slice A n c]
    have hRB : RdL ((w1.alloc (.cells #[.int .u8 f, .int .u8 k] 5)).alloc (.cells #[.slice (some ⟨w1.heap.size, 0, none⟩) 2 2, .slice (some ⟨w0.heap.size, 0, none⟩) s s, .slice A n c] 38)) ((w1.alloc (.cells #[.int .u8 f, .int .u8 k] 5)).alloc (.cells #[.slice (some ⟨w1.heap.size, 0, none⟩) 2 2, .slice (some ⟨w0.heap.size, 0, none⟩) s s, .slice A n c] 38)).heap.size (some ⟨w1.heap.size + 1, 0, none⟩) 3 [[f, k], be s n, v] := by
      have hz : ((w1.alloc (.cells #[.int .u8 f, .int .u8 k] 5)).alloc (.cells #[.slice (some ⟨w1.heap.size, 0, none⟩) 2 2, .slice (some ⟨w0.heap.size, 0, none⟩) s s, .slice A n c] 38)).heap.size = w1.heap.size + 2 := by simp
      have hz1 : (w1.alloc (.cells #[.int .u8 f, .int .u8 k] 5)).heap.size = w1.heap.size + 1 := by simp
      rw [hz1] at hbl
      rw [hz]
      refine ⟨rfl, fun _ => ⟨w1.heap.size + 1, 0, rfl, by omega, fun i hi => ?_⟩⟩
      match i, hi with
      | 0, _ => exact ⟨_, 2, 2, hbl.cell 0, (h2.below hal2).more (by omega)⟩
      | 1, _ => exact ⟨_, s, s, hbl.cell 1, ((hRd.below hal1).below (hal2.mono (by omega))).more (by omega)⟩
      | 2, _ => exact ⟨A, n, c, hbl.cell 2, ((hr1.below (hal1.mono hB1.size)).below (hal2.mono (by have := hB1.size; omega))).more (by have := hB1.size; omega)⟩
    have HRB := Lib.hid hRB
    have HB3 := Lib.hid hB3
    have hbel := be_len s n
    have HFl : Hid (([[f, k], be s n, v] : List (List Int)).flatten = [f, k] ++ (be s n ++ v)) := Lib.hid (by simp)
    have hfl : ([[f, k], be s n, v] : List (List Int)).flatten.length ≤ 100000000 := by
      rw [HFl.out, List.length_append, List.length_append, hbel, hln]
      rcases hls with rfl | rfl
      · simp at hn; simp; omega
      · simp at hn; simp; omega
    clear hB hB1 hN1 hby hby1 hr1 hRd hal1 hof h2 hal2 hB3 hbl hRB hbel hS hS1 HR0 HN0 HB0
    go_wp2_with fail
    refine (chain_is _ _ 3 3 _ HRB.out (by decide) hfl).mono ?_
    rintro e w4 ⟨v', rfl, ho, hb⟩
    have HO := Lib.hid ho
    have HB4 := Lib.hid (HB3.out.trans (hb.mono HB3.out.size))
    have HLo := Lib.hid HB3.out.size
    clear ho hb HB3 HRB
    go_wp2
    go_ret2
    refine ⟨HB4.out, ?_⟩
    rw [HE.out, if_pos rfl, HEB.out, ← HFl.out]
    exact ⟨_, rfl, HO.out.low HLo.out⟩
  · rw [if_neg (fun h => hn (HFit.out.1 (by have := h.2.2; rwa [Int.toNat_natCast] at this)))] at he
    subst he
    rw [if_neg hn] at HE
    refine hK.out _ _ (⟨hS1.1.trans (hB.mono hS1.1.size), hS1.2.below hB hS1.2.lt⟩) (fun hS => ?_)
    clear hK K
    try simp only [Act.put, List.setIfInBounds_toArray, List.set_cons_zero, List.set_cons_succ]
    refine wpAnyH_take (i := 8) (oi := ⟨some 16, _, _, _, _, _⟩) (v := ?_) rfl (by kernel_rfl) (by kernel_rfl) (by kernel_rfl) (fun _ _ _ h => h) (Or.inl ⟨by rfl, ?_⟩) hS ?_
    rotate_left
    · intro wq hq
      first | (go_simp; done) | (go_simp; rfl)
    try simp only [Act.put, List.setIfInBounds_toArray, List.set_cons_zero, List.set_cons_succ]
    refine wpAnyH_take (i := 9) (oi := ⟨some 25, _, _, _, _, _⟩) (v := ?_) rfl (by kernel_rfl) (by kernel_rfl) (by kernel_rfl) (fun _ _ _ h => h) (Or.inl ⟨by rfl, ?_⟩) hS ?_
    rotate_left
    · intro wq hq
      first | (go_simp; done) | (go_simp; rfl)
    try simp only [Act.put, List.setIfInBounds_toArray, List.set_cons_zero, List.set_cons_succ]
    refine wpAnyH_take (i := 10) (oi := ⟨some 26, _, _, _, _, _⟩) (v := ?_) rfl (by kernel_rfl) (by kernel_rfl) (by kernel_rfl) (fun _ _ _ h => h) (Or.inl ⟨by rfl, ?_⟩) hS ?_
    rotate_left
    · intro wq hq
      first | (go_simp; done) | (go_simp; rfl)
    try simp only [Act.put, List.setIfInBounds_toArray, List.set_cons_zero, List.set_cons_succ]
    refine wpAnyH_take (i := 11) (oi := ⟨some 4, _, _, _, _, _⟩) (v := ?_) rfl (by kernel_rfl) (by kernel_rfl) (by kernel_rfl) (fun _ _ _ h => h) (Or.inl ⟨by rfl, ?_⟩) hS ?_
    rotate_left
    · intro wq hq
      first | (go_simp; done) | (go_simp; rfl)
    try simp only [Act.put, List.setIfInBounds_toArray, List.set_cons_zero, List.set_cons_succ]
    refine wpAnyH_take (i := 12) (oi := ⟨some 5, _, _, _, _, _⟩) (v := ?_) rfl (by kernel_rfl) (by kernel_rfl) (by kernel_rfl) (fun _ _ _ h => h) (Or.inl ⟨by rfl, ?_⟩) hS ?_
    rotate_left
    · intro wq hq
      first | (go_simp; done) | (go_simp; rfl)
    try simp only [Act.put, List.setIfInBounds_toArray, List.set_cons_zero, List.set_cons_succ]
    refine wpAnyH_done (by kernel_rfl) ?_ _
    have HB3 := Lib.hid hS.1
    clear hS hS1 hB
    go_wp2
    go_ret2
    exact ⟨HB3.out, by rw [HE.out]; rfl⟩

theorem bytesOf_is (w : World) (f k : Int) (A : Option Addr) (n c : Nat) (v : List Int) (hr : Rd w w.heap.size A n v) (hm : n ≤ 140737488355328) :
    Calls Tryz.prog 98 #[.agg #[.int .i64 f, .int .i64 k, .slice A n c]] w (BytesOf w (f, k, v)) := by
  by_cases h : 0 ≤ f ∧ f ≤ 255 ∧ 0 ≤ k ∧ k ≤ 255
  · exact bytesOf_ok w f k A n c v hr hm h
  · exact bytesOf_bad w f k A n c v h
theorem encB_len (r : Raw) (h : encE r = 0) : (encB r).length ≤ 65539 := by
  unfold encE at h
  split at h
  · split at h
    · rename_i h2
      unfold encB
      rw [List.length_append, List.length_append, be_len]
      rcases lsz_12 r.1 with e | e <;> rw [e] at h2 ⊢ <;> simp at h2 ⊢ <;> omega
    · cases h
  · cases h

/-- What Join answers. -/
def joinE (rs : List Raw) : Int := match rs.find? (fun r => decide (encE r ≠ 0)) with
  | some r => encE r
  | none => 0
def joinB (rs : List Raw) : List Int := rs.flatMap encB
theorem joinE_no {rs : List Raw} (h : ∀ j (hj : j < rs.length), encE rs[j] = 0) : joinE rs = 0 := by
  unfold joinE
  rw [List.find?_eq_none.2]
  intro r hr
  obtain ⟨j, hj, rfl⟩ := List.getElem_of_mem hr
  simp [h j hj]
theorem joinE_at {rs : List Raw} {m : Nat} (hm : m < rs.length) (h : ∀ j (hj : j < m), encE (rs[j]'(by omega)) = 0) (hx : encE rs[m] ≠ 0) : joinE rs = encE rs[m] := by
  unfold joinE
  have : rs.find? (fun r => decide (encE r ≠ 0)) = some rs[m] := by
    rw [List.find?_eq_some_iff_getElem]
    refine ⟨by simpa using hx, m, hm, rfl, fun j hj => ?_⟩
    simp [h j hj]
  rw [this]
theorem joinB_take (rs : List Raw) (m : Nat) (hm : m < rs.length) : joinB (rs.take (m + 1)) = joinB (rs.take m) ++ encB rs[m] := by
  unfold joinB
  rw [List.take_succ_eq_append_getElem hm, List.flatMap_append]
  simp
def Joined (w : World) (rs : List Raw) (e : Ending) (w' : World) : Prop :=
  Below w.heap.size w w' ∧ if joinE rs = 0 then ∃ v, e = .returned (.tuple #[v, .int .i64 0]) ∧ OwnB w.heap.size w' v (joinB rs) else e = .returned (.tuple #[.slice none 0 0, .int .i64 (joinE rs)])
/-- What the loop of a Join carries on. -/
structure JoinRel (w : World) (rs : List Raw) (v : Value) (wr : World) (m : Nat) : Prop where
  own : OwnB w.heap.size wr v (joinB (rs.take m))
  bel : Below w.heap.size w wr
  good : ∀ j (hj : j < rs.length), j < m → encE rs[j] = 0
theorem RdR.get {w : World} {B : Nat} {A : Option Addr} {n : Nat} {rs : List Raw} (h : RdR w B A n rs) {m : Nat} (hm : m < rs.length) : ∃ b off A1 n1 c1, A = some ⟨b, off, none⟩ ∧ b < B ∧ w.cell? ⟨b, off + m * 3, none⟩ = some (.int .i64 rs[m].1) ∧ w.cell? ⟨b, off + m * 3 + 1, none⟩ = some (.int .i64 rs[m].2.1) ∧ w.cell? ⟨b, off + m * 3 + 2, none⟩ = some (.slice A1 n1 c1) ∧ Rd w B A1 n1 rs[m].2.2 := by
  obtain ⟨b, off, rfl, hb, hc⟩ := h.at_ (by have := h.len; omega)
  obtain ⟨A1, n1, c1, h1, h2, h3, h4⟩ := hc m hm
  exact ⟨b, off, A1, n1, c1, rfl, hb, h1, h2, h3, h4⟩

set_option maxHeartbeats 2000000 in
theorem join_is (w : World) (A : Option Addr) (n c : Nat) (rs : List Raw) (hr : RdR w w.heap.size A n rs) (hn : n ≤ 1000000) (hv : ∀ r ∈ rs, r.2.2.length ≤ 140737488355328)
    (hb : ∀ m, m ≤ rs.length → (∀ j (hj : j < rs.length), j < m → encE rs[j] = 0) → (joinB (rs.take m)).length ≤ 99900000) :
    Calls Tryz.prog 50 #[.slice A n c] w (Joined w rs) := by
  have HR := Lib.hid hr
  have hlen := hr.len
  have HV := Lib.hid hv
  have HBd := Lib.hid hb
  clear hr hv hb
  go_enter Tryz.func50, Tryz.ntmps50
  go_wp2
  go_loopw [4, 6, 7, 8, 11] (fun v _ _ _ i wr => ∃ m : Nat, m ≤ n ∧ i = .int .i64 m ∧ JoinRel w rs v wr m) (fun _ _ _ _ i _ => n - (intOf i).toNat)
  case atStart => exact ⟨0, Nat.zero_le _, rfl, OwnB.nil_ _ _, Below.refl _ _, fun j hj h => by omega⟩
  case round =>
    obtain ⟨m, hm, rfl, hrel⟩ := hrel
    have HRel := Lib.hid hrel
    clear hrel
    by_cases hlt : m < n
    · have hml : m < rs.length := by omega
      obtain ⟨b, off, A1, n1, c1, rfl, hbl, x0, x1, x2, hr1⟩ := (HR.out.below HRel.out.bel).get hml
      have hn1 : n1 ≤ 140737488355328 := by rw [← hr1.len]; exact HV.out _ (List.getElem_mem hml)
      have HJt := Lib.hid (joinB_take rs m hml)
      have HBd1 := Lib.hid (HBd.out m (by omega) HRel.out.good)
      have HAt := Lib.hid (fun hx => joinE_at hml (fun j hj => HRel.out.good j (by omega) hj) hx)
      have HGood : Hid (encE rs[m] = 0 → ∀ j (hj : j < rs.length), j < m + 1 → encE rs[j] = 0) := Lib.hid fun h j hj hlt' => by
        by_cases e : j = m
        · subst e; exact h
        · exact HRel.out.good j hj (by omega)
      have hx : ∃ r, r = rs[m] := ⟨_, rfl⟩
      obtain ⟨r, hrr⟩ := hx
      rw [← hrr] at x0 x1 hr1 HJt HAt HGood
      clear hrr
      obtain ⟨f, k, bd⟩ := r
      simp only at x0 x1 hr1
      have hsz := HRel.out.bel.size
      have hal : Below wr.heap.size wr (wr.alloc (.cells #[.int .i64 f, .int .i64 k, .slice A1 n1 c1] 67)) := (Below.refl _ _).alloc (Nat.le_refl _) _
      have HC := Lib.hid (bytesOf_is (wr.alloc (.cells #[.int .i64 f, .int .i64 k, .slice A1 n1 c1] 67)) f k A1 n1 c1 bd ((hr1.below (hal.mono hsz)).more (by simp; omega)) hn1)
      have HAl := Lib.hid hal
      clear hr1 hal
      go_wp2_with (refine raw_fetch rfl _ rfl b (off + m * 3) f k A1 n1 c1 rfl x0 x1 x2 ?_)
      refine HC.out.mono ?_
      rintro e w1 ⟨hB1, he⟩
      have hB2 : Below wr.heap.size wr w1 := HAl.out.trans (hB1.mono (by simp))
      have HB2 := Lib.hid hB2
      have HO2 := Lib.hid (HRel.out.own.below hB2)
      have HBw := Lib.hid (HRel.out.bel.trans (hB2.mono hsz))
      by_cases h0 : encE (f, k, bd) = 0
      · rw [if_pos h0] at he
        obtain ⟨v, rfl, ho⟩ := he
        obtain ⟨A2, c2, rfl, hc2, hr2, _⟩ := ho.at_
        have HR2 := Lib.hid hr2
        have hle : (joinB (rs.take m)).length + (encB (f, k, bd)).length ≤ 100000000 := by
          have := encB_len _ h0
          have := HBd1.out
          omega
        have HGo := Lib.hid (HGood.out h0)
        have hsz2 := HBw.out.size
        clear ho hr2 hB1 hB2 HC HAl HAt HGood h0
        generalize encB (f, k, bd) = eb at *
        generalize joinB (rs.take m) = jb at *
        go_wp2_with (at_builtin; refine app_bs rfl _ _ rfl HO2.out hsz2 HR2.out hle rfl rfl ?_)
        intro v' w3 ho3 hb3 _ _
        have HO3 := Lib.hid ho3
        have HB3 := Lib.hid (HBw.out.trans hb3)
        clear ho3 hb3
        go_wp2
        exact ⟨⟨m + 1, by omega, by go_num, by rw [HJt.out]; exact HO3.out, HB3.out, HGo.out⟩, by simp [intOf]; omega⟩
      · rw [if_neg h0] at he
        subst he
        have HJ := Lib.hid (HAt.out h0)
        have h0' : (encE (f, k, bd) != 0) = true := by simpa using h0
        have H0 := Lib.hid h0
        clear hB1 hB2 HC HAl HAt HGood h0
        generalize encE (f, k, bd) = ee at *
        go_wp2
        go_ret2
        exact ⟨HBw.out, by rw [HJ.out, if_neg H0.out]; rfl⟩
    · obtain rfl : n = m := by omega
      have HJ := Lib.hid (joinE_no fun j hj => HRel.out.good j hj (by omega))
      have HO := Lib.hid HRel.out.own
      rw [List.take_of_length_le (by omega)] at HO
      go_wp2
      go_ret2
      exact ⟨HRel.out.bel, by rw [HJ.out, if_pos rfl]; exact ⟨_, rfl, HO.out⟩⟩
end Go.Proofs.YtdgoeibfggjbmaaGreatDoor
namespace Go.Proofs.YtdgoeibfggjbmaaGreatDoor
open Go.RowKit
set_option maxRecDepth 100000
set_option linter.unusedSimpArgs false
set_option linter.unusedVariables false

/-- What attributes say together. -/
structure Att where
  origin : Int
  path : List Int
  hasMed : Bool
  med : Int
  pref : Int
  orr : Int
  clus : List Int
  comms : List (List Int)
  pm : Pm
def Att.zero : Att := ⟨0, [], false, 0, 0, 0, [], [], Pm.zero⟩
def attV (a : Att) (vp vc vm : Value) : List Value := .int .i64 a.origin :: vp :: .bool a.hasMed :: .int .u32 a.med :: .int .u32 a.pref :: .int .u32 a.orr :: vc :: vm :: pmc a.pm
theorem attV_len (a : Att) (vp vc vm : Value) (h : a.pm.ip.length = 16) : (attV a vp vc vm).length = 27 := by simp [attV, pmc_len _ h]
/-- a, and what one attribute says. -/
def keepA (a : Att) (k : Int) (v : List Int) : Att :=
  if k = 1 then { a with origin := v.getD 0 0 } else if k = 2 then { a with path := nums (v.drop 2) } else if k = 4 then { a with hasMed := true, med := numOf v } else if k = 5 then { a with pref := numOf v }
  else if k = 9 then { a with orr := numOf v } else if k = 10 then { a with clus := nums v } else if k = 16 then { a with comms := cmms v } else if k = 22 then { a with pm := pmOf v } else a

/-- The reader in block g: what was said, the class, which kinds were seen. -/
structure IsR (w : World) (g : Nat) (a : Att) (c : Int) (sn : Nat → Bool) : Prop where
  ex : ∃ vp vc vm, w.rangeAt g 0 (attV a vp vc vm) ∧ OwnN (g + 1) w vp a.path ∧ OwnN (g + 1) w vc a.clus ∧ OwnC (g + 1) w vm a.comms
  ip : a.pm.ip.length = 16
  cls : w.cell? ⟨g, 27, none⟩ = some (.int .i64 c)
  flt : w.there g 28 3
  seen : ∀ k : Nat, k < 256 → w.cell? ⟨g, 31 + k, none⟩ = some (.bool (sn k))
  fz : ∀ i, w.frozen? ⟨g, i, none⟩ = false
theorem IsR.lt {w : World} {g : Nat} {a : Att} {c : Int} {sn : Nat → Bool} (h : IsR w g a c sn) : g < w.heap.size := World.block_lt_of_cell? w _ h.cls
theorem IsR.below {w w' : World} {g : Nat} {a : Att} {c : Int} {sn : Nat → Bool} (h : IsR w g a c sn) (hb : Below w.heap.size w w') : IsR w' g a c sn := by
  obtain ⟨vp, vc, vm, h0, h1, h2, h3⟩ := h.ex
  have hlt := h.lt
  exact ⟨⟨vp, vc, vm, range_below h0 hb hlt, h1.below hb, h2.below hb, h3.below hb⟩, h.ip, (hb.cell (p := ⟨g, 27, none⟩) hlt).trans h.cls, fun j hj => ⟨by rw [hb.cell (p := ⟨g, 28 + j, none⟩) hlt]; exact (h.flt j hj).1, by rw [hb.frozen (p := ⟨g, 28 + j, none⟩) hlt]; exact (h.flt j hj).2⟩,
    fun k hk => (hb.cell (p := ⟨g, 31 + k, none⟩) hlt).trans (h.seen k hk), fun i => (hb.frozen (p := ⟨g, i, none⟩) hlt).trans (h.fz i)⟩
theorem range_set {w : World} {g i : Nat} {cs : List Value} (h : w.rangeAt g 0 cs) (hi : i < cs.length) (u : Value) : (w.setCell ⟨g, i, none⟩ u).rangeAt g 0 (cs.set i u) := fun j v hv => by
  rw [Nat.zero_add]
  by_cases hj : j = i
  · subst hj
    rw [List.getElem?_set_self hi] at hv
    injection hv with hv
    subst hv
    have h0 := h j cs[j] (by simp [hi])
    rw [Nat.zero_add] at h0
    exact World.cell?_setCell_same _ _ _ h0
  · rw [List.getElem?_set_ne (Ne.symm hj)] at hv
    rw [World.cell?_setCell_other _ _ _ _ (fun e => hj (by injection e with _ e2; exact e2.symm))]
    have := h j v hv
    rwa [Nat.zero_add] at this
theorem there_set {w : World} {g o n : Nat} (h : w.there g o n) (p : Addr) (u : Value) : (w.setCell p u).there g o n := fun j hj => ⟨by
    by_cases e : (⟨g, o + j, none⟩ : Addr) = p
    · subst e
      obtain ⟨x, hx⟩ := Option.isSome_iff_exists.1 (h j hj).1
      rw [World.cell?_setCell_same _ _ _ hx]; rfl
    · rw [World.cell?_setCell_other _ _ _ _ (Ne.symm e)]; exact (h j hj).1, by rw [World.frozen?_setCell]; exact (h j hj).2⟩
/-- One of the first eight cells is written. -/
theorem IsR.put {w : World} {g : Nat} {a : Att} {c : Int} {sn : Nat → Bool} (h : IsR w g a c sn) (a' : Att) (i : Nat) (u : Value) (hi : i < 8) (hip : a'.pm = a.pm)
    (hx : ∀ vp vc vm, OwnN (g + 1) w vp a.path → OwnN (g + 1) w vc a.clus → OwnC (g + 1) w vm a.comms → ∃ vp' vc' vm', (attV a vp vc vm).set i u = attV a' vp' vc' vm' ∧ OwnN (g + 1) w vp' a'.path ∧ OwnN (g + 1) w vc' a'.clus ∧ OwnC (g + 1) w vm' a'.comms) :
    IsR (w.setCell ⟨g, i, none⟩ u) g a' c sn := by
  obtain ⟨vp, vc, vm, h0, h1, h2, h3⟩ := h.ex
  obtain ⟨vp', vc', vm', e, k1, k2, k3⟩ := hx vp vc vm h1 h2 h3
  have hg : w.grownBy (w.setCell ⟨g, i, none⟩ u) (some g) := only_setCell (only_refl w _) (.inl rfl) u
  have hne : ∀ j, 27 ≤ j → (w.setCell ⟨g, i, none⟩ u).cell? ⟨g, j, none⟩ = w.cell? ⟨g, j, none⟩ := fun j hj => World.cell?_setCell_other _ _ _ _ (fun e => by injection e with _ e2; omega)
  refine ⟨⟨vp', vc', vm', ?_, k1.grown hg (by omega), k2.grown hg (by omega), k3.grown hg (by omega)⟩, by rw [hip]; exact h.ip, (hne 27 (by omega)).trans h.cls, there_set h.flt _ _, fun k hk => (hne _ (by omega)).trans (h.seen k hk), fun j => by rw [World.frozen?_setCell]; exact h.fz j⟩
  rw [← e]
  exact range_set h0 (by rw [attV_len _ _ _ _ h.ip]; omega) u
theorem IsR.putPm {w : World} {g : Nat} {a : Att} {c : Int} {sn : Nat → Bool} (h : IsR w g a c sn) (p : Pm) (hp : p.ip.length = 16) : IsR (w.setCells g 8 (pmc p)) g { a with pm := p } c sn := by
  obtain ⟨vp, vc, vm, h0, h1, h2, h3⟩ := h.ex
  have hg : w.grownBy (w.setCells g 8 (pmc p)) (some g) := only_setCells (.inl rfl) _ _ _ (only_refl w _)
  have hl := pmc_len p hp
  have hne : ∀ j, 27 ≤ j → (w.setCells g 8 (pmc p)).cell? ⟨g, j, none⟩ = w.cell? ⟨g, j, none⟩ := fun j hj => World.cell?_setCells_out g _ _ _ _ (fun _ _ => .inr (by show 8 + (pmc p).length ≤ j; omega))
  have ht : w.there g 8 19 := fun j hj => ⟨by
    have hj27 : 8 + j < (attV a vp vc vm).length := by rw [attV_len _ _ _ _ h.ip]; omega
    have := h0 (8 + j) _ (List.getElem?_eq_getElem hj27)
    rw [Nat.zero_add] at this
    rw [this]; rfl, h.fz _⟩
  refine ⟨⟨vp, vc, vm, ?_, h1.grown hg (by omega), h2.grown hg (by omega), h3.grown hg (by omega)⟩, hp, (hne 27 (by omega)).trans h.cls, World.there_setCells h.flt _ _ _, fun k hk => (hne _ (by omega)).trans (h.seen k hk), fun j => by rw [World.frozen?_setCells]; exact h.fz j⟩
  have a1 := World.rangeAt_setCells_same w g 8 (pmc p) (by rw [hl]; exact ht)
  have a2 := World.rangeAt_setCells_apart (range_pre (cs := [.int .i64 a.origin, vp, .bool a.hasMed, .int .u32 a.med, .int .u32 a.pref, .int .u32 a.orr, vc, vm]) (ds := pmc a.pm) h0) g 8 (pmc p) (.inr (.inl (by simp)))
  exact range_app a2 a1
theorem IsR.putCls {w : World} {g : Nat} {a : Att} {c : Int} {sn : Nat → Bool} (h : IsR w g a c sn) (c' : Int) : IsR (w.setCell ⟨g, 27, none⟩ (.int .i64 c')) g a c' sn := by
  obtain ⟨vp, vc, vm, h0, h1, h2, h3⟩ := h.ex
  have hg : w.grownBy (w.setCell ⟨g, 27, none⟩ (.int .i64 c')) (some g) := only_setCell (only_refl w _) (.inl rfl) _
  have hne : ∀ j, j ≠ 27 → (w.setCell ⟨g, 27, none⟩ (.int .i64 c')).cell? ⟨g, j, none⟩ = w.cell? ⟨g, j, none⟩ := fun j hj => World.cell?_setCell_other _ _ _ _ (fun e => by injection e with _ e2; omega)
  refine ⟨⟨vp, vc, vm, fun j v hv => ?_, h1.grown hg (by omega), h2.grown hg (by omega), h3.grown hg (by omega)⟩, h.ip, World.cell?_setCell_same _ _ _ h.cls, there_set h.flt _ _, fun k hk => (hne _ (by omega)).trans (h.seen k hk), fun j => by rw [World.frozen?_setCell]; exact h.fz j⟩
  have hj : j < 27 := by have := (List.getElem?_eq_some_iff.1 hv).1; rwa [attV_len _ _ _ _ h.ip] at this
  rw [Nat.zero_add, hne j (by omega)]
  have := h0 j v hv
  rwa [Nat.zero_add] at this
theorem IsR.putSeen {w : World} {g : Nat} {a : Att} {c : Int} {sn : Nat → Bool} (h : IsR w g a c sn) (m : Nat) (hm : m < 256) : IsR (w.setCell ⟨g, 31 + m, none⟩ (.bool true)) g a c (fun k => decide (k = m) || sn k) := by
  obtain ⟨vp, vc, vm, h0, h1, h2, h3⟩ := h.ex
  have hg : w.grownBy (w.setCell ⟨g, 31 + m, none⟩ (.bool true)) (some g) := only_setCell (only_refl w _) (.inl rfl) _
  have hne : ∀ j, j ≠ 31 + m → (w.setCell ⟨g, 31 + m, none⟩ (.bool true)).cell? ⟨g, j, none⟩ = w.cell? ⟨g, j, none⟩ := fun j hj => World.cell?_setCell_other _ _ _ _ (fun e => by injection e with _ e2; omega)
  refine ⟨⟨vp, vc, vm, fun j v hv => ?_, h1.grown hg (by omega), h2.grown hg (by omega), h3.grown hg (by omega)⟩, h.ip, (hne 27 (by omega)).trans h.cls, there_set h.flt _ _, fun k hk => ?_, fun j => by rw [World.frozen?_setCell]; exact h.fz j⟩
  · have hj : j < 27 := by have := (List.getElem?_eq_some_iff.1 hv).1; rwa [attV_len _ _ _ _ h.ip] at this
    rw [Nat.zero_add, hne j (by omega)]
    have := h0 j v hv
    rwa [Nat.zero_add] at this
  · by_cases hkm : k = m
    · subst hkm
      rw [World.cell?_setCell_same _ _ _ (h.seen k hk)]
      simp
    · rw [hne _ (by omega), h.seen k hk]
      simp [hkm]
theorem IsR.cell {w : World} {g : Nat} {a : Att} {c : Int} {sn : Nat → Bool} (h : IsR w g a c sn) {j : Nat} (hj : j < 27) : ∃ u, w.cell? ⟨g, j, none⟩ = some u := by
  obtain ⟨vp, vc, vm, h0, _⟩ := h.ex
  have hj27 : j < (attV a vp vc vm).length := by rw [attV_len _ _ _ _ h.ip]; omega
  have := h0 j _ (List.getElem?_eq_getElem hj27)
  rw [Nat.zero_add] at this
  exact ⟨_, this⟩
end Go.Proofs.YtdgoeibfggjbmaaGreatDoor
namespace Go.Proofs.YtdgoeibfggjbmaaGreatDoor
open Go.RowKit
set_option maxRecDepth 100000
set_option linter.unusedSimpArgs false
set_option linter.unusedVariables false

def Kp (w : World) (g : Nat) (a : Att) (c : Int) (sn : Nat → Bool) (k : Int) (v : List Int) (e : Ending) (w' : World) : Prop := e = .returned (.tuple #[]) ∧ IsR w' g (keepA a k v) c sn ∧ w.grownBy w' (some g)
theorem kp_end {w w2 w3 : World} {g : Nat} {a a' : Att} {c : Int} {sn : Nat → Bool} {k : Int} {v : List Int} (hB : Below w.heap.size w w2) (hk : keepA a k v = a') (h3 : IsR w3 g a' c sn) (hg : w2.grownBy w3 (some g)) : Kp w g a c sn k v (.returned (.tuple #[])) w3 :=
  ⟨rfl, by rw [hk]; exact h3, only_trans (only_of_below hB _) hg⟩
theorem below_cur {w w1 w2 : World} {g : Nat} (h : Below w.heap.size w w1) (hg : w.heap.size ≤ g) (k : w1.grownBy w2 (some g)) : Below w.heap.size w w2 := below_only h k h.size (fun j e => by injection e with e; omega)
section
variable (w : World) (g : Nat) (a : Att) (c : Int) (sn : Nat → Bool) (A : Option Addr) (n cp : Nat) (v : List Int) (h : IsR w g a c sn) (hr : Rd w w.heap.size A n v) (hm : n ≤ 140737488351232)

set_option maxHeartbeats 1000000 in
include h hr hm in
theorem keep_1 (hk : okV 1 v = true) : Calls Tryz.prog 172 #[.pointer (some ⟨g, 0, none⟩), .int .i64 1, .slice A n cp] w (Kp w g a c sn 1 v) := by
  have HH := Lib.hid h
  have HR := Lib.hid hr
  have hl : v.length = 1 := by unfold okV at hk; simp at hk; omega
  have HO := Lib.hid hr.oct
  clear h hr hk
  go_enter Tryz.func172, Tryz.ntmps172
  go_wp2_with fail
  refine (new_is w A n cp v HR.out (by omega)).mono ?_
  rintro e w1 ⟨gc, rfl, hgc, hcur, hB1⟩
  obtain ⟨n1, n2, n3⟩ := num_ok' v 0 1 (by omega) (by omega) (by omega)
  have HK := Lib.hid (num_is w1 gc v 0 0 ((1 : Nat) : Int) hcur)
  unfold Numd at HK
  rw [n1, n2, n3, numOf_one v 0 (by omega)] at HK
  have hx := HO.out.getD 0
  have HA : Hid (keepA a 1 v = { a with origin := v.getD 0 0 }) := Lib.hid rfl
  generalize v.getD 0 0 = x at *
  have hwx : IntKind.i64.wrap x = x := by rw [IntKind.wrap_i64]; omega
  have HB1 := Lib.hid hB1
  clear n1 n2 n3 hcur hB1 hl
  go_wp2_with fail
  refine HK.out.mono ?_
  rintro e w2 ⟨rfl, _, hg2⟩
  have HB2 := Lib.hid (below_cur HB1.out hgc hg2)
  have HI2 := Lib.hid (HH.out.below HB2.out)
  obtain ⟨u0, c0⟩ := HI2.out.cell (j := 0) (by omega)
  have f0 := HI2.out.fz 0
  have HE := Lib.hid (kp_end HB2.out HA.out (HI2.out.put { a with origin := x } 0 (.int .i64 x) (by omega) rfl (fun vp vc vm k1 k2 k3 => ⟨vp, vc, vm, rfl, k1, k2, k3⟩)) (only_setCell (only_refl w2 _) (.inl rfl) _))
  clear hg2 HK HB1 HB2 HI2 HA
  go_wp2
  go_end0
  exact HE.out

set_option maxHeartbeats 1000000 in
include h hr hm in
theorem keep_2 (hk : okV 2 v = true) : Calls Tryz.prog 172 #[.pointer (some ⟨g, 0, none⟩), .int .i64 2, .slice A n cp] w (Kp w g a c sn 2 v) := by
  have HH := Lib.hid h
  have HR := Lib.hid hr
  have hvn := hr.len
  have hl : v.length = 0 ∨ 6 ≤ v.length := by
    have o1 := hr.oct.getD 1
    have : okPath v = true := hk
    unfold okPath at this
    simp only [Bool.or_eq_true, Bool.and_eq_true, decide_eq_true_eq] at this
    omega
  have HO := Lib.hid hr.oct
  clear h hr hk
  go_enter Tryz.func172, Tryz.ntmps172
  go_wp2_with fail
  refine (new_is w A n cp v HR.out (by omega)).mono ?_
  rintro e w1 ⟨gc, rfl, hgc, hcur, hB1⟩
  have HB1 := Lib.hid hB1
  have HC1 := Lib.hid hcur
  have HVn := Lib.hid hvn
  clear hcur hB1 hvn
  go_wp2_with fail
  refine (skip_is w1 gc v 0 0 2 HC1.out).mono ?_
  rintro e w2 ⟨rfl, hc2, hg2⟩
  have HB2 := Lib.hid (below_cur HB1.out hgc hg2)
  have HC2 := Lib.hid hc2
  have HA : Hid (keepA a 2 v = { a with path := nums (v.drop 2) }) := Lib.hid rfl
  have hat : (stepErr v 0 0 2 = 0 ∨ v.length < stepAt v 0 0 2 + 4) ∧ nums (v.drop (stepAt v 0 0 2)) = nums (v.drop 2) := by
    rcases hl with hl | hl
    · have hv : v = [] := List.eq_nil_of_length_eq_zero hl
      subst hv
      exact ⟨.inr (by simp [stepAt]), by simp [stepAt]⟩
    · obtain ⟨_, q2, q3⟩ := took_ok v 0 2 (by omega)
      rw [show ((2 : Nat) : Int) = 2 from rfl] at q2 q3
      rw [q2, q3]
      exact ⟨.inl rfl, rfl⟩
  have HAt := Lib.hid hat
  have HRn := Lib.hid (readNumbers_is w2 gc v _ _ HC2.out HAt.out.1 HO.out (by rw [HVn.out]; omega))
  unfold ReadN at HRn
  rw [HAt.out.2] at HRn
  clear hc2 hg2 hat HAt HC2 HC1
  generalize nums (v.drop 2) = xs at *
  go_wp2_with fail
  refine HRn.out.mono ?_
  rintro e w3 ⟨vx, rfl, hox, hg3⟩
  obtain ⟨Ax, cx, hvx, _, _⟩ := hox.rd
  subst hvx
  have HB3 := Lib.hid (below_cur HB2.out hgc hg3)
  have HI3 := Lib.hid (HH.out.below HB3.out)
  obtain ⟨u0, c0⟩ := HI3.out.cell (j := 1) (by omega)
  have f0 := HI3.out.fz 1
  have hlow : g + 1 ≤ w2.heap.size := by have := HH.out.lt; have := HB2.out.size; omega
  have HE := Lib.hid (kp_end HB3.out HA.out (HI3.out.put { a with path := xs } 1 (.slice Ax xs.length cx) (by omega) rfl (fun vp vc vm k1 k2 k3 => ⟨_, vc, vm, rfl, hox.low hlow, k2, k3⟩)) (only_setCell (only_refl w3 _) (.inl rfl) _))
  clear hox hg3 HRn HB1 HB2 HB3 HI3 HA
  go_wp2
  go_end0
  exact HE.out

set_option maxHeartbeats 1000000 in
include h hr hm in
theorem keep_n4 (k : Int) (hk4 : k = 4 ∨ k = 5 ∨ k = 9) (hk : okV k v = true) : Calls Tryz.prog 172 #[.pointer (some ⟨g, 0, none⟩), .int .i64 k, .slice A n cp] w (Kp w g a c sn k v) := by
  have HH := Lib.hid h
  have HR := Lib.hid hr
  have hl : v.length = 4 := by
    rcases hk4 with rfl | rfl | rfl <;> (unfold okV at hk; simp at hk; omega)
  have HO := Lib.hid hr.oct
  have hbd := numOf_bd v hr.oct
  rw [hl] at hbd
  have hvt : v.take 4 = v := List.take_of_length_le (by omega)
  clear h hr hk
  have HA : Hid ((k = 4 → keepA a k v = { a with hasMed := true, med := numOf v }) ∧ (k = 5 → keepA a k v = { a with pref := numOf v }) ∧ (k = 9 → keepA a k v = { a with orr := numOf v })) := Lib.hid ⟨fun e => by subst e; rfl, fun e => by subst e; rfl, fun e => by subst e; rfl⟩
  have HNum : Hid (∀ w1 gc, IsCur w1 gc v 0 0 → Calls Tryz.prog 113 #[.pointer (some ⟨gc, 0, none⟩), .int .i64 4] w1 fun e w2 => e = .returned (.int .u64 (numOf v)) ∧ w1.grownBy w2 (some gc)) := Lib.hid fun w1 gc hcur => by
    obtain ⟨n1, n2, n3⟩ := num_ok' v 0 4 (by omega) (by omega) (by omega)
    refine (num_is w1 gc v 0 0 ((4 : Nat) : Int) hcur).mono ?_
    rintro e w2 ⟨he, _, hg⟩
    rw [n1, List.drop_zero, hvt] at he
    exact ⟨he, hg⟩
  generalize numOf v = x at *
  have hx1 : x < 4294967296 := by omega
  have hw1 : IntKind.u32.wrap x = x := by rw [IntKind.wrap_u32]; omega
  have hw2 : x % 4294967296 = x := by omega
  clear hvt hl
  rcases hk4 with rfl | rfl | rfl
  · go_enter Tryz.func172, Tryz.ntmps172
    go_wp2_with fail
    refine (new_is w A n cp v HR.out (by omega)).mono ?_
    rintro e w1 ⟨gc, rfl, hgc, hcur, hB1⟩
    have HB1 := Lib.hid hB1
    have HK := Lib.hid (HNum.out w1 gc hcur)
    clear hcur hB1
    go_wp2_with fail
    refine HK.out.mono ?_
    rintro e w2 ⟨rfl, hg2⟩
    have HB2 := Lib.hid (below_cur HB1.out hgc hg2)
    have HI2 := Lib.hid (HH.out.below HB2.out)
    have hI3 := HI2.out.put { a with hasMed := true } 2 (.bool true) (by omega) rfl (fun vp vc vm k1 k2 k3 => ⟨vp, vc, vm, rfl, k1, k2, k3⟩)
    obtain ⟨u0, c0⟩ := HI2.out.cell (j := 2) (by omega)
    have f0 := HI2.out.fz 2
    obtain ⟨u1, c1⟩ := HI2.out.cell (j := 3) (by omega)
    have f1 := HI2.out.fz 3
    have HE := Lib.hid (kp_end HB2.out (HA.out.1 (by first | rfl | trivial)) (hI3.put { a with hasMed := true, med := x } 3 (.int .u32 x) (by omega) rfl (fun vp vc vm k1 k2 k3 => ⟨vp, vc, vm, rfl, k1, k2, k3⟩)) (only_setCell (g := g) (p := ⟨g, 3, none⟩) (only_setCell (g := g) (p := ⟨g, 2, none⟩) (only_refl w2 _) (.inl rfl) (.bool true)) (.inl rfl) _))
    clear hg2 HK HB1 HB2 HI2 HA hI3
    go_wp2
    go_end0
    exact HE.out
  · go_enter Tryz.func172, Tryz.ntmps172
    go_wp2_with fail
    refine (new_is w A n cp v HR.out (by omega)).mono ?_
    rintro e w1 ⟨gc, rfl, hgc, hcur, hB1⟩
    have HB1 := Lib.hid hB1
    have HK := Lib.hid (HNum.out w1 gc hcur)
    clear hcur hB1
    go_wp2_with fail
    refine HK.out.mono ?_
    rintro e w2 ⟨rfl, hg2⟩
    have HB2 := Lib.hid (below_cur HB1.out hgc hg2)
    have HI2 := Lib.hid (HH.out.below HB2.out)
    obtain ⟨u0, c0⟩ := HI2.out.cell (j := 4) (by omega)
    have f0 := HI2.out.fz 4
    have HE := Lib.hid (kp_end HB2.out (HA.out.2.1 (by first | rfl | trivial)) (HI2.out.put { a with pref := x } 4 (.int .u32 x) (by omega) rfl (fun vp vc vm k1 k2 k3 => ⟨vp, vc, vm, rfl, k1, k2, k3⟩)) (only_setCell (only_refl w2 _) (.inl rfl) _))
    clear hg2 HK HB1 HB2 HI2 HA
    go_wp2
    go_end0
    exact HE.out
  · go_enter Tryz.func172, Tryz.ntmps172
    go_wp2_with fail
    refine (new_is w A n cp v HR.out (by omega)).mono ?_
    rintro e w1 ⟨gc, rfl, hgc, hcur, hB1⟩
    have HB1 := Lib.hid hB1
    have HK := Lib.hid (HNum.out w1 gc hcur)
    clear hcur hB1
    go_wp2_with fail
    refine HK.out.mono ?_
    rintro e w2 ⟨rfl, hg2⟩
    have HB2 := Lib.hid (below_cur HB1.out hgc hg2)
    have HI2 := Lib.hid (HH.out.below HB2.out)
    obtain ⟨u0, c0⟩ := HI2.out.cell (j := 5) (by omega)
    have f0 := HI2.out.fz 5
    have HE := Lib.hid (kp_end HB2.out (HA.out.2.2 (by first | rfl | trivial)) (HI2.out.put { a with orr := x } 5 (.int .u32 x) (by omega) rfl (fun vp vc vm k1 k2 k3 => ⟨vp, vc, vm, rfl, k1, k2, k3⟩)) (only_setCell (only_refl w2 _) (.inl rfl) _))
    clear hg2 HK HB1 HB2 HI2 HA
    go_wp2
    go_end0
    exact HE.out

set_option maxHeartbeats 1000000 in
include h hr hm in
theorem keep_10 : Calls Tryz.prog 172 #[.pointer (some ⟨g, 0, none⟩), .int .i64 10, .slice A n cp] w (Kp w g a c sn 10 v) := by
  have HH := Lib.hid h
  have HR := Lib.hid hr
  have hvn := hr.len
  have HO := Lib.hid hr.oct
  clear h hr
  go_enter Tryz.func172, Tryz.ntmps172
  go_wp2_with fail
  refine (new_is w A n cp v HR.out (by omega)).mono ?_
  rintro e w1 ⟨gc, rfl, hgc, hcur, hB1⟩
  have HB1 := Lib.hid hB1
  have HA : Hid (keepA a 10 v = { a with clus := nums v }) := Lib.hid rfl
  have HRn := Lib.hid (readNumbers_is w1 gc v 0 0 hcur (.inl rfl) HO.out (by omega))
  unfold ReadN at HRn
  rw [List.drop_zero] at HRn
  have hlow : g + 1 ≤ w1.heap.size := by have := HH.out.lt; have := HB1.out.size; omega
  clear hcur hB1 hvn
  generalize nums v = xs at *
  go_wp2_with fail
  refine HRn.out.mono ?_
  rintro e w3 ⟨vx, rfl, hox, hg3⟩
  obtain ⟨Ax, cx, hvx, _, _⟩ := hox.rd
  subst hvx
  have HB3 := Lib.hid (below_cur HB1.out hgc hg3)
  have HI3 := Lib.hid (HH.out.below HB3.out)
  obtain ⟨u0, c0⟩ := HI3.out.cell (j := 6) (by omega)
  have f0 := HI3.out.fz 6
  have HE := Lib.hid (kp_end HB3.out HA.out (HI3.out.put { a with clus := xs } 6 (.slice Ax xs.length cx) (by omega) rfl (fun vp vc vm k1 k2 k3 => ⟨vp, _, vm, rfl, k1, hox.low hlow, k3⟩)) (only_setCell (only_refl w3 _) (.inl rfl) _))
  clear hox hg3 HRn HB1 HB3 HI3 HA
  go_wp2
  go_end0
  exact HE.out

set_option maxHeartbeats 1000000 in
include h hr hm in
theorem keep_16 : Calls Tryz.prog 172 #[.pointer (some ⟨g, 0, none⟩), .int .i64 16, .slice A n cp] w (Kp w g a c sn 16 v) := by
  have HH := Lib.hid h
  have HR := Lib.hid hr
  have hvn := hr.len
  have HO := Lib.hid hr.oct
  clear h hr
  go_enter Tryz.func172, Tryz.ntmps172
  go_wp2_with fail
  refine (new_is w A n cp v HR.out (by omega)).mono ?_
  rintro e w1 ⟨gc, rfl, hgc, hcur, hB1⟩
  have HB1 := Lib.hid hB1
  have HA : Hid (keepA a 16 v = { a with comms := cmms v }) := Lib.hid rfl
  have HRn := Lib.hid (readComms_is w1 gc v 0 hcur HO.out (by omega))
  unfold ReadC at HRn
  rw [List.drop_zero] at HRn
  have hlow : g + 1 ≤ w1.heap.size := by have := HH.out.lt; have := HB1.out.size; omega
  clear hcur hB1 hvn
  generalize cmms v = xs at *
  go_wp2_with fail
  refine HRn.out.mono ?_
  rintro e w3 ⟨vx, rfl, hox, hg3⟩
  obtain ⟨Ax, cx, hvx, _, _⟩ := hox.rd
  subst hvx
  have HB3 := Lib.hid (below_cur HB1.out hgc hg3)
  have HI3 := Lib.hid (HH.out.below HB3.out)
  obtain ⟨u0, c0⟩ := HI3.out.cell (j := 7) (by omega)
  have f0 := HI3.out.fz 7
  have HE := Lib.hid (kp_end HB3.out HA.out (HI3.out.put { a with comms := xs } 7 (.slice Ax xs.length cx) (by omega) rfl (fun vp vc vm k1 k2 k3 => ⟨vp, vc, _, rfl, k1, k2, hox.low hlow⟩)) (only_setCell (only_refl w3 _) (.inl rfl) _))
  clear hox hg3 HRn HB1 HB3 HI3 HA
  go_wp2
  go_end0
  exact HE.out

theorem pm_mid {ops : Array Oper} {rest : List Oper} {o : Oper} {a : Act} {w : World} {Q : Exit → Act → World → Prop} (hgd : o.guard = none) (x y : Operand) (ho : o.op = .store 29 x y) (g off : Nat) (p : Pm) (hl : p.ip.length = 16)
    (hx : a.eval x = .pointer (some ⟨g, off, none⟩)) (hy : a.eval y = .agg (pmc p).toArray) (ht : w.there g off 19)
    (h : wpList Tryz.prog ops Q rest (a.put o.dst undef) (w.setCells g off (pmc p))) : wpList Tryz.prog ops Q (o :: rest) a w :=
  wpList_store_mid hgd 29 x y ho g off (pmc p).toArray hx hy (by rw [List.size_toArray, pmc_len p hl]; exact ht) (by rw [pmsz]; simp [pmc_len p hl]) (all_oneCell_toArray (one_pmc p)) h

set_option maxHeartbeats 1000000 in
include h hr hm in
theorem keep_22 (hk : okV 22 v = true) : Calls Tryz.prog 172 #[.pointer (some ⟨g, 0, none⟩), .int .i64 22, .slice A n cp] w (Kp w g a c sn 22 v) := by
  have HH := Lib.hid h
  have HR := Lib.hid hr
  have HO := Lib.hid hr.oct
  have hok : okPmsi v = true := hk
  clear h hr hk
  have HPl := Lib.hid (pmOf_len hok)
  go_enter Tryz.func172, Tryz.ntmps172
  go_wp2_with fail
  refine (new_is w A n cp v HR.out (by omega)).mono ?_
  rintro e w1 ⟨gc, rfl, hgc, hcur, hB1⟩
  have HB1 := Lib.hid hB1
  have HA : Hid (keepA a 22 v = { a with pm := pmOf v }) := Lib.hid rfl
  have HRn := Lib.hid (readPmsi_is w1 gc v hcur HO.out hok)
  unfold ReadP at HRn
  clear hcur hB1 hok
  generalize pmOf v = p at *
  go_wp2_with fail
  refine HRn.out.mono ?_
  rintro e w3 ⟨rfl, hg3⟩
  have HB3 := Lib.hid (below_cur HB1.out hgc hg3)
  have HI3 := Lib.hid (HH.out.below HB3.out)
  have HT : Hid (w3.there g 8 19) := Lib.hid fun j hj => by
    obtain ⟨u, hu⟩ := HI3.out.cell (j := 8 + j) (by omega)
    exact ⟨by rw [hu]; rfl, HI3.out.fz _⟩
  have HE := Lib.hid (kp_end HB3.out HA.out (HI3.out.putPm p HPl.out) (only_setCells (.inl rfl) _ _ _ (only_refl w3 _)))
  clear hg3 HRn HB1 HB3 HI3 HA
  go_wp2_with (refine pm_mid rfl _ _ rfl g 8 p HPl.out rfl rfl HT.out ?_)
  go_end0
  exact HE.out

set_option maxHeartbeats 1000000 in
include h hr hm in
theorem keep_any (k : Int) (hk : k ≠ 1 ∧ k ≠ 2 ∧ k ≠ 4 ∧ k ≠ 5 ∧ k ≠ 9 ∧ k ≠ 10 ∧ k ≠ 16 ∧ k ≠ 22) : Calls Tryz.prog 172 #[.pointer (some ⟨g, 0, none⟩), .int .i64 k, .slice A n cp] w (Kp w g a c sn k v) := by
  obtain ⟨k1, k2, k4, k5, k9, k10, k16, k22⟩ := hk
  have HA : Hid (keepA a k v = a) := Lib.hid (by unfold keepA; rw [if_neg k1, if_neg k2, if_neg k4, if_neg k5, if_neg k9, if_neg k10, if_neg k16, if_neg k22])
  have e1 : (k == 1) = false := by simpa using k1
  have e2 : (k == 2) = false := by simpa using k2
  have e4 : (k == 4) = false := by simpa using k4
  have e5 : (k == 5) = false := by simpa using k5
  have e9 : (k == 9) = false := by simpa using k9
  have e10 : (k == 10) = false := by simpa using k10
  have e16 : (k == 16) = false := by simpa using k16
  have e22 : (k == 22) = false := by simpa using k22
  have HH := Lib.hid h
  have HR := Lib.hid hr
  clear h hr k1 k2 k4 k5 k9 k10 k16 k22
  go_enter Tryz.func172, Tryz.ntmps172
  go_wp2_with fail
  refine (new_is w A n cp v HR.out (by omega)).mono ?_
  rintro e w1 ⟨gc, rfl, hgc, hcur, hB1⟩
  have HE := Lib.hid (kp_end hB1 HA.out (HH.out.below hB1) (only_refl w1 (some g)))
  clear hcur hB1 HA
  go_wp2
  go_end0
  exact HE.out
include h hr hm in
theorem keep_is (k : Int) (hk : okV k v = true) : Calls Tryz.prog 172 #[.pointer (some ⟨g, 0, none⟩), .int .i64 k, .slice A n cp] w (Kp w g a c sn k v) := by
  by_cases h1 : k = 1
  · subst h1; exact keep_1 w g a c sn A n cp v h hr hm hk
  by_cases h2 : k = 2
  · subst h2; exact keep_2 w g a c sn A n cp v h hr hm hk
  by_cases h4 : k = 4 ∨ k = 5 ∨ k = 9
  · exact keep_n4 w g a c sn A n cp v h hr hm k h4 hk
  by_cases h10 : k = 10
  · subst h10; exact keep_10 w g a c sn A n cp v h hr hm
  by_cases h16 : k = 16
  · subst h16; exact keep_16 w g a c sn A n cp v h hr hm
  by_cases h22 : k = 22
  · subst h22; exact keep_22 w g a c sn A n cp v h hr hm hk
  exact keep_any w g a c sn A n cp v h hr hm k (by omega)
end
end Go.Proofs.YtdgoeibfggjbmaaGreatDoor
namespace Go.Proofs.YtdgoeibfggjbmaaGreatDoor
open Go.RowKit
set_option maxRecDepth 100000
set_option linter.unusedSimpArgs false
set_option linter.unusedVariables false

theorem fsz : (Tryz.prog.info? 56).map (·.size) = some 3 := by kernel_rfl
theorem f_store {ops : Array Oper} {rest : List Oper} {o : Oper} {a : Act} {w : World} {Q : Exit → Act → World → Prop} (hgd : o.guard = none) (x y : Operand) (ho : o.op = .store 56 x y) (g : Nat) (r1 r2 : Int) (A : Option Addr) (n c : Nat)
    (hx : a.eval x = .pointer (some ⟨g, 0, none⟩)) (hy : a.eval y = .agg #[.int .i64 r1, .int .i64 r2, .slice A n c]) (t : TypeId) (old : Array Value) (hg : Blk w g t old) (hold : old.size = 3)
    (h : wpList Tryz.prog ops Q rest (a.put o.dst undef) (w.setRow g #[.int .i64 r1, .int .i64 r2, .slice A n c])) : wpList Tryz.prog ops Q (o :: rest) a w :=
  wpList_store_row hgd 56 x y ho g _ hx hy t old hg fsz (by rw [hold]; rfl) (by kernel_rfl) h
theorem f_fetch {ops : Array Oper} {rest : List Oper} {op : Oper} {a : Act} {w : World} {Q : Exit → Act → World → Prop} (hw : Region.wanted op (yielded ops a.tmps) = true) (x : Operand) (ho : op.op = .load 56 x)
    (g o : Nat) (r1 r2 : Int) (A : Option Addr) (n c : Nat) (hx : a.eval x = .pointer (some ⟨g, o, none⟩)) (hc : w.rangeAt g o [.int .i64 r1, .int .i64 r2, .slice A n c]) (h : wpList Tryz.prog ops Q rest (a.put op.dst (.agg #[.int .i64 r1, .int .i64 r2, .slice A n c])) w) : wpList Tryz.prog ops Q (op :: rest) a w :=
  BigFrame.wpList_want hw fun _ hK => wp_load_mid 56 x ho g o hx [.int .i64 r1, .int .i64 r2, .slice A n c] _ hc Tryz.underlying56 rfl fsz (hK _ _ h)
theorem f_mid {ops : Array Oper} {rest : List Oper} {o : Oper} {a : Act} {w : World} {Q : Exit → Act → World → Prop} (hgd : o.guard = none) (x y : Operand) (ho : o.op = .store 56 x y) (g off : Nat) (r1 r2 : Int) (A : Option Addr) (n c : Nat)
    (hx : a.eval x = .pointer (some ⟨g, off, none⟩)) (hy : a.eval y = .agg #[.int .i64 r1, .int .i64 r2, .slice A n c]) (ht : w.there g off 3)
    (h : wpList Tryz.prog ops Q rest (a.put o.dst undef) (w.setCells g off [.int .i64 r1, .int .i64 r2, .slice A n c])) : wpList Tryz.prog ops Q (o :: rest) a w :=
  wpList_store_mid hgd 56 x y ho g off #[.int .i64 r1, .int .i64 r2, .slice A n c] hx hy ht fsz (by kernel_rfl) h

/-- The data of a fault. -/
def fdata (r : Raw) : List Int := if encE r = 0 then encB r else []
def FaultOf (w : World) (r : Raw) (is : Bool) (e : Ending) (w' : World) : Prop :=
  ∃ A n c, e = .returned (.agg #[.int .i64 3, .int .i64 (if is then 4 else 2), .slice A n c]) ∧ OwnB w.heap.size w' (.slice A n c) (fdata r) ∧ Below w.heap.size w w'
theorem bytesOf_shape {w w' : World} {r : Raw} {e : Ending} (h : BytesOf w r e w') : ∃ A n c ee, e = .returned (.tuple #[.slice A n c, .int .i64 ee]) ∧ OwnB w.heap.size w' (.slice A n c) (fdata r) ∧ Below w.heap.size w w' := by
  obtain ⟨hB, h⟩ := h
  split at h
  · rename_i h0
    obtain ⟨v, rfl, ho⟩ := h
    obtain ⟨A, c, rfl, _, _⟩ := ho.at_
    exact ⟨A, _, c, 0, rfl, by unfold fdata; rw [if_pos h0]; exact ho, hB⟩
  · rename_i h0
    exact ⟨none, 0, 0, _, h, by unfold fdata; rw [if_neg h0]; exact OwnB.nil_ _ _, hB⟩
theorem OwnB.grow_row {lo : Nat} {w : World} {v : Value} {l : List Int} {g : Nat} {t : TypeId} {cs ds : Array Value} (h : OwnB lo w v l) (hg : Blk w g t cs) (ht : t ≠ 5) : OwnB lo (w.setRow g ds) v l :=
  h.keep fun i c hi _ _ => setRow_other w g i _ (row_ne hi hg (Ne.symm ht))
theorem OwnB.grow_cell {lo : Nat} {w : World} {v : Value} {l : List Int} {p : Addr} {t : TypeId} {cs : Array Value} {u : Value} (h : OwnB lo w v l) (hg : Blk w p.block t cs) (ht : t ≠ 5) : OwnB lo (w.setCell p u) v l :=
  h.keep fun i c hi _ _ => Below.heap_setCell w p u i (row_ne hi hg (Ne.symm ht))

set_option maxHeartbeats 1000000 in
theorem faultOf_is (w : World) (f k : Int) (A : Option Addr) (n c : Nat) (v : List Int) (is : Bool) (hr : Rd w w.heap.size A n v) (hm : n ≤ 140737488351232) :
    Calls Tryz.prog 171 #[.agg #[.int .i64 f, .int .i64 k, .slice A n c], .bool is] w (FaultOf w (f, k, v) is) := by
  have HR := Lib.hid hr
  clear hr
  have hB0 : Below w.heap.size w ((w.alloc (.cells #[.int .i64 f, .int .i64 k, .slice A n c] 67)).alloc (.cells #[.int .i64 0, .int .i64 0, .slice none 0 0] 56)) := ((Below.refl _ _).alloc (Nat.le_refl _) _).alloc (by simp) _
  have HBr := Lib.hid ((Blk.new w 67 #[.int .i64 f, .int .i64 k, .slice A n c]).alloc (.cells #[.int .i64 0, .int .i64 0, .slice none 0 0] 56))
  have HBo : Hid (Blk ((w.alloc (.cells #[.int .i64 f, .int .i64 k, .slice A n c] 67)).alloc (.cells #[.int .i64 0, .int .i64 0, .slice none 0 0] 56)) (w.heap.size + 1) 56 #[.int .i64 0, .int .i64 0, .slice none 0 0]) := Lib.hid (by have := Blk.new (w.alloc (.cells #[.int .i64 f, .int .i64 k, .slice A n c] 67)) 56 #[.int .i64 0, .int .i64 0, .slice none 0 0]; simpa using this)
  have HB0 := Lib.hid hB0
  have HZ0 : Hid (((w.alloc (.cells #[.int .i64 f, .int .i64 k, .slice A n c] 67)).alloc (.cells #[.int .i64 0, .int .i64 0, .slice none 0 0] 56)).heap.size = w.heap.size + 1 + 1) := Lib.hid (by simp)
  clear hB0
  go_enter Tryz.func171, Tryz.ntmps171
  generalize hw0 : ((w.alloc (.cells #[.int .i64 f, .int .i64 k, .slice A n c] 67)).alloc (.cells #[.int .i64 0, .int .i64 0, .slice none 0 0] 56)) = w0 at *
  have hal : Below w0.heap.size w0 (w0.alloc (.cells #[.int .i64 0, .int .i64 0, .slice none 0 0] 56)) := (Below.refl _ _).alloc (Nat.le_refl _) _
  have HBf : Hid (Blk (w0.alloc (.cells #[.int .i64 0, .int .i64 0, .slice none 0 0] 56)) (w.heap.size + 1 + 1) 56 #[.int .i64 0, .int .i64 0, .slice none 0 0]) := Lib.hid (by have := Blk.new w0 56 #[.int .i64 0, .int .i64 0, .slice none 0 0]; rwa [HZ0.out] at this)
  have HBr1 := Lib.hid (HBr.out.below hal HBr.out.lt)
  have HBo1 := Lib.hid (HBo.out.below hal HBo.out.lt)
  have HB1 := Lib.hid (HB0.out.trans (hal.mono HB0.out.size))
  clear hal HBr HBo HB0
  subst hw0
  have HBs : Hid (∀ W, Below w.heap.size w W → w.heap.size ≤ W.heap.size → Calls Tryz.prog 98 #[.agg #[.int .i64 f, .int .i64 k, .slice A n c]] W (BytesOf W (f, k, v))) := Lib.hid fun W hB hs => bytesOf_is W f k A n c v ((HR.out.below hB).more hs) (by omega)
  cases is with
  | false =>
    have h1f : Blk ((((w.alloc (.cells #[.int .i64 f, .int .i64 k, .slice A n c] 67)).alloc (.cells #[.int .i64 0, .int .i64 0, .slice none 0 0] 56)).alloc (.cells #[.int .i64 0, .int .i64 0, .slice none 0 0] 56)).setRow (w.heap.size + 1 + 1) #[.int .i64 3, .int .i64 2, .slice none 0 0]) (w.heap.size + 1 + 1) 56 #[.int .i64 3, .int .i64 2, .slice none 0 0] := Blk.setRow HBf.out _
    have h1r : Blk ((((w.alloc (.cells #[.int .i64 f, .int .i64 k, .slice A n c] 67)).alloc (.cells #[.int .i64 0, .int .i64 0, .slice none 0 0] 56)).alloc (.cells #[.int .i64 0, .int .i64 0, .slice none 0 0] 56)).setRow (w.heap.size + 1 + 1) #[.int .i64 3, .int .i64 2, .slice none 0 0]) w.heap.size 67 #[.int .i64 f, .int .i64 k, .slice A n c] := HBr1.out.row_other (by omega) _
    have h1o : Blk ((((w.alloc (.cells #[.int .i64 f, .int .i64 k, .slice A n c] 67)).alloc (.cells #[.int .i64 0, .int .i64 0, .slice none 0 0] 56)).alloc (.cells #[.int .i64 0, .int .i64 0, .slice none 0 0] 56)).setRow (w.heap.size + 1 + 1) #[.int .i64 3, .int .i64 2, .slice none 0 0]) (w.heap.size + 1) 56 #[.int .i64 0, .int .i64 0, .slice none 0 0] := HBo1.out.row_other (by omega) _
    have h1b : Below w.heap.size w ((((w.alloc (.cells #[.int .i64 f, .int .i64 k, .slice A n c] 67)).alloc (.cells #[.int .i64 0, .int .i64 0, .slice none 0 0] 56)).alloc (.cells #[.int .i64 0, .int .i64 0, .slice none 0 0] 56)).setRow (w.heap.size + 1 + 1) #[.int .i64 3, .int .i64 2, .slice none 0 0]) := HB1.out.trans (below_setRow _ _ _ (by omega))
    have x0 : ((((w.alloc (.cells #[.int .i64 f, .int .i64 k, .slice A n c] 67)).alloc (.cells #[.int .i64 0, .int .i64 0, .slice none 0 0] 56)).alloc (.cells #[.int .i64 0, .int .i64 0, .slice none 0 0] 56)).setRow (w.heap.size + 1 + 1) #[.int .i64 3, .int .i64 2, .slice none 0 0]).cell? ⟨w.heap.size, 0, none⟩ = some (.int .i64 f) := h1r.cell 0
    have x1 : ((((w.alloc (.cells #[.int .i64 f, .int .i64 k, .slice A n c] 67)).alloc (.cells #[.int .i64 0, .int .i64 0, .slice none 0 0] 56)).alloc (.cells #[.int .i64 0, .int .i64 0, .slice none 0 0] 56)).setRow (w.heap.size + 1 + 1) #[.int .i64 3, .int .i64 2, .slice none 0 0]).cell? ⟨w.heap.size, 0 + 1, none⟩ = some (.int .i64 k) := h1r.cell 1
    have x2 : ((((w.alloc (.cells #[.int .i64 f, .int .i64 k, .slice A n c] 67)).alloc (.cells #[.int .i64 0, .int .i64 0, .slice none 0 0] 56)).alloc (.cells #[.int .i64 0, .int .i64 0, .slice none 0 0] 56)).setRow (w.heap.size + 1 + 1) #[.int .i64 3, .int .i64 2, .slice none 0 0]).cell? ⟨w.heap.size, 0 + 2, none⟩ = some (.slice A n c) := h1r.cell 2
    have X0 := Lib.hid x0
    have X1 := Lib.hid x1
    have X2 := Lib.hid x2
    have HF := Lib.hid h1f
    have HO := Lib.hid h1o
    have HBW := Lib.hid h1b
    have HC := Lib.hid (HBs.out _ h1b h1b.size)
    clear x0 x1 x2 h1f h1r h1o h1b HBr1 HBo1 HB1 HBs
    go_wp2_with (first | (refine f_store (o := ⟨_, .store 56 _ _, _, _, _, _⟩) rfl _ _ rfl (w.heap.size + 1 + 1) 3 2 none 0 0 rfl rfl 56 _ HBf.out rfl ?_) | (refine raw_fetch rfl _ rfl w.heap.size 0 f k A n c rfl X0.out X1.out X2.out ?_))
    refine HC.out.mono ?_
    generalize ((((w.alloc (.cells #[.int .i64 f, .int .i64 k, .slice A n c] 67)).alloc (.cells #[.int .i64 0, .int .i64 0, .slice none 0 0] 56)).alloc (.cells #[.int .i64 0, .int .i64 0, .slice none 0 0] 56)).setRow (w.heap.size + 1 + 1) #[.int .i64 3, .int .i64 2, .slice none 0 0]) = w1 at *
    rintro e w2 hbo
    obtain ⟨Ad, nd, cd, ee, rfl, hod, hB2⟩ := bytesOf_shape hbo
    have h2f := HF.out.below hB2 HF.out.lt
    have h2o := HO.out.below hB2 HO.out.lt
    have c2 : w2.cell? ⟨w.heap.size + 1 + 1, 2, none⟩ = some (.slice none 0 0) := h2f.cell 2
    have f2 : w2.frozen? ⟨w.heap.size + 1 + 1, 2, none⟩ = false := h2f.frozen 2
    have h3f : Blk (w2.setCell ⟨w.heap.size + 1 + 1, 2, none⟩ (.slice Ad nd cd)) (w.heap.size + 1 + 1) 56 #[.int .i64 3, .int .i64 2, .slice Ad nd cd] := h2f.set_ 2 _
    have HR3 := Lib.hid (Blk.range (cs := [.int .i64 3, .int .i64 2, .slice Ad nd cd]) h3f)
    have HO3 : Hid (Blk (w2.setCell ⟨w.heap.size + 1 + 1, 2, none⟩ (.slice Ad nd cd)) (w.heap.size + 1) 56 #[.int .i64 0, .int .i64 0, .slice none 0 0]) := Lib.hid (h2o.far (p := ⟨w.heap.size + 1 + 1, 2, none⟩) (by simp) _)
    have hB3 : Below w.heap.size w (w2.setCell ⟨w.heap.size + 1 + 1, 2, none⟩ (.slice Ad nd cd)) := (HBW.out.trans (hB2.mono HBW.out.size)).setCell (by simp; omega) _
    have hod3 : OwnB w.heap.size (w2.setCell ⟨w.heap.size + 1 + 1, 2, none⟩ (.slice Ad nd cd)) (.slice Ad nd cd) (fdata (f, k, v)) := (hod.low HBW.out.size).grow_cell (p := ⟨w.heap.size + 1 + 1, 2, none⟩) h2f (by decide)
    have HE : Hid (FaultOf w (f, k, v) false (.returned (.agg #[.int .i64 3, .int .i64 2, .slice Ad nd cd])) ((w2.setCell ⟨w.heap.size + 1 + 1, 2, none⟩ (.slice Ad nd cd)).setRow (w.heap.size + 1) #[.int .i64 3, .int .i64 2, .slice Ad nd cd])) := Lib.hid ⟨Ad, nd, cd, rfl, hod3.grow_row HO3.out (by decide), hB3.trans (below_setRow _ _ _ (by omega))⟩
    clear hbo hod hB2 h2f h2o h3f hB3 hod3
    go_wp2_with (first | (refine f_fetch rfl _ rfl (w.heap.size + 1 + 1) 0 3 2 Ad nd cd rfl HR3.out ?_) | (refine f_store rfl _ _ rfl (w.heap.size + 1) 3 2 Ad nd cd rfl rfl 56 _ HO3.out rfl ?_))
    try simp only [Exit.inBlock, Exit.then]
    exact bodyPost_ret (results_cell_row rfl _ _ (w.heap.size + 1) 56 _ (0, 0) _ rfl (Blk.setRow HO3.out _) Tryz.underlying56 rfl fsz) rfl HE.out
  | true =>
    have h1f : Blk ((((w.alloc (.cells #[.int .i64 f, .int .i64 k, .slice A n c] 67)).alloc (.cells #[.int .i64 0, .int .i64 0, .slice none 0 0] 56)).alloc (.cells #[.int .i64 0, .int .i64 0, .slice none 0 0] 56)).setRow (w.heap.size + 1 + 1) #[.int .i64 3, .int .i64 2, .slice none 0 0]) (w.heap.size + 1 + 1) 56 #[.int .i64 3, .int .i64 2, .slice none 0 0] := Blk.setRow HBf.out _
    have h1r : Blk ((((w.alloc (.cells #[.int .i64 f, .int .i64 k, .slice A n c] 67)).alloc (.cells #[.int .i64 0, .int .i64 0, .slice none 0 0] 56)).alloc (.cells #[.int .i64 0, .int .i64 0, .slice none 0 0] 56)).setRow (w.heap.size + 1 + 1) #[.int .i64 3, .int .i64 2, .slice none 0 0]) w.heap.size 67 #[.int .i64 f, .int .i64 k, .slice A n c] := HBr1.out.row_other (by omega) _
    have h1o : Blk ((((w.alloc (.cells #[.int .i64 f, .int .i64 k, .slice A n c] 67)).alloc (.cells #[.int .i64 0, .int .i64 0, .slice none 0 0] 56)).alloc (.cells #[.int .i64 0, .int .i64 0, .slice none 0 0] 56)).setRow (w.heap.size + 1 + 1) #[.int .i64 3, .int .i64 2, .slice none 0 0]) (w.heap.size + 1) 56 #[.int .i64 0, .int .i64 0, .slice none 0 0] := HBo1.out.row_other (by omega) _
    have h1b : Below w.heap.size w ((((w.alloc (.cells #[.int .i64 f, .int .i64 k, .slice A n c] 67)).alloc (.cells #[.int .i64 0, .int .i64 0, .slice none 0 0] 56)).alloc (.cells #[.int .i64 0, .int .i64 0, .slice none 0 0] 56)).setRow (w.heap.size + 1 + 1) #[.int .i64 3, .int .i64 2, .slice none 0 0]) := HB1.out.trans (below_setRow _ _ _ (by omega))
    have c1 : ((((w.alloc (.cells #[.int .i64 f, .int .i64 k, .slice A n c] 67)).alloc (.cells #[.int .i64 0, .int .i64 0, .slice none 0 0] 56)).alloc (.cells #[.int .i64 0, .int .i64 0, .slice none 0 0] 56)).setRow (w.heap.size + 1 + 1) #[.int .i64 3, .int .i64 2, .slice none 0 0]).cell? ⟨w.heap.size + 1 + 1, 1, none⟩ = some (.int .i64 2) := h1f.cell 1
    have f1 : ((((w.alloc (.cells #[.int .i64 f, .int .i64 k, .slice A n c] 67)).alloc (.cells #[.int .i64 0, .int .i64 0, .slice none 0 0] 56)).alloc (.cells #[.int .i64 0, .int .i64 0, .slice none 0 0] 56)).setRow (w.heap.size + 1 + 1) #[.int .i64 3, .int .i64 2, .slice none 0 0]).frozen? ⟨w.heap.size + 1 + 1, 1, none⟩ = false := h1f.frozen 1
    have h2f : Blk (((((w.alloc (.cells #[.int .i64 f, .int .i64 k, .slice A n c] 67)).alloc (.cells #[.int .i64 0, .int .i64 0, .slice none 0 0] 56)).alloc (.cells #[.int .i64 0, .int .i64 0, .slice none 0 0] 56)).setRow (w.heap.size + 1 + 1) #[.int .i64 3, .int .i64 2, .slice none 0 0]).setCell ⟨w.heap.size + 1 + 1, 1, none⟩ (.int .i64 4)) (w.heap.size + 1 + 1) 56 #[.int .i64 3, .int .i64 4, .slice none 0 0] := h1f.set_ 1 _
    have h2r : Blk (((((w.alloc (.cells #[.int .i64 f, .int .i64 k, .slice A n c] 67)).alloc (.cells #[.int .i64 0, .int .i64 0, .slice none 0 0] 56)).alloc (.cells #[.int .i64 0, .int .i64 0, .slice none 0 0] 56)).setRow (w.heap.size + 1 + 1) #[.int .i64 3, .int .i64 2, .slice none 0 0]).setCell ⟨w.heap.size + 1 + 1, 1, none⟩ (.int .i64 4)) w.heap.size 67 #[.int .i64 f, .int .i64 k, .slice A n c] := h1r.far (p := ⟨w.heap.size + 1 + 1, 1, none⟩) (by simp; omega) _
    have h2o : Blk (((((w.alloc (.cells #[.int .i64 f, .int .i64 k, .slice A n c] 67)).alloc (.cells #[.int .i64 0, .int .i64 0, .slice none 0 0] 56)).alloc (.cells #[.int .i64 0, .int .i64 0, .slice none 0 0] 56)).setRow (w.heap.size + 1 + 1) #[.int .i64 3, .int .i64 2, .slice none 0 0]).setCell ⟨w.heap.size + 1 + 1, 1, none⟩ (.int .i64 4)) (w.heap.size + 1) 56 #[.int .i64 0, .int .i64 0, .slice none 0 0] := h1o.far (p := ⟨w.heap.size + 1 + 1, 1, none⟩) (by simp) _
    have h2b : Below w.heap.size w (((((w.alloc (.cells #[.int .i64 f, .int .i64 k, .slice A n c] 67)).alloc (.cells #[.int .i64 0, .int .i64 0, .slice none 0 0] 56)).alloc (.cells #[.int .i64 0, .int .i64 0, .slice none 0 0] 56)).setRow (w.heap.size + 1 + 1) #[.int .i64 3, .int .i64 2, .slice none 0 0]).setCell ⟨w.heap.size + 1 + 1, 1, none⟩ (.int .i64 4)) := h1b.setCell (by simp; omega) _
    have x0 : (((((w.alloc (.cells #[.int .i64 f, .int .i64 k, .slice A n c] 67)).alloc (.cells #[.int .i64 0, .int .i64 0, .slice none 0 0] 56)).alloc (.cells #[.int .i64 0, .int .i64 0, .slice none 0 0] 56)).setRow (w.heap.size + 1 + 1) #[.int .i64 3, .int .i64 2, .slice none 0 0]).setCell ⟨w.heap.size + 1 + 1, 1, none⟩ (.int .i64 4)).cell? ⟨w.heap.size, 0, none⟩ = some (.int .i64 f) := h2r.cell 0
    have x1 : (((((w.alloc (.cells #[.int .i64 f, .int .i64 k, .slice A n c] 67)).alloc (.cells #[.int .i64 0, .int .i64 0, .slice none 0 0] 56)).alloc (.cells #[.int .i64 0, .int .i64 0, .slice none 0 0] 56)).setRow (w.heap.size + 1 + 1) #[.int .i64 3, .int .i64 2, .slice none 0 0]).setCell ⟨w.heap.size + 1 + 1, 1, none⟩ (.int .i64 4)).cell? ⟨w.heap.size, 0 + 1, none⟩ = some (.int .i64 k) := h2r.cell 1
    have x2 : (((((w.alloc (.cells #[.int .i64 f, .int .i64 k, .slice A n c] 67)).alloc (.cells #[.int .i64 0, .int .i64 0, .slice none 0 0] 56)).alloc (.cells #[.int .i64 0, .int .i64 0, .slice none 0 0] 56)).setRow (w.heap.size + 1 + 1) #[.int .i64 3, .int .i64 2, .slice none 0 0]).setCell ⟨w.heap.size + 1 + 1, 1, none⟩ (.int .i64 4)).cell? ⟨w.heap.size, 0 + 2, none⟩ = some (.slice A n c) := h2r.cell 2
    have X0 := Lib.hid x0
    have X1 := Lib.hid x1
    have X2 := Lib.hid x2
    have HF := Lib.hid h2f
    have HO := Lib.hid h2o
    have HBW := Lib.hid h2b
    have HC := Lib.hid (HBs.out _ h2b h2b.size)
    clear x0 x1 x2 h1f h1r h1o h1b h2f h2r h2o h2b HBr1 HBo1 HB1 HBs
    go_wp2_with (first | (refine f_store (o := ⟨_, .store 56 _ _, _, _, _, _⟩) rfl _ _ rfl (w.heap.size + 1 + 1) 3 2 none 0 0 rfl rfl 56 _ HBf.out rfl ?_) | (refine raw_fetch rfl _ rfl w.heap.size 0 f k A n c rfl X0.out X1.out X2.out ?_))
    refine HC.out.mono ?_
    generalize (((((w.alloc (.cells #[.int .i64 f, .int .i64 k, .slice A n c] 67)).alloc (.cells #[.int .i64 0, .int .i64 0, .slice none 0 0] 56)).alloc (.cells #[.int .i64 0, .int .i64 0, .slice none 0 0] 56)).setRow (w.heap.size + 1 + 1) #[.int .i64 3, .int .i64 2, .slice none 0 0]).setCell ⟨w.heap.size + 1 + 1, 1, none⟩ (.int .i64 4)) = w1 at *
    rintro e w2 hbo
    obtain ⟨Ad, nd, cd, ee, rfl, hod, hB2⟩ := bytesOf_shape hbo
    have h2f := HF.out.below hB2 HF.out.lt
    have h2o := HO.out.below hB2 HO.out.lt
    have c2 : w2.cell? ⟨w.heap.size + 1 + 1, 2, none⟩ = some (.slice none 0 0) := h2f.cell 2
    have f2 : w2.frozen? ⟨w.heap.size + 1 + 1, 2, none⟩ = false := h2f.frozen 2
    have h3f : Blk (w2.setCell ⟨w.heap.size + 1 + 1, 2, none⟩ (.slice Ad nd cd)) (w.heap.size + 1 + 1) 56 #[.int .i64 3, .int .i64 4, .slice Ad nd cd] := h2f.set_ 2 _
    have HR3 := Lib.hid (Blk.range (cs := [.int .i64 3, .int .i64 4, .slice Ad nd cd]) h3f)
    have HO3 : Hid (Blk (w2.setCell ⟨w.heap.size + 1 + 1, 2, none⟩ (.slice Ad nd cd)) (w.heap.size + 1) 56 #[.int .i64 0, .int .i64 0, .slice none 0 0]) := Lib.hid (h2o.far (p := ⟨w.heap.size + 1 + 1, 2, none⟩) (by simp) _)
    have hB3 : Below w.heap.size w (w2.setCell ⟨w.heap.size + 1 + 1, 2, none⟩ (.slice Ad nd cd)) := (HBW.out.trans (hB2.mono HBW.out.size)).setCell (by simp; omega) _
    have hod3 : OwnB w.heap.size (w2.setCell ⟨w.heap.size + 1 + 1, 2, none⟩ (.slice Ad nd cd)) (.slice Ad nd cd) (fdata (f, k, v)) := (hod.low HBW.out.size).grow_cell (p := ⟨w.heap.size + 1 + 1, 2, none⟩) h2f (by decide)
    have HE : Hid (FaultOf w (f, k, v) true (.returned (.agg #[.int .i64 3, .int .i64 4, .slice Ad nd cd])) ((w2.setCell ⟨w.heap.size + 1 + 1, 2, none⟩ (.slice Ad nd cd)).setRow (w.heap.size + 1) #[.int .i64 3, .int .i64 4, .slice Ad nd cd])) := Lib.hid ⟨Ad, nd, cd, rfl, hod3.grow_row HO3.out (by decide), hB3.trans (below_setRow _ _ _ (by omega))⟩
    clear hbo hod hB2 h2f h2o h3f hB3 hod3
    go_wp2_with (first | (refine f_fetch rfl _ rfl (w.heap.size + 1 + 1) 0 3 4 Ad nd cd rfl HR3.out ?_) | (refine f_store rfl _ _ rfl (w.heap.size + 1) 3 4 Ad nd cd rfl rfl 56 _ HO3.out rfl ?_))
    try simp only [Exit.inBlock, Exit.then]
    exact bodyPost_ret (results_cell_row rfl _ _ (w.heap.size + 1) 56 _ (0, 0) _ rfl (Blk.setRow HO3.out _) Tryz.underlying56 rfl fsz) rfl HE.out

/-- A reset with its fault. -/
def Rst (w : World) (g : Nat) (sub : Int) (data : List Int) : Prop := w.cell? ⟨g, 27, none⟩ = some (.int .i64 3) ∧ ∃ A n c, w.rangeAt g 28 [.int .i64 3, .int .i64 sub, .slice A n c] ∧ OwnB (g + 1) w (.slice A n c) data
theorem IsR.rst {w : World} {g : Nat} {a : Att} {c : Int} {sn : Nat → Bool} (h : IsR w g a c sn) (h3 : w.cell? ⟨g, 27, none⟩ = some (.int .i64 3)) {sub : Int} {A : Option Addr} {n cp : Nat} {data : List Int} (hd : OwnB (g + 1) w (.slice A n cp) data) : Rst (w.setCells g 28 [.int .i64 3, .int .i64 sub, .slice A n cp]) g sub data := by
  have hg : w.grownBy (w.setCells g 28 [.int .i64 3, .int .i64 sub, .slice A n cp]) (some g) := only_setCells (.inl rfl) _ _ _ (only_refl w _)
  refine ⟨(World.cell?_setCells_out g _ _ _ _ (fun _ _ => .inl (by show 27 < 28; omega))).trans h3, A, n, cp, World.rangeAt_setCells_same w g 28 _ h.flt, ?_⟩
  exact hd.keep fun i c hi hl _ => hg.block i (Array.getElem?_eq_some_iff.1 hi).1 (fun e => by injection e with e; omega)
def Snd (w : World) (g : Nat) (a : Att) (c : Int) (sn : Nat → Bool) (k : Int) (e : Ending) (w' : World) : Prop :=
  e = .returned (.tuple #[]) ∧ w.grownBy w' (some g) ∧ if k = 14 ∨ k = 15 then Rst w' g 1 [] else IsR w' g a (max c 1) sn

set_option maxHeartbeats 1000000 in
theorem readSecond_is (w : World) (g : Nat) (a : Att) (c : Int) (sn : Nat → Bool) (k : Int) (h : IsR w g a c sn) (h0 : 0 ≤ c) (h2 : c ≤ 2) :
    Calls Tryz.prog 169 #[.pointer (some ⟨g, 0, none⟩), .int .i64 k] w (Snd w g a c sn k) := by
  have HH := Lib.hid h
  have c27 := h.cls
  have f27 := h.fz 27
  have h3 := h.putCls 3
  have HE1 : Hid (k = 14 ∨ k = 15 → Snd w g a c sn k (.returned (.tuple #[])) ((w.setCell ⟨g, 27, none⟩ (.int .i64 3)).setCells g 28 [.int .i64 3, .int .i64 1, .slice none 0 0])) := Lib.hid fun hk => ⟨rfl, only_setCells (.inl rfl) _ _ _ (only_setCell (only_refl w _) (.inl rfl) _), by rw [if_pos hk]; exact h3.rst h3.cls (OwnB.nil_ _ _)⟩
  have HE2 : Hid (¬ (k = 14 ∨ k = 15) → ∀ c', c' = max c 1 → Snd w g a c sn k (.returned (.tuple #[])) (w.setCell ⟨g, 27, none⟩ (.int .i64 c'))) := Lib.hid fun hk c' hc => ⟨rfl, only_setCell (only_refl w _) (.inl rfl) _, by rw [if_neg hk, ← hc]; exact h.putCls _⟩
  have HT := Lib.hid h3.flt
  clear h h3
  by_cases h14 : k = 14
  · subst h14
    have HE := Lib.hid (HE1.out (.inl rfl))
    clear HE1 HE2
    go_enter Tryz.func169, Tryz.ntmps169
    go_wp2_with (refine f_mid rfl _ _ rfl g 28 3 1 none 0 0 rfl rfl HT.out ?_)
    go_end0
    exact HE.out
  · have e14 : (k == 14) = false := by simpa using h14
    by_cases h15 : k = 15
    · subst h15
      have HE := Lib.hid (HE1.out (.inr rfl))
      clear HE1 HE2
      go_enter Tryz.func169, Tryz.ntmps169
      go_wp2_with (refine f_mid rfl _ _ rfl g 28 3 1 none 0 0 rfl rfl HT.out ?_)
      go_end0
      exact HE.out
    · have e15 : (k == 15) = false := by simpa using h15
      have HE := Lib.hid (HE2.out (by omega))
      clear HE1 HE2
      have hc : c = 0 ∨ c = 1 ∨ c = 2 := by omega
      rcases hc with rfl | rfl | rfl
      all_goals
        go_enter Tryz.func169, Tryz.ntmps169
        go_wp2
        go_end0
        exact HE.out _ (by omega)
end Go.Proofs.YtdgoeibfggjbmaaGreatDoor
namespace Go.Proofs.YtdgoeibfggjbmaaGreatDoor
open Go.RowKit
set_option maxRecDepth 100000
set_option linter.unusedSimpArgs false
set_option linter.unusedVariables false

theorem judge_bd (f k : Int) (v : List Int) : judge f k v = 0 ∨ judge f k v = 1 ∨ judge f k v = 2 ∨ judge f k v = 3 := by
  unfold judge
  cases hb : bnd k with
  | none => simp only [unk]; split <;> simp
  | some r =>
    obtain ⟨fl, cl⟩ := r
    have : cl = 1 ∨ cl = 2 ∨ cl = 3 := by
      unfold bnd at hb
      repeat' (split at hb)
      all_goals (first | (injection hb with hb; injection hb with _ hb; omega) | cases hb)
    simp only
    split
    · simp
    · omega
theorem judge_zero {f k : Int} {v : List Int} {r : Int × Int} (hb : bnd k = some r) (h : judge f k v = 0) : okV k v = true := by
  obtain ⟨fl, cl⟩ := r
  have hcl : cl = 1 ∨ cl = 2 ∨ cl = 3 := by
    unfold bnd at hb
    repeat' (split at hb)
    all_goals (first | (injection hb with hb; injection hb with _ hb; omega) | cases hb)
  unfold judge at h
  rw [hb] at h
  simp only at h
  split at h
  · rename_i h1
    simp only [Bool.and_eq_true] at h1
    exact h1.2
  · omega
theorem bnd_nat {k : Int} {r : Int × Int} (hb : bnd k = some r) : ∃ m : Nat, k = m ∧ m < 256 := by
  unfold bnd at hb
  repeat' (split at hb)
  all_goals (first | exact ⟨k.toNat, by omega, by omega⟩ | cases hb)

def Red (w : World) (g : Nat) (a : Att) (c : Int) (sn : Nat → Bool) (f k : Int) (v : List Int) (e : Ending) (w' : World) : Prop :=
  e = .returned (.tuple #[]) ∧ w.grownBy w' (some g) ∧
    if (bnd k).isSome = true ∧ sn k.toNat = true then (if k = 14 ∨ k = 15 then Rst w' g 1 [] else IsR w' g a (max c 1) sn)
    else if judge f k v = 3 then Rst w' g (if (bnd k).isSome then 4 else 2) (fdata (f, k, v))
    else IsR w' g (if (bnd k).isSome = true ∧ judge f k v = 0 then keepA a k v else a) (max c (judge f k v)) (if (bnd k).isSome then (fun i => decide (i = k.toNat) || sn i) else sn)
section
variable (w : World) (E : EnvK w) (g : Nat) (a : Att) (c : Int) (sn : Nat → Bool) (f : Int) (A : Option Addr) (n cp : Nat) (v : List Int) (h : IsR w g a c sn) (h0 : 0 ≤ c) (h2 : c ≤ 2) (hr : Rd w g A n v) (hm : n ≤ 140737488351232)

set_option maxHeartbeats 4000000 in
include E h h0 h2 hr hm in
theorem read_no (k : Int) (hb : bnd k = none) : Calls Tryz.prog 117 #[.pointer (some ⟨g, 0, none⟩), .agg #[.int .i64 f, .int .i64 k, .slice A n cp]] w (Red w g a c sn f k v) := by
  have hj := judge_bd f k v
  have HEnd3 : Hid (∀ w', judge f k v = 3 → w.grownBy w' (some g) → Rst w' g 2 (fdata (f, k, v)) → Red w g a c sn f k v (.returned (.tuple #[])) w') := Lib.hid fun w' hj3 hgr hrs => ⟨rfl, hgr, by rw [if_neg (by simp [hb]), if_pos hj3]; simpa [hb] using hrs⟩
  have HEndI : Hid (∀ w' c', judge f k v ≠ 3 → c' = max c (judge f k v) → w.grownBy w' (some g) → IsR w' g a c' sn → Red w g a c sn f k v (.returned (.tuple #[])) w') := Lib.hid fun w' c' hj3 hc' hgr hrs => ⟨rfl, hgr, by rw [if_neg (by simp [hb]), if_neg hj3]; subst hc'; simpa [hb] using hrs⟩
  have hb0 : Below w.heap.size w (w.alloc (.cells #[.int .i64 f, .int .i64 k, .slice A n cp] 67)) := (Below.refl _ _).alloc (Nat.le_refl _) _
  have HE := Lib.hid (E.below hb0)
  have HB := Lib.hid hb0
  have HR := Lib.hid hr
  have HN := Lib.hid (Blk.new w 67 #[.int .i64 f, .int .i64 k, .slice A n cp])
  have HS : Hid (w.heap.size < (w.alloc (.cells #[.int .i64 f, .int .i64 k, .slice A n cp] 67)).heap.size) := Lib.hid (by simp)
  have HI := Lib.hid (h.below hb0)
  have hglt := h.lt
  have HBd : Hid (bndV k = .tuple #[.agg #[.int .i64 0, .int .i64 0, .int .i64 0], .bool false]) := Lib.hid (by unfold bndV; rw [hb])
  clear hr hb0 E h
  go_enter Tryz.func117, Tryz.ntmps117
  go_wp2_with fail
  refine (boundsOf_is _ HE.out k).mono ?_
  generalize (w.alloc (.cells #[.int .i64 f, .int .i64 k, .slice A n cp] 67)) = w0 at *
  rintro e w1 ⟨rfl, hB1⟩
  rw [HBd.out]
  have HB1 := Lib.hid (HB.out.trans (hB1.mono (Nat.le_of_lt HS.out)))
  have HN1 := Lib.hid (HN.out.below hB1 HS.out)
  have HI1 := Lib.hid (HI.out.below hB1)
  have HE1 := Lib.hid (HE.out.below hB1)
  clear hB1 HN HI HE HB HS HBd hb
  have hal : Below w1.heap.size w1 (w1.alloc (.cells #[.int .i64 0, .int .i64 0, .int .i64 0] 217)) := (Below.refl _ _).alloc (Nat.le_refl _) _
  have HB2 := Lib.hid (HB1.out.trans (hal.mono HB1.out.size))
  have HN2 := Lib.hid (HN1.out.below hal HN1.out.lt)
  have HI2 := Lib.hid (HI1.out.below hal)
  have HE2 := Lib.hid (HE1.out.below hal)
  clear hal HB1 HN1 HI1 HE1
  go_wp2
  generalize (w1.alloc (.cells #[.int .i64 0, .int .i64 0, .int .i64 0] 217)) = w2 at *
  refine wp_region_held_drew (S := fun W => True) (by kernel_rfl) (trivial) (fun hS => ?_)
  refine wpAnyH_take (i := 0) (oi := ⟨some 13, _, _, _, _, _⟩) (v := ?_) rfl (by kernel_rfl) (by kernel_rfl) (by kernel_rfl) (fun _ _ _ h => h) (Or.inl ⟨by rfl, ?_⟩) hS ?_
  rotate_left
  · intro wq hq
    first | (go_simp; done) | (go_simp; rfl)
  try simp only [Act.put, List.setIfInBounds_toArray, List.set_cons_zero, List.set_cons_succ]
  refine wpAnyH_take (i := 1) (oi := ⟨some 14, _, _, _, _, _⟩) (v := ?_) rfl (by kernel_rfl) (by kernel_rfl) (by kernel_rfl) (fun _ _ _ h => h) (Or.inl ⟨by rfl, ?_⟩) hS ?_
  rotate_left
  · intro wq hq
    first | (go_simp; done) | (go_simp; rfl)
  try simp only [Act.put, List.setIfInBounds_toArray, List.set_cons_zero, List.set_cons_succ]
  refine wpAnyH_take (i := 2) (oi := ⟨some 15, _, _, _, _, _⟩) (v := undef) rfl (by kernel_rfl) (by kernel_rfl) (by kernel_rfl) (fun _ _ _ h => h) (Or.inr ⟨by rfl, rfl⟩) hS ?_
  try simp only [Act.put, List.setIfInBounds_toArray, List.set_cons_zero, List.set_cons_succ]
  refine wpAnyH_take (i := 3) (oi := ⟨some 16, _, _, _, _, _⟩) (v := undef) rfl (by kernel_rfl) (by kernel_rfl) (by kernel_rfl) (fun _ _ _ h => h) (Or.inr ⟨by rfl, rfl⟩) hS ?_
  try simp only [Act.put, List.setIfInBounds_toArray, List.set_cons_zero, List.set_cons_succ]
  refine wpAnyH_take (i := 4) (oi := ⟨some 17, _, _, _, _, _⟩) (v := undef) rfl (by kernel_rfl) (by kernel_rfl) (by kernel_rfl) (fun _ _ _ h => h) (Or.inr ⟨by rfl, rfl⟩) hS ?_
  try simp only [Act.put, List.setIfInBounds_toArray, List.set_cons_zero, List.set_cons_succ]
  refine wpAnyH_take (i := 5) (oi := ⟨some 18, _, _, _, _, _⟩) (v := undef) rfl (by kernel_rfl) (by kernel_rfl) (by kernel_rfl) (fun _ _ _ h => h) (Or.inr ⟨by rfl, rfl⟩) hS ?_
  try simp only [Act.put, List.setIfInBounds_toArray, List.set_cons_zero, List.set_cons_succ]
  refine wpAnyH_take (i := 6) (oi := ⟨some 19, _, _, _, _, _⟩) (v := undef) rfl (by kernel_rfl) (by kernel_rfl) (by kernel_rfl) (fun _ _ _ h => h) (Or.inr ⟨by rfl, rfl⟩) hS ?_
  try simp only [Act.put, List.setIfInBounds_toArray, List.set_cons_zero, List.set_cons_succ]
  refine wpAnyH_take (i := 7) (oi := ⟨some 20, _, _, _, _, _⟩) (v := undef) rfl (by kernel_rfl) (by kernel_rfl) (by kernel_rfl) (fun _ _ _ h => h) (Or.inr ⟨by rfl, rfl⟩) hS ?_
  try simp only [Act.put, List.setIfInBounds_toArray, List.set_cons_zero, List.set_cons_succ]
  refine wpAnyH_take (i := 8) (oi := ⟨some 21, _, _, _, _, _⟩) (v := undef) rfl (by kernel_rfl) (by kernel_rfl) (by kernel_rfl) (fun _ _ _ h => h) (Or.inr ⟨by rfl, rfl⟩) hS ?_
  try simp only [Act.put, List.setIfInBounds_toArray, List.set_cons_zero, List.set_cons_succ]
  refine wpAnyH_take (i := 9) (oi := ⟨some 22, _, _, _, _, _⟩) (v := ?_) rfl (by kernel_rfl) (by kernel_rfl) (by kernel_rfl) (fun _ _ _ h => h) (Or.inl ⟨by rfl, ?_⟩) hS ?_
  rotate_left
  · intro wq hq
    first | (go_simp; done) | (go_simp; rfl)
  try simp only [Act.put, List.setIfInBounds_toArray, List.set_cons_zero, List.set_cons_succ]
  refine wpAnyH_done (by kernel_rfl) ?_ _
  have hd : Below w2.heap.size w2 w2.drew := below_drewN (Below.refl _ _) 1
  have HB3 := Lib.hid (HB2.out.trans (hd.mono HB2.out.size))
  have HN3 := Lib.hid (HN2.out.below hd HN2.out.lt)
  have HI3 := Lib.hid (HI2.out.below hd)
  have HE3 := Lib.hid (HE2.out.below hd)
  clear hd hS HB2 HN2 HI2 HE2
  generalize w2.drew = w3 at *
  have x0 : w3.cell? ⟨w.heap.size, 0, none⟩ = some (.int .i64 f) := HN3.out.cell 0
  have x1 : w3.cell? ⟨w.heap.size, 0 + 1, none⟩ = some (.int .i64 k) := HN3.out.cell 1
  have x2 : w3.cell? ⟨w.heap.size, 0 + 2, none⟩ = some (.slice A n cp) := HN3.out.cell 2
  have X0 := Lib.hid x0
  have X1 := Lib.hid x1
  have X2 := Lib.hid x2
  clear x0 x1 x2
  go_wp2_with (refine raw_fetch rfl _ rfl w.heap.size 0 f k A n cp rfl X0.out X1.out X2.out ?_)
  refine (judge_is w3 HE3.out f k A n cp v ((HR.out.below (HB3.out.mono (Nat.le_of_lt hglt))).more (by have := HB3.out.size; omega)) (by omega)).mono ?_
  rintro e w4 ⟨rfl, hB4⟩
  have HB4 := Lib.hid (HB3.out.trans (hB4.mono HB3.out.size))
  have HN4 := Lib.hid (HN3.out.below hB4 HN3.out.lt)
  have HI4 := Lib.hid (HI3.out.below hB4)
  have c27 := HI4.out.cls
  have f27 := HI4.out.fz 27
  generalize judge f k v = j at *
  clear hB4 HB3 HN3 HI3 HE3 X0 X1 X2
  by_cases hj3 : j = 3
  · subst hj3
    have hc3 : c < 3 := by omega
    have hI5 := HI4.out.putCls 3
    have hB5 : Below g w (w4.setCell ⟨g, 27, none⟩ (.int .i64 3)) := (HB4.out.mono (Nat.le_of_lt hglt)).setCell (by simp) _
    have hg5 : w.grownBy (w4.setCell ⟨g, 27, none⟩ (.int .i64 3)) (some g) := only_setCell (only_of_below HB4.out _) (.inl rfl) _
    have hN5 : Blk (w4.setCell ⟨g, 27, none⟩ (.int .i64 3)) w.heap.size 67 #[.int .i64 f, .int .i64 k, .slice A n cp] := HN4.out.far (p := ⟨g, 27, none⟩) (by simp; omega) _
    have x0 : (w4.setCell ⟨g, 27, none⟩ (.int .i64 3)).cell? ⟨w.heap.size, 0, none⟩ = some (.int .i64 f) := hN5.cell 0
    have x1 : (w4.setCell ⟨g, 27, none⟩ (.int .i64 3)).cell? ⟨w.heap.size, 0 + 1, none⟩ = some (.int .i64 k) := hN5.cell 1
    have x2 : (w4.setCell ⟨g, 27, none⟩ (.int .i64 3)).cell? ⟨w.heap.size, 0 + 2, none⟩ = some (.slice A n cp) := hN5.cell 2
    have hsz5 := hg5.size
    have HF := Lib.hid (faultOf_is _ f k A n cp v false ((HR.out.below hB5).more (by omega)) hm)
    have HI5 := Lib.hid hI5
    have HG5 := Lib.hid hg5
    have HZ5 := Lib.hid hsz5
    have X0 := Lib.hid x0
    have X1 := Lib.hid x1
    have X2 := Lib.hid x2
    clear x0 x1 x2 hI5 hB5 hg5 hN5 hsz5 HI4 HN4 HB4
    go_wp2_with (refine raw_fetch rfl _ rfl w.heap.size 0 f k A n cp rfl X0.out X1.out X2.out ?_)
    refine HF.out.mono ?_
    generalize (w4.setCell ⟨g, 27, none⟩ (.int .i64 3)) = w5 at *
    rintro e w6 ⟨Ad, nd, cd, rfl, hod, hB6⟩
    have hI6 := HI5.out.below hB6
    have hG6 : w.grownBy w6 (some g) := only_trans HG5.out (only_of_below hB6 _)
    have HT := Lib.hid hI6.flt
    have HEnd := Lib.hid (HEnd3.out _ (by first | rfl | trivial) (only_setCells (.inl rfl) [.int .i64 3, .int .i64 2, .slice Ad nd cd] 28 w6 hG6) (hI6.rst hI6.cls (hod.low (by have := HZ5.out; omega))))
    clear hod hB6 hI6 hG6 HEnd3 HEndI HF
    go_wp2_with (refine f_mid rfl _ _ rfl g 28 3 2 Ad nd cd rfl rfl HT.out ?_)
    go_end0
    exact HEnd.out
  · have ej3 : (j == 3) = false := by simpa using hj3
    have hmx : ∃ c', c' = max c j := ⟨_, rfl⟩
    have hcj : c < j ∨ j ≤ c := by omega
    rcases hcj with hcj | hcj
    · have hI5 := HI4.out.putCls j
      have hg5 : w.grownBy (w4.setCell ⟨g, 27, none⟩ (.int .i64 j)) (some g) := only_setCell (only_of_below HB4.out _) (.inl rfl) _
      have HEnd := Lib.hid (HEndI.out _ j hj3 (by omega) hg5 hI5)
      clear hI5 hg5 HEnd3 HEndI hmx
      go_wp2
      go_end0
      exact HEnd.out
    · have hI5 := HI4.out.putCls c
      have hg5 : w.grownBy (w4.setCell ⟨g, 27, none⟩ (.int .i64 c)) (some g) := only_setCell (only_of_below HB4.out _) (.inl rfl) _
      have HEnd := Lib.hid (HEndI.out _ c hj3 (by omega) hg5 hI5)
      clear hI5 hg5 HEnd3 HEndI hmx
      go_wp2
      go_end0
      exact HEnd.out
end
end Go.Proofs.YtdgoeibfggjbmaaGreatDoor
namespace Go.Proofs.YtdgoeibfggjbmaaGreatDoor
open Go.RowKit
set_option maxRecDepth 100000
set_option linter.unusedSimpArgs false
set_option linter.unusedVariables false

section
variable (w : World) (E : EnvK w) (g : Nat) (a : Att) (c : Int) (sn : Nat → Bool) (f : Int) (A : Option Addr) (n cp : Nat) (v : List Int) (h : IsR w g a c sn) (h0 : 0 ≤ c) (h2 : c ≤ 2) (hr : Rd w g A n v) (hm : n ≤ 140737488351232)

set_option maxHeartbeats 4000000 in
include E h h0 h2 hr hm in
theorem read_new (m : Nat) (hm2 : m < 256) (fl cl : Int) (hb : bnd (m : Int) = some (fl, cl)) (hsn : sn m = false) : Calls Tryz.prog 117 #[.pointer (some ⟨g, 0, none⟩), .agg #[.int .i64 f, .int .i64 ((m : Nat) : Int), .slice A n cp]] w (Red w g a c sn f m v) := by
  have hj := judge_bd f ((m : Nat) : Int) v
  have HEnd3 : Hid (∀ w', judge f ((m : Nat) : Int) v = 3 → w.grownBy w' (some g) → Rst w' g 4 (fdata (f, ((m : Nat) : Int), v)) → Red w g a c sn f ((m : Nat) : Int) v (.returned (.tuple #[])) w') := Lib.hid fun w' hj3 hgr hrs => ⟨rfl, hgr, by rw [if_neg (by simp [hsn]), if_pos hj3]; simpa [hb] using hrs⟩
  have HEndI : Hid (∀ w' c', judge f ((m : Nat) : Int) v ≠ 3 → judge f ((m : Nat) : Int) v ≠ 0 → c' = max c (judge f ((m : Nat) : Int) v) → w.grownBy w' (some g) → IsR w' g a c' (fun i => decide (i = m) || sn i) → Red w g a c sn f ((m : Nat) : Int) v (.returned (.tuple #[])) w') := Lib.hid fun w' c' hj3 hj0 hc' hgr hrs => ⟨rfl, hgr, by rw [if_neg (by simp [hsn]), if_neg hj3]; subst hc'; simpa [hb, hj0] using hrs⟩
  have HEnd0 : Hid (∀ w' c', judge f ((m : Nat) : Int) v = 0 → c' = max c 0 → w.grownBy w' (some g) → IsR w' g (keepA a ((m : Nat) : Int) v) c' (fun i => decide (i = m) || sn i) → Red w g a c sn f ((m : Nat) : Int) v (.returned (.tuple #[])) w') := Lib.hid fun w' c' hj0 hc' hgr hrs => ⟨rfl, hgr, by rw [if_neg (by simp [hsn]), if_neg (by omega)]; subst hc'; simpa [hb, hj0] using hrs⟩
  have HOk : Hid (judge f ((m : Nat) : Int) v = 0 → okV ((m : Nat) : Int) v = true) := Lib.hid (judge_zero hb)
  have hb0 : Below w.heap.size w (w.alloc (.cells #[.int .i64 f, .int .i64 ((m : Nat) : Int), .slice A n cp] 67)) := (Below.refl _ _).alloc (Nat.le_refl _) _
  have HE := Lib.hid (E.below hb0)
  have HB := Lib.hid hb0
  have HR := Lib.hid hr
  have HN := Lib.hid (Blk.new w 67 #[.int .i64 f, .int .i64 ((m : Nat) : Int), .slice A n cp])
  have HS : Hid (w.heap.size < (w.alloc (.cells #[.int .i64 f, .int .i64 ((m : Nat) : Int), .slice A n cp] 67)).heap.size) := Lib.hid (by simp)
  have HI := Lib.hid (h.below hb0)
  have hglt := h.lt
  have HBd : Hid (bndV ((m : Nat) : Int) = .tuple #[.agg #[.int .i64 m, .int .i64 fl, .int .i64 cl], .bool true]) := Lib.hid (by unfold bndV; rw [hb])
  clear hr hb0 E h
  go_enter Tryz.func117, Tryz.ntmps117
  go_wp2_with fail
  refine (boundsOf_is _ HE.out ((m : Nat) : Int)).mono ?_
  generalize (w.alloc (.cells #[.int .i64 f, .int .i64 ((m : Nat) : Int), .slice A n cp] 67)) = w0 at *
  rintro e w1 ⟨rfl, hB1⟩
  rw [HBd.out]
  have HB1 := Lib.hid (HB.out.trans (hB1.mono (Nat.le_of_lt HS.out)))
  have HN1 := Lib.hid (HN.out.below hB1 HS.out)
  have HI1 := Lib.hid (HI.out.below hB1)
  have HE1 := Lib.hid (HE.out.below hB1)
  clear hB1 HN HI HE HB HS HBd hb
  have hal : Below w1.heap.size w1 (w1.alloc (.cells #[.int .i64 m, .int .i64 fl, .int .i64 cl] 217)) := (Below.refl _ _).alloc (Nat.le_refl _) _
  have HB2 := Lib.hid (HB1.out.trans (hal.mono HB1.out.size))
  have HN2 := Lib.hid (HN1.out.below hal HN1.out.lt)
  have HI2 := Lib.hid (HI1.out.below hal)
  have HE2 := Lib.hid (HE1.out.below hal)
  clear hal HB1 HN1 HI1 HE1
  go_wp2
  generalize (w1.alloc (.cells #[.int .i64 m, .int .i64 fl, .int .i64 cl] 217)) = w2 at *
  have hs0 : w2.cell? ⟨g, 31 + m, none⟩ = some (.bool false) := by rw [HI2.out.seen m hm2, hsn]
  have HN2d : Hid (Blk w2.drew w.heap.size 67 #[.int .i64 f, .int .i64 ((m : Nat) : Int), .slice A n cp] ∧ w2.drew.cell? ⟨g, 31 + m, none⟩ = some (.bool false)) := Lib.hid ⟨HN2.out, hs0⟩
  have HSn := Lib.hid hsn
  clear hs0 hsn
  have hmi : (m : Int) < 256 := by omega
  have hmi0 : (0 : Int) ≤ (m : Int) := by omega
  have hmt : ((m : Int)).toNat = m := by simp
  refine wp_region_held_drew (S := fun W => Blk W w.heap.size 67 #[.int .i64 f, .int .i64 ((m : Nat) : Int), .slice A n cp] ∧ W.cell? ⟨g, 31 + m, none⟩ = some (.bool false)) (by kernel_rfl) (HN2d.out) (fun hS => ?_)
  refine wpAnyH_take (i := 0) (oi := ⟨some 13, _, _, _, _, _⟩) (v := ?_) rfl (by kernel_rfl) (by kernel_rfl) (by kernel_rfl) (fun _ _ _ h => h) (Or.inl ⟨by rfl, ?_⟩) hS ?_
  rotate_left
  · intro wq hq
    first | (go_simp; done) | (go_simp; rfl)
  try simp only [Act.put, List.setIfInBounds_toArray, List.set_cons_zero, List.set_cons_succ]
  refine wpAnyH_take (i := 1) (oi := ⟨some 14, _, _, _, _, _⟩) (v := ?_) rfl (by kernel_rfl) (by kernel_rfl) (by kernel_rfl) (fun _ _ _ h => h) (Or.inl ⟨by rfl, ?_⟩) hS ?_
  rotate_left
  · intro wq hq
    first | (go_simp; done) | (go_simp; rfl)
  try simp only [Act.put, List.setIfInBounds_toArray, List.set_cons_zero, List.set_cons_succ]
  refine wpAnyH_take (i := 2) (oi := ⟨some 15, _, _, _, _, _⟩) (v := ?_) rfl (by kernel_rfl) (by kernel_rfl) (by kernel_rfl) (fun _ _ _ h => h) (Or.inl ⟨by rfl, ?_⟩) hS ?_
  rotate_left
  · intro wq hq
    first | (go_simp; done) | (go_simp; rfl)
  try simp only [Act.put, List.setIfInBounds_toArray, List.set_cons_zero, List.set_cons_succ]
  refine wpAnyH_take (i := 3) (oi := ⟨some 16, _, _, _, _, _⟩) (v := ?_) rfl (by kernel_rfl) (by kernel_rfl) (by kernel_rfl) (fun _ _ _ h => h) (Or.inl ⟨by rfl, ?_⟩) hS ?_
  rotate_left
  · intro wq hq
    first | (go_simp; done) | (go_simp; rfl)
  try simp only [Act.put, List.setIfInBounds_toArray, List.set_cons_zero, List.set_cons_succ]
  refine wpAnyH_take (i := 4) (oi := ⟨some 17, _, _, _, _, _⟩) (v := ?_) rfl (by kernel_rfl) (by kernel_rfl) (by kernel_rfl) (fun _ _ _ h => h) (Or.inl ⟨by rfl, ?_⟩) hS ?_
  rotate_left
  · intro wq hq
    have d1 : wq.cell? ⟨w.heap.size, 1, none⟩ = some (.int .i64 (m : Int)) := hq.1.cell 1
    first | (go_simp; done) | (go_simp; rfl)
  try simp only [Act.put, List.setIfInBounds_toArray, List.set_cons_zero, List.set_cons_succ]
  refine wpAnyH_take (i := 5) (oi := ⟨some 18, _, _, _, _, _⟩) (v := ?_) rfl (by kernel_rfl) (by kernel_rfl) (by kernel_rfl) (fun _ _ _ h => h) (Or.inl ⟨by rfl, ?_⟩) hS ?_
  rotate_left
  · intro wq hq
    first | (go_simp; done) | (go_simp; rfl)
  try simp only [Act.put, List.setIfInBounds_toArray, List.set_cons_zero, List.set_cons_succ]
  refine wpAnyH_take (i := 6) (oi := ⟨some 19, _, _, _, _, _⟩) (v := ?_) rfl (by kernel_rfl) (by kernel_rfl) (by kernel_rfl) (fun _ _ _ h => h) (Or.inl ⟨by rfl, ?_⟩) hS ?_
  rotate_left
  · intro wq hq
    first | (go_simp; done) | (go_simp; rfl)
  try simp only [Act.put, List.setIfInBounds_toArray, List.set_cons_zero, List.set_cons_succ]
  refine wpAnyH_take (i := 7) (oi := ⟨some 20, _, _, _, _, _⟩) (v := ?_) rfl (by kernel_rfl) (by kernel_rfl) (by kernel_rfl) (fun _ _ _ h => h) (Or.inl ⟨by rfl, ?_⟩) hS ?_
  rotate_left
  · intro wq hq
    first | (go_simp; done) | (go_simp; rfl)
  try simp only [Act.put, List.setIfInBounds_toArray, List.set_cons_zero, List.set_cons_succ]
  refine wpAnyH_take (i := 8) (oi := ⟨some 21, _, _, _, _, _⟩) (v := ?_) rfl (by kernel_rfl) (by kernel_rfl) (by kernel_rfl) (fun _ _ _ h => h) (Or.inl ⟨by rfl, ?_⟩) hS ?_
  rotate_left
  · intro wq hq
    have d2 : wq.cell? ⟨g, 31 + m, none⟩ = some (.bool false) := hq.2
    first | (go_simp; done) | (go_simp; rfl)
  try simp only [Act.put, List.setIfInBounds_toArray, List.set_cons_zero, List.set_cons_succ]
  refine wpAnyH_take (i := 9) (oi := ⟨some 22, _, _, _, _, _⟩) (v := ?_) rfl (by kernel_rfl) (by kernel_rfl) (by kernel_rfl) (fun _ _ _ h => h) (Or.inl ⟨by rfl, ?_⟩) hS ?_
  rotate_left
  · intro wq hq
    first | (go_simp; done) | (go_simp; rfl)
  try simp only [Act.put, List.setIfInBounds_toArray, List.set_cons_zero, List.set_cons_succ]
  refine wpAnyH_done (by kernel_rfl) ?_ _
  clear HN2d hmt
  have hd : Below w2.heap.size w2 w2.drew := below_drewN (Below.refl _ _) 1
  have HB3 := Lib.hid (HB2.out.trans (hd.mono HB2.out.size))
  have HN3 := Lib.hid (HN2.out.below hd HN2.out.lt)
  have HI3 := Lib.hid (HI2.out.below hd)
  have HE3 := Lib.hid (HE2.out.below hd)
  clear hd hS HB2 HN2 HI2 HE2
  generalize w2.drew = w3 at *
  have x0 : w3.cell? ⟨w.heap.size, 0, none⟩ = some (.int .i64 f) := HN3.out.cell 0
  have x1 : w3.cell? ⟨w.heap.size, 0 + 1, none⟩ = some (.int .i64 ((m : Nat) : Int)) := HN3.out.cell 1
  have x2 : w3.cell? ⟨w.heap.size, 0 + 2, none⟩ = some (.slice A n cp) := HN3.out.cell 2
  have X0 := Lib.hid x0
  have X1 := Lib.hid x1
  have X2 := Lib.hid x2
  clear x0 x1 x2
  go_wp2_with (refine raw_fetch rfl _ rfl w.heap.size 0 f ((m : Nat) : Int) A n cp rfl X0.out X1.out X2.out ?_)
  refine (judge_is w3 HE3.out f ((m : Nat) : Int) A n cp v ((HR.out.below (HB3.out.mono (Nat.le_of_lt hglt))).more (by have := HB3.out.size; omega)) (by omega)).mono ?_
  rintro e w4 ⟨rfl, hB4⟩
  have HB4 := Lib.hid (HB3.out.trans (hB4.mono HB3.out.size))
  have HN4 := Lib.hid (HN3.out.below hB4 HN3.out.lt)
  have HI4 := Lib.hid (HI3.out.below hB4)
  have c27 := HI4.out.cls
  have f27 := HI4.out.fz 27
  generalize judge f ((m : Nat) : Int) v = j at *
  clear hB4 HB3 HN3 HI3 HE3 X0 X1 X2
  by_cases hj3 : j = 3
  · subst hj3
    have hc3 : c < 3 := by omega
    have hI5 := HI4.out.putCls 3
    have hB5 : Below g w (w4.setCell ⟨g, 27, none⟩ (.int .i64 3)) := (HB4.out.mono (Nat.le_of_lt hglt)).setCell (by simp) _
    have hg5 : w.grownBy (w4.setCell ⟨g, 27, none⟩ (.int .i64 3)) (some g) := only_setCell (only_of_below HB4.out _) (.inl rfl) _
    have hN5 : Blk (w4.setCell ⟨g, 27, none⟩ (.int .i64 3)) w.heap.size 67 #[.int .i64 f, .int .i64 ((m : Nat) : Int), .slice A n cp] := HN4.out.far (p := ⟨g, 27, none⟩) (by simp; omega) _
    have x0 : (w4.setCell ⟨g, 27, none⟩ (.int .i64 3)).cell? ⟨w.heap.size, 0, none⟩ = some (.int .i64 f) := hN5.cell 0
    have x1 : (w4.setCell ⟨g, 27, none⟩ (.int .i64 3)).cell? ⟨w.heap.size, 0 + 1, none⟩ = some (.int .i64 ((m : Nat) : Int)) := hN5.cell 1
    have x2 : (w4.setCell ⟨g, 27, none⟩ (.int .i64 3)).cell? ⟨w.heap.size, 0 + 2, none⟩ = some (.slice A n cp) := hN5.cell 2
    have hsz5 := hg5.size
    have HF := Lib.hid (faultOf_is _ f ((m : Nat) : Int) A n cp v true ((HR.out.below hB5).more (by omega)) hm)
    have HI5 := Lib.hid hI5
    have HG5 := Lib.hid hg5
    have HZ5 := Lib.hid hsz5
    have X0 := Lib.hid x0
    have X1 := Lib.hid x1
    have X2 := Lib.hid x2
    clear x0 x1 x2 hI5 hB5 hg5 hN5 hsz5 HI4 HN4 HB4
    go_wp2_with (refine raw_fetch rfl _ rfl w.heap.size 0 f ((m : Nat) : Int) A n cp rfl X0.out X1.out X2.out ?_)
    refine HF.out.mono ?_
    generalize (w4.setCell ⟨g, 27, none⟩ (.int .i64 3)) = w5 at *
    rintro e w6 ⟨Ad, nd, cd, rfl, hod, hB6⟩
    have hI6 := HI5.out.below hB6
    have hG6 : w.grownBy w6 (some g) := only_trans HG5.out (only_of_below hB6 _)
    have HT := Lib.hid hI6.flt
    have HEnd := Lib.hid (HEnd3.out _ (by first | rfl | trivial) (only_setCells (.inl rfl) [.int .i64 3, .int .i64 4, .slice Ad nd cd] 28 w6 hG6) (hI6.rst hI6.cls (hod.low (by have := HZ5.out; omega))))
    clear hod hB6 hI6 hG6 HEnd3 HEndI HF
    go_wp2_with (refine f_mid rfl _ _ rfl g 28 3 4 Ad nd cd rfl rfl HT.out ?_)
    go_end0
    exact HEnd.out
  · have ej3 : (j == 3) = false := by simpa using hj3
    have hmx : ∃ c', c' = max c j := ⟨_, rfl⟩
    have hcj : c < j ∨ j ≤ c := by omega
    rcases hcj with hcj | hcj
    · have hI5 := HI4.out.putCls j
      have hg5 : w.grownBy (w4.setCell ⟨g, 27, none⟩ (.int .i64 j)) (some g) := only_setCell (only_of_below HB4.out _) (.inl rfl) _
      have hB5 : Below g w (w4.setCell ⟨g, 27, none⟩ (.int .i64 j)) := (HB4.out.mono (Nat.le_of_lt hglt)).setCell (by simp) _
      have hN5 : Blk (w4.setCell ⟨g, 27, none⟩ (.int .i64 j)) w.heap.size 67 #[.int .i64 f, .int .i64 ((m : Nat) : Int), .slice A n cp] := HN4.out.far (p := ⟨g, 27, none⟩) (by simp; omega) _
      have HI5 := Lib.hid hI5
      have HG5 := Lib.hid hg5
      have HB5 := Lib.hid hB5
      have HN5 := Lib.hid hN5
      clear hI5 hg5 hB5 hN5 HI4 HN4 HB4 hmx
      go_wp2
      generalize (w4.setCell ⟨g, 27, none⟩ (.int .i64 j)) = w5 at *
      have HN5d : Hid (Blk w5.drew w.heap.size 67 #[.int .i64 f, .int .i64 ((m : Nat) : Int), .slice A n cp]) := Lib.hid HN5.out
      have hs5 : w5.drew.cell? ⟨g, 31 + m, none⟩ = some (.bool (sn m)) := HI5.out.seen m hm2
      have hf5 : w5.drew.frozen? ⟨g, 31 + m, none⟩ = false := HI5.out.fz (31 + m)
      have hmt : ((m : Int)).toNat = m := by simp
      refine wp_region_held_drew (S := fun W => Blk W w.heap.size 67 #[.int .i64 f, .int .i64 ((m : Nat) : Int), .slice A n cp]) (by kernel_rfl) (HN5d.out) (fun hS => ?_)
      refine wpAnyH_take (i := 0) (oi := ⟨some 49, _, _, _, _, _⟩) (v := ?_) rfl (by kernel_rfl) (by kernel_rfl) (by kernel_rfl) (fun _ _ _ h => h) (Or.inl ⟨by rfl, ?_⟩) hS ?_
      rotate_left
      · intro wq hq
        first | (go_simp; done) | (go_simp; rfl)
      try simp only [Act.put, List.setIfInBounds_toArray, List.set_cons_zero, List.set_cons_succ]
      refine wpAnyH_take (i := 1) (oi := ⟨some 50, _, _, _, _, _⟩) (v := ?_) rfl (by kernel_rfl) (by kernel_rfl) (by kernel_rfl) (fun _ _ _ h => h) (Or.inl ⟨by rfl, ?_⟩) hS ?_
      rotate_left
      · intro wq hq
        first | (go_simp; done) | (go_simp; rfl)
      try simp only [Act.put, List.setIfInBounds_toArray, List.set_cons_zero, List.set_cons_succ]
      refine wpAnyH_take (i := 2) (oi := ⟨some 51, _, _, _, _, _⟩) (v := ?_) rfl (by kernel_rfl) (by kernel_rfl) (by kernel_rfl) (fun _ _ _ h => h) (Or.inl ⟨by rfl, ?_⟩) hS ?_
      rotate_left
      · intro wq hq
        have d1 : wq.cell? ⟨w.heap.size, 1, none⟩ = some (.int .i64 (m : Int)) := hq.cell 1
        first | (go_simp; done) | (go_simp; rfl)
      try simp only [Act.put, List.setIfInBounds_toArray, List.set_cons_zero, List.set_cons_succ]
      refine wpAnyH_take (i := 3) (oi := ⟨some 52, _, _, _, _, _⟩) (v := ?_) rfl (by kernel_rfl) (by kernel_rfl) (by kernel_rfl) (fun _ _ _ h => h) (Or.inl ⟨by rfl, ?_⟩) hS ?_
      rotate_left
      · intro wq hq
        first | (go_simp; done) | (go_simp; rfl)
      try simp only [Act.put, List.setIfInBounds_toArray, List.set_cons_zero, List.set_cons_succ]
      refine wpAnyH_take (i := 4) (oi := ⟨some 53, _, _, _, _, _⟩) (v := ?_) rfl (by kernel_rfl) (by kernel_rfl) (by kernel_rfl) (fun _ _ _ h => h) (Or.inl ⟨by rfl, ?_⟩) hS ?_
      rotate_left
      · intro wq hq
        first | (go_simp; done) | (go_simp; rfl)
      try simp only [Act.put, List.setIfInBounds_toArray, List.set_cons_zero, List.set_cons_succ]
      refine wpAnyH_take (i := 5) (oi := ⟨some 54, _, _, _, _, _⟩) (v := ?_) rfl (by kernel_rfl) (by kernel_rfl) (by kernel_rfl) (fun _ _ _ h => h) (Or.inl ⟨by rfl, ?_⟩) hS ?_
      rotate_left
      · intro wq hq
        first | (go_simp; done) | (go_simp; rfl)
      try simp only [Act.put, List.setIfInBounds_toArray, List.set_cons_zero, List.set_cons_succ]
      refine wpAnyH_ready (rs := [6]) (by kernel_rfl) (by simp) ?_
      refine AllReadyH.cons (o := ⟨none, _, _, _, _, _⟩) rfl (fun K hK => ?_) AllReadyH.nil
      rw [if_pos (by rfl)]
      go_wp2
      refine hK.out _ _ (HN5d.out.far (p := ⟨g, 31 + m, none⟩) (by simp; omega) _) (fun hS => ?_)
      clear hK K
      try simp only [Act.put, List.setIfInBounds_toArray, List.set_cons_zero, List.set_cons_succ]
      refine wpAnyH_done (by kernel_rfl) ?_ _
      have hd : Below w5.heap.size w5 w5.drew := below_drewN (Below.refl _ _) 1
      have hI6 : IsR (w5.setCell ⟨g, 31 + m, none⟩ (.bool true)).drew g a j (fun i => decide (i = m) || sn i) := (HI5.out.below hd).putSeen m hm2
      have hg6 : w.grownBy (w5.setCell ⟨g, 31 + m, none⟩ (.bool true)).drew (some g) := only_drewN (only_setCell HG5.out (p := ⟨g, 31 + m, none⟩) (.inl rfl) (.bool true)) 1
      have hN6 : Blk (w5.setCell ⟨g, 31 + m, none⟩ (.bool true)).drew w.heap.size 67 #[.int .i64 f, .int .i64 ((m : Nat) : Int), .slice A n cp] := HN5.out.far (p := ⟨g, 31 + m, none⟩) (by simp; omega) _
      have hB6 : Below g w (w5.setCell ⟨g, 31 + m, none⟩ (.bool true)).drew := below_drewN (HB5.out.setCell (p := ⟨g, 31 + m, none⟩) (by simp) (.bool true)) 1
      have HI6 := Lib.hid hI6
      have HG6 := Lib.hid hg6
      have HN6 := Lib.hid hN6
      have HB6 := Lib.hid hB6
      clear hd hI6 hg6 hN6 hB6 HN5d hs5 hf5 hS HI5 HG5 HN5 HB5 hmt
      generalize (w5.setCell ⟨g, 31 + m, none⟩ (.bool true)).drew = w6 at *
      by_cases hj0 : j = 0
      · omega
      · have ej0 : (j == 0) = false := by simpa using hj0
        have HEnd := Lib.hid (HEndI.out w6 j hj3 hj0 (by omega) HG6.out HI6.out)
        clear HEnd3 HEndI HEnd0
        go_wp2
        go_end0
        exact HEnd.out
    · have hI5 := HI4.out.putCls c
      have hg5 : w.grownBy (w4.setCell ⟨g, 27, none⟩ (.int .i64 c)) (some g) := only_setCell (only_of_below HB4.out _) (.inl rfl) _
      have hB5 : Below g w (w4.setCell ⟨g, 27, none⟩ (.int .i64 c)) := (HB4.out.mono (Nat.le_of_lt hglt)).setCell (by simp) _
      have hN5 : Blk (w4.setCell ⟨g, 27, none⟩ (.int .i64 c)) w.heap.size 67 #[.int .i64 f, .int .i64 ((m : Nat) : Int), .slice A n cp] := HN4.out.far (p := ⟨g, 27, none⟩) (by simp; omega) _
      have HI5 := Lib.hid hI5
      have HG5 := Lib.hid hg5
      have HB5 := Lib.hid hB5
      have HN5 := Lib.hid hN5
      clear hI5 hg5 hB5 hN5 HI4 HN4 HB4 hmx
      go_wp2
      generalize (w4.setCell ⟨g, 27, none⟩ (.int .i64 c)) = w5 at *
      have HN5d : Hid (Blk w5.drew w.heap.size 67 #[.int .i64 f, .int .i64 ((m : Nat) : Int), .slice A n cp]) := Lib.hid HN5.out
      have hs5 : w5.drew.cell? ⟨g, 31 + m, none⟩ = some (.bool (sn m)) := HI5.out.seen m hm2
      have hf5 : w5.drew.frozen? ⟨g, 31 + m, none⟩ = false := HI5.out.fz (31 + m)
      have hmt : ((m : Int)).toNat = m := by simp
      refine wp_region_held_drew (S := fun W => Blk W w.heap.size 67 #[.int .i64 f, .int .i64 ((m : Nat) : Int), .slice A n cp]) (by kernel_rfl) (HN5d.out) (fun hS => ?_)
      refine wpAnyH_take (i := 0) (oi := ⟨some 49, _, _, _, _, _⟩) (v := ?_) rfl (by kernel_rfl) (by kernel_rfl) (by kernel_rfl) (fun _ _ _ h => h) (Or.inl ⟨by rfl, ?_⟩) hS ?_
      rotate_left
      · intro wq hq
        first | (go_simp; done) | (go_simp; rfl)
      try simp only [Act.put, List.setIfInBounds_toArray, List.set_cons_zero, List.set_cons_succ]
      refine wpAnyH_take (i := 1) (oi := ⟨some 50, _, _, _, _, _⟩) (v := ?_) rfl (by kernel_rfl) (by kernel_rfl) (by kernel_rfl) (fun _ _ _ h => h) (Or.inl ⟨by rfl, ?_⟩) hS ?_
      rotate_left
      · intro wq hq
        first | (go_simp; done) | (go_simp; rfl)
      try simp only [Act.put, List.setIfInBounds_toArray, List.set_cons_zero, List.set_cons_succ]
      refine wpAnyH_take (i := 2) (oi := ⟨some 51, _, _, _, _, _⟩) (v := ?_) rfl (by kernel_rfl) (by kernel_rfl) (by kernel_rfl) (fun _ _ _ h => h) (Or.inl ⟨by rfl, ?_⟩) hS ?_
      rotate_left
      · intro wq hq
        have d1 : wq.cell? ⟨w.heap.size, 1, none⟩ = some (.int .i64 (m : Int)) := hq.cell 1
        first | (go_simp; done) | (go_simp; rfl)
      try simp only [Act.put, List.setIfInBounds_toArray, List.set_cons_zero, List.set_cons_succ]
      refine wpAnyH_take (i := 3) (oi := ⟨some 52, _, _, _, _, _⟩) (v := ?_) rfl (by kernel_rfl) (by kernel_rfl) (by kernel_rfl) (fun _ _ _ h => h) (Or.inl ⟨by rfl, ?_⟩) hS ?_
      rotate_left
      · intro wq hq
        first | (go_simp; done) | (go_simp; rfl)
      try simp only [Act.put, List.setIfInBounds_toArray, List.set_cons_zero, List.set_cons_succ]
      refine wpAnyH_take (i := 4) (oi := ⟨some 53, _, _, _, _, _⟩) (v := ?_) rfl (by kernel_rfl) (by kernel_rfl) (by kernel_rfl) (fun _ _ _ h => h) (Or.inl ⟨by rfl, ?_⟩) hS ?_
      rotate_left
      · intro wq hq
        first | (go_simp; done) | (go_simp; rfl)
      try simp only [Act.put, List.setIfInBounds_toArray, List.set_cons_zero, List.set_cons_succ]
      refine wpAnyH_take (i := 5) (oi := ⟨some 54, _, _, _, _, _⟩) (v := ?_) rfl (by kernel_rfl) (by kernel_rfl) (by kernel_rfl) (fun _ _ _ h => h) (Or.inl ⟨by rfl, ?_⟩) hS ?_
      rotate_left
      · intro wq hq
        first | (go_simp; done) | (go_simp; rfl)
      try simp only [Act.put, List.setIfInBounds_toArray, List.set_cons_zero, List.set_cons_succ]
      refine wpAnyH_ready (rs := [6]) (by kernel_rfl) (by simp) ?_
      refine AllReadyH.cons (o := ⟨none, _, _, _, _, _⟩) rfl (fun K hK => ?_) AllReadyH.nil
      rw [if_pos (by rfl)]
      go_wp2
      refine hK.out _ _ (HN5d.out.far (p := ⟨g, 31 + m, none⟩) (by simp; omega) _) (fun hS => ?_)
      clear hK K
      try simp only [Act.put, List.setIfInBounds_toArray, List.set_cons_zero, List.set_cons_succ]
      refine wpAnyH_done (by kernel_rfl) ?_ _
      have hd : Below w5.heap.size w5 w5.drew := below_drewN (Below.refl _ _) 1
      have hI6 : IsR (w5.setCell ⟨g, 31 + m, none⟩ (.bool true)).drew g a c (fun i => decide (i = m) || sn i) := (HI5.out.below hd).putSeen m hm2
      have hg6 : w.grownBy (w5.setCell ⟨g, 31 + m, none⟩ (.bool true)).drew (some g) := only_drewN (only_setCell HG5.out (p := ⟨g, 31 + m, none⟩) (.inl rfl) (.bool true)) 1
      have hN6 : Blk (w5.setCell ⟨g, 31 + m, none⟩ (.bool true)).drew w.heap.size 67 #[.int .i64 f, .int .i64 ((m : Nat) : Int), .slice A n cp] := HN5.out.far (p := ⟨g, 31 + m, none⟩) (by simp; omega) _
      have hB6 : Below g w (w5.setCell ⟨g, 31 + m, none⟩ (.bool true)).drew := below_drewN (HB5.out.setCell (p := ⟨g, 31 + m, none⟩) (by simp) (.bool true)) 1
      have HI6 := Lib.hid hI6
      have HG6 := Lib.hid hg6
      have HN6 := Lib.hid hN6
      have HB6 := Lib.hid hB6
      clear hd hI6 hg6 hN6 hB6 HN5d hs5 hf5 hS HI5 HG5 HN5 HB5 hmt
      generalize (w5.setCell ⟨g, 31 + m, none⟩ (.bool true)).drew = w6 at *
      by_cases hj0 : j = 0
      · subst hj0
        have y1 : w6.cell? ⟨w.heap.size, 1, none⟩ = some (.int .i64 (m : Int)) := HN6.out.cell 1
        have y2 : w6.cell? ⟨w.heap.size, 2, none⟩ = some (.slice A n cp) := HN6.out.cell 2
        have HKp := Lib.hid (keep_is w6 g a c (fun i => decide (i = m) || sn i) A n cp v HI6.out ((HR.out.below HB6.out).more (Nat.le_of_lt HI6.out.lt)) hm (m : Int) (HOk.out (by first | rfl | trivial)))
        clear HEnd3 HEndI
        go_wp2_with fail
        refine HKp.out.mono ?_
        rintro e w7 ⟨rfl, hI7, hg7⟩
        have HEnd := Lib.hid (HEnd0.out w7 c (by first | rfl | trivial) (by omega) (only_trans HG6.out hg7) hI7)
        clear hI7 hg7 HKp HEnd0
        go_wp2
        go_end0
        exact HEnd.out
      · have ej0 : (j == 0) = false := by simpa using hj0
        have HEnd := Lib.hid (HEndI.out w6 c hj3 hj0 (by omega) HG6.out HI6.out)
        clear HEnd3 HEndI HEnd0
        go_wp2
        go_end0
        exact HEnd.out
end
end Go.Proofs.YtdgoeibfggjbmaaGreatDoor
namespace Go.Proofs.YtdgoeibfggjbmaaGreatDoor
open Go.RowKit
set_option maxRecDepth 100000
set_option linter.unusedSimpArgs false
set_option linter.unusedVariables false

section
variable (w : World) (E : EnvK w) (g : Nat) (a : Att) (c : Int) (sn : Nat → Bool) (f : Int) (A : Option Addr) (n cp : Nat) (v : List Int) (h : IsR w g a c sn) (h0 : 0 ≤ c) (h2 : c ≤ 2) (hr : Rd w g A n v) (hm : n ≤ 140737488351232)

set_option maxHeartbeats 4000000 in
include E h h0 h2 in
theorem read_seen (m : Nat) (hm2 : m < 256) (fl cl : Int) (hb : bnd (m : Int) = some (fl, cl)) (hsn : sn m = true) : Calls Tryz.prog 117 #[.pointer (some ⟨g, 0, none⟩), .agg #[.int .i64 f, .int .i64 ((m : Nat) : Int), .slice A n cp]] w (Red w g a c sn f m v) := by
  have HEnd : Hid (∀ e w1 w', w.grownBy w1 (some g) → Snd w1 g a c sn (m : Int) e w' → Red w g a c sn f m v e w') := Lib.hid fun e w1 w' hg1 hs => ⟨hs.1, only_trans hg1 hs.2.1, by rw [if_pos (by simp [hb, hsn])]; exact hs.2.2⟩
  have hb0 : Below w.heap.size w (w.alloc (.cells #[.int .i64 f, .int .i64 ((m : Nat) : Int), .slice A n cp] 67)) := (Below.refl _ _).alloc (Nat.le_refl _) _
  have HE := Lib.hid (E.below hb0)
  have HB := Lib.hid hb0
  have HN := Lib.hid (Blk.new w 67 #[.int .i64 f, .int .i64 ((m : Nat) : Int), .slice A n cp])
  have HS : Hid (w.heap.size < (w.alloc (.cells #[.int .i64 f, .int .i64 ((m : Nat) : Int), .slice A n cp] 67)).heap.size) := Lib.hid (by simp)
  have HI := Lib.hid (h.below hb0)
  have hglt := h.lt
  have HBd : Hid (bndV (m : Int) = .tuple #[.agg #[.int .i64 m, .int .i64 fl, .int .i64 cl], .bool true]) := Lib.hid (by unfold bndV; rw [hb])
  clear hb0 E h
  go_enter Tryz.func117, Tryz.ntmps117
  go_wp2_with fail
  refine (boundsOf_is _ HE.out (m : Int)).mono ?_
  generalize (w.alloc (.cells #[.int .i64 f, .int .i64 ((m : Nat) : Int), .slice A n cp] 67)) = w0 at *
  rintro e w1 ⟨rfl, hB1⟩
  rw [HBd.out]
  have HB1 := Lib.hid (HB.out.trans (hB1.mono (Nat.le_of_lt HS.out)))
  have HN1 := Lib.hid (HN.out.below hB1 HS.out)
  have HI1 := Lib.hid (HI.out.below hB1)
  clear hB1 HN HI HE HB HS HBd hb
  have hal : Below w1.heap.size w1 (w1.alloc (.cells #[.int .i64 m, .int .i64 fl, .int .i64 cl] 217)) := (Below.refl _ _).alloc (Nat.le_refl _) _
  have HB2 := Lib.hid (HB1.out.trans (hal.mono HB1.out.size))
  have HN2 := Lib.hid (HN1.out.below hal HN1.out.lt)
  have HI2 := Lib.hid (HI1.out.below hal)
  clear hal HB1 HN1 HI1
  go_wp2
  generalize (w1.alloc (.cells #[.int .i64 m, .int .i64 fl, .int .i64 cl] 217)) = w2 at *
  have hs0 : w2.cell? ⟨g, 31 + m, none⟩ = some (.bool true) := by rw [HI2.out.seen m hm2, hsn]
  have HN2d : Hid (Blk w2.drew w.heap.size 67 #[.int .i64 f, .int .i64 ((m : Nat) : Int), .slice A n cp] ∧ w2.drew.cell? ⟨g, 31 + m, none⟩ = some (.bool true)) := Lib.hid ⟨HN2.out, hs0⟩
  have HSn := Lib.hid hsn
  clear hs0 hsn
  have hmi : (m : Int) < 256 := by omega
  have hmi0 : (0 : Int) ≤ (m : Int) := by omega
  have hmt : ((m : Int)).toNat = m := by simp
  refine wp_region_held_drew (S := fun W => Blk W w.heap.size 67 #[.int .i64 f, .int .i64 ((m : Nat) : Int), .slice A n cp] ∧ W.cell? ⟨g, 31 + m, none⟩ = some (.bool true)) (by kernel_rfl) (HN2d.out) (fun hS => ?_)
  refine wpAnyH_take (i := 0) (oi := ⟨some 13, _, _, _, _, _⟩) (v := ?_) rfl (by kernel_rfl) (by kernel_rfl) (by kernel_rfl) (fun _ _ _ h => h) (Or.inl ⟨by rfl, ?_⟩) hS ?_
  rotate_left
  · intro wq hq
    first | (go_simp; done) | (go_simp; rfl)
  try simp only [Act.put, List.setIfInBounds_toArray, List.set_cons_zero, List.set_cons_succ]
  refine wpAnyH_take (i := 1) (oi := ⟨some 14, _, _, _, _, _⟩) (v := ?_) rfl (by kernel_rfl) (by kernel_rfl) (by kernel_rfl) (fun _ _ _ h => h) (Or.inl ⟨by rfl, ?_⟩) hS ?_
  rotate_left
  · intro wq hq
    first | (go_simp; done) | (go_simp; rfl)
  try simp only [Act.put, List.setIfInBounds_toArray, List.set_cons_zero, List.set_cons_succ]
  refine wpAnyH_take (i := 2) (oi := ⟨some 15, _, _, _, _, _⟩) (v := ?_) rfl (by kernel_rfl) (by kernel_rfl) (by kernel_rfl) (fun _ _ _ h => h) (Or.inl ⟨by rfl, ?_⟩) hS ?_
  rotate_left
  · intro wq hq
    first | (go_simp; done) | (go_simp; rfl)
  try simp only [Act.put, List.setIfInBounds_toArray, List.set_cons_zero, List.set_cons_succ]
  refine wpAnyH_take (i := 3) (oi := ⟨some 16, _, _, _, _, _⟩) (v := ?_) rfl (by kernel_rfl) (by kernel_rfl) (by kernel_rfl) (fun _ _ _ h => h) (Or.inl ⟨by rfl, ?_⟩) hS ?_
  rotate_left
  · intro wq hq
    first | (go_simp; done) | (go_simp; rfl)
  try simp only [Act.put, List.setIfInBounds_toArray, List.set_cons_zero, List.set_cons_succ]
  refine wpAnyH_take (i := 4) (oi := ⟨some 17, _, _, _, _, _⟩) (v := ?_) rfl (by kernel_rfl) (by kernel_rfl) (by kernel_rfl) (fun _ _ _ h => h) (Or.inl ⟨by rfl, ?_⟩) hS ?_
  rotate_left
  · intro wq hq
    have d1 : wq.cell? ⟨w.heap.size, 1, none⟩ = some (.int .i64 (m : Int)) := hq.1.cell 1
    first | (go_simp; done) | (go_simp; rfl)
  try simp only [Act.put, List.setIfInBounds_toArray, List.set_cons_zero, List.set_cons_succ]
  refine wpAnyH_take (i := 5) (oi := ⟨some 18, _, _, _, _, _⟩) (v := ?_) rfl (by kernel_rfl) (by kernel_rfl) (by kernel_rfl) (fun _ _ _ h => h) (Or.inl ⟨by rfl, ?_⟩) hS ?_
  rotate_left
  · intro wq hq
    first | (go_simp; done) | (go_simp; rfl)
  try simp only [Act.put, List.setIfInBounds_toArray, List.set_cons_zero, List.set_cons_succ]
  refine wpAnyH_take (i := 6) (oi := ⟨some 19, _, _, _, _, _⟩) (v := ?_) rfl (by kernel_rfl) (by kernel_rfl) (by kernel_rfl) (fun _ _ _ h => h) (Or.inl ⟨by rfl, ?_⟩) hS ?_
  rotate_left
  · intro wq hq
    first | (go_simp; done) | (go_simp; rfl)
  try simp only [Act.put, List.setIfInBounds_toArray, List.set_cons_zero, List.set_cons_succ]
  refine wpAnyH_take (i := 7) (oi := ⟨some 20, _, _, _, _, _⟩) (v := ?_) rfl (by kernel_rfl) (by kernel_rfl) (by kernel_rfl) (fun _ _ _ h => h) (Or.inl ⟨by rfl, ?_⟩) hS ?_
  rotate_left
  · intro wq hq
    first | (go_simp; done) | (go_simp; rfl)
  try simp only [Act.put, List.setIfInBounds_toArray, List.set_cons_zero, List.set_cons_succ]
  refine wpAnyH_take (i := 8) (oi := ⟨some 21, _, _, _, _, _⟩) (v := ?_) rfl (by kernel_rfl) (by kernel_rfl) (by kernel_rfl) (fun _ _ _ h => h) (Or.inl ⟨by rfl, ?_⟩) hS ?_
  rotate_left
  · intro wq hq
    have d2 : wq.cell? ⟨g, 31 + m, none⟩ = some (.bool true) := hq.2
    first | (go_simp; done) | (go_simp; rfl)
  try simp only [Act.put, List.setIfInBounds_toArray, List.set_cons_zero, List.set_cons_succ]
  refine wpAnyH_take (i := 9) (oi := ⟨some 22, _, _, _, _, _⟩) (v := ?_) rfl (by kernel_rfl) (by kernel_rfl) (by kernel_rfl) (fun _ _ _ h => h) (Or.inl ⟨by rfl, ?_⟩) hS ?_
  rotate_left
  · intro wq hq
    first | (go_simp; done) | (go_simp; rfl)
  try simp only [Act.put, List.setIfInBounds_toArray, List.set_cons_zero, List.set_cons_succ]
  refine wpAnyH_done (by kernel_rfl) ?_ _
  clear HN2d hmt
  have hd : Below w2.heap.size w2 w2.drew := below_drewN (Below.refl _ _) 1
  have HB3 := Lib.hid (HB2.out.trans (hd.mono HB2.out.size))
  have HN3 := Lib.hid (HN2.out.below hd HN2.out.lt)
  have HI3 := Lib.hid (HI2.out.below hd)
  clear hd hS HB2 HN2 HI2
  generalize w2.drew = w3 at *
  have x1 : w3.cell? ⟨w.heap.size, 1, none⟩ = some (.int .i64 (m : Int)) := HN3.out.cell 1
  go_wp2_with fail
  refine (readSecond_is w3 g a c sn (m : Int) HI3.out h0 h2).mono ?_
  rintro e w4 hs4
  have HS4 := Lib.hid (HEnd.out e w3 w4 (only_of_below HB3.out _) hs4)
  obtain ⟨rfl, _⟩ := hs4
  clear HEnd HB3 HN3 HI3 x1
  go_wp2
  go_end0
  exact HS4.out
include E h h0 h2 hr hm in
theorem read_is (k : Int) : Calls Tryz.prog 117 #[.pointer (some ⟨g, 0, none⟩), .agg #[.int .i64 f, .int .i64 k, .slice A n cp]] w (Red w g a c sn f k v) := by
  cases hb : bnd k with
  | none => exact read_no w E g a c sn f A n cp v h h0 h2 hr hm k hb
  | some r =>
    obtain ⟨fl, cl⟩ := r
    obtain ⟨m, rfl, hm2⟩ := bnd_nat hb
    cases hsn : sn m with
    | false => exact read_new w E g a c sn f A n cp v h h0 h2 hr hm m hm2 fl cl hb hsn
    | true => exact read_seen w E g a c sn f A n cp v h h0 h2 m hm2 fl cl hb hsn
end

/-- What attributes say, the class, the fault (code, fault under it, data): behind those that are done. -/
def rdF : List Raw → Att → Int → List Raw → Att × Int × Int × Int × List Int
  | _, a, c, [] => (a, c, 0, 0, [])
  | done, a, c, r :: rest =>
    if (bnd r.2.1).isSome = true ∧ r.2.1 ∈ done.map (·.2.1) then (if r.2.1 = 14 ∨ r.2.1 = 15 then (Att.zero, 3, 3, 1, []) else rdF (done ++ [r]) a (max c 1) rest)
    else if judge r.1 r.2.1 r.2.2 = 3 then (Att.zero, 3, 3, (if (bnd r.2.1).isSome then 4 else 2), fdata r)
    else rdF (done ++ [r]) (if (bnd r.2.1).isSome = true ∧ judge r.1 r.2.1 r.2.2 = 0 then keepA a r.2.1 r.2.2 else a) (max c (judge r.1 r.2.1 r.2.2)) rest
/-- What attributes say together. -/
def readM (rs : List Raw) : Att × Int × Int × Int × List Int := rdF [] Att.zero 0 rs

/-- Where the loop stands: the attributes ahead of m are done. -/
def Goes (rs : List Raw) (m : Nat) (a : Att) (c : Int) : Prop := readM rs = rdF (rs.take m) a c (rs.drop m)
theorem goes_end {rs : List Raw} {m : Nat} {a : Att} {c : Int} (h : Goes rs m a c) (hm : m = rs.length) : readM rs = (a, c, 0, 0, []) := by
  unfold Goes at h
  rw [h, List.drop_of_length_le (by omega)]
  rfl
section
variable {rs : List Raw} {m : Nat} {a : Att} {c : Int} (h : Goes rs m a c) (hm : m < rs.length)
include h hm
theorem goes_again (hk : (bnd rs[m].2.1).isSome = true) (hin : rs[m].2.1 ∈ (rs.take m).map (·.2.1)) (hn : ¬ (rs[m].2.1 = 14 ∨ rs[m].2.1 = 15)) : Goes rs (m + 1) a (max c 1) := by
  unfold Goes at *
  rw [h, List.drop_eq_getElem_cons hm, rdF, if_pos ⟨hk, hin⟩, if_neg hn, List.take_succ_eq_append_getElem hm]
theorem goes_twice (hk : (bnd rs[m].2.1).isSome = true) (hin : rs[m].2.1 ∈ (rs.take m).map (·.2.1)) (hn : rs[m].2.1 = 14 ∨ rs[m].2.1 = 15) : readM rs = (Att.zero, 3, 3, 1, []) := by
  unfold Goes at *
  rw [h, List.drop_eq_getElem_cons hm, rdF, if_pos ⟨hk, hin⟩, if_pos hn]
theorem goes_reset (hn : ¬ ((bnd rs[m].2.1).isSome = true ∧ rs[m].2.1 ∈ (rs.take m).map (·.2.1))) (hj : judge rs[m].1 rs[m].2.1 rs[m].2.2 = 3) : readM rs = (Att.zero, 3, 3, (if (bnd rs[m].2.1).isSome then 4 else 2), fdata rs[m]) := by
  unfold Goes at *
  rw [h, List.drop_eq_getElem_cons hm, rdF, if_neg hn, if_pos hj]
theorem goes_on (hn : ¬ ((bnd rs[m].2.1).isSome = true ∧ rs[m].2.1 ∈ (rs.take m).map (·.2.1))) (hj : judge rs[m].1 rs[m].2.1 rs[m].2.2 ≠ 3) :
    Goes rs (m + 1) (if (bnd rs[m].2.1).isSome = true ∧ judge rs[m].1 rs[m].2.1 rs[m].2.2 = 0 then keepA a rs[m].2.1 rs[m].2.2 else a) (max c (judge rs[m].1 rs[m].2.1 rs[m].2.2)) := by
  unfold Goes at *
  rw [h, List.drop_eq_getElem_cons hm, rdF, if_neg hn, if_neg hj, List.take_succ_eq_append_getElem hm]
end
/-- The marks are of the kinds that were there. -/
def Marks (sn : Nat → Bool) (done : List Raw) : Prop := ∀ k : Nat, (bnd (k : Int)).isSome = true → (sn k = true ↔ (k : Int) ∈ done.map (·.2.1))
theorem marks_known {sn : Nat → Bool} {done : List Raw} {r : Raw} (h : Marks sn done) (hk : (bnd r.2.1).isSome = true) : Marks (fun i => decide (i = r.2.1.toNat) || sn i) (done ++ [r]) := by
  intro k hb
  obtain ⟨q, hq⟩ := Option.isSome_iff_exists.1 hk
  obtain ⟨m, hm, _⟩ := bnd_nat hq
  have := h k hb
  simp only [Bool.or_eq_true, decide_eq_true_eq, this, List.map_append, List.mem_append, List.map_cons, List.map_nil, List.mem_singleton]
  rw [hm]
  constructor
  · rintro (e | e)
    · right; omega
    · left; exact e
  · rintro (e | e)
    · right; exact e
    · left; omega
theorem marks_same {sn : Nat → Bool} {done : List Raw} {r : Raw} (h : Marks sn done) (hs : r.2.1 ∈ done.map (·.2.1) ∨ (bnd r.2.1).isSome = false) : Marks sn (done ++ [r]) := by
  intro k hb
  rw [h k hb, List.map_append, List.mem_append]
  constructor
  · exact .inl
  · rintro (e | e)
    · exact e
    · simp only [List.map_cons, List.map_nil, List.mem_singleton] at e
      rcases hs with hs | hs
      · rw [e]; exact hs
      · rw [← e, hb] at hs; cases hs
end Go.Proofs.YtdgoeibfggjbmaaGreatDoor
namespace Go.Proofs.YtdgoeibfggjbmaaGreatDoor
open Go.RowKit
set_option maxRecDepth 100000
set_option linter.unusedSimpArgs false
set_option linter.unusedVariables false

theorem red_cases {w w1 : World} {g : Nat} {a : Att} {c : Int} {sn : Nat → Bool} {rs : List Raw} {m : Nat} {e : Ending} (hm : m < rs.length) (hg : Goes rs m a c) (hk : Marks sn (rs.take m)) (h0 : 0 ≤ c) (h2 : c ≤ 2)
    (h : Red w g a c sn rs[m].1 rs[m].2.1 rs[m].2.2 e w1) :
    (∃ sub data, Rst w1 g sub data ∧ readM rs = (Att.zero, 3, 3, sub, data)) ∨ (∃ a' c' sn', IsR w1 g a' c' sn' ∧ Goes rs (m + 1) a' c' ∧ Marks sn' (rs.take (m + 1)) ∧ 0 ≤ c' ∧ c' ≤ 2) := by
  obtain ⟨_, _, h⟩ := h
  have hj := judge_bd rs[m].1 rs[m].2.1 rs[m].2.2
  have hmk : (bnd rs[m].2.1).isSome = true → (sn rs[m].2.1.toNat = true ↔ rs[m].2.1 ∈ (rs.take m).map (·.2.1)) := fun hb => by
    obtain ⟨q, hq⟩ := Option.isSome_iff_exists.1 hb
    obtain ⟨x, hx, _⟩ := bnd_nat hq
    rw [hx] at hb ⊢
    rw [Int.toNat_natCast]
    exact hk x hb
  have ht := List.take_succ_eq_append_getElem hm
  by_cases hs : (bnd rs[m].2.1).isSome = true ∧ sn rs[m].2.1.toNat = true
  · rw [if_pos hs] at h
    have hin := (hmk hs.1).1 hs.2
    by_cases h14 : rs[m].2.1 = 14 ∨ rs[m].2.1 = 15
    · rw [if_pos h14] at h
      exact .inl ⟨1, [], h, goes_twice hg hm hs.1 hin h14⟩
    · rw [if_neg h14] at h
      exact .inr ⟨_, _, _, h, goes_again hg hm hs.1 hin h14, by rw [ht]; exact marks_same hk (.inl hin), by omega, by omega⟩
  · rw [if_neg hs] at h
    have hn : ¬ ((bnd rs[m].2.1).isSome = true ∧ rs[m].2.1 ∈ (rs.take m).map (·.2.1)) := fun hx => hs ⟨hx.1, (hmk hx.1).2 hx.2⟩
    by_cases hj3 : judge rs[m].1 rs[m].2.1 rs[m].2.2 = 3
    · rw [if_pos hj3] at h
      exact .inl ⟨_, _, h, goes_reset hg hm hn hj3⟩
    · rw [if_neg hj3] at h
      refine .inr ⟨_, _, _, h, goes_on hg hm hn hj3, ?_, by omega, by omega⟩
      rw [ht]
      cases hb : (bnd rs[m].2.1).isSome with
      | true => rw [if_pos rfl]; exact marks_known hk hb
      | false => rw [if_neg (by simp)]; exact marks_same hk (.inr hb)

theorem results_csc {P : Program} {fn : Func} {p q r : Tmp} {ty ty2 : TypeId} (h : fn.results = #[.cell p ty, .tmp q, .cell r ty2]) (tmps : Array Value) (w : World) (g g2 : Nat) (cs ds : List Value) (d d2 : TypeDesc) (u : Value)
    (hp : tmps.getD p undef = .pointer (some ⟨g, 0, none⟩)) (hq : tmps.getD q undef = u) (hr : tmps.getD r undef = .pointer (some ⟨g2, 0, none⟩)) (hg : w.rangeAt g 0 cs) (hg2 : w.rangeAt g2 0 ds)
    (hu : P.underlying ty = some d) (hd : d.isRow = true) (hi : (P.info? ty).map (·.size) = some cs.length) (hu2 : P.underlying ty2 = some d2) (hd2 : d2.isRow = true) (hi2 : (P.info? ty2).map (·.size) = some ds.length) :
    (results fn tmps).run P w = .ok (.tuple #[.agg cs.toArray, u, .agg ds.toArray]) w := by
  have hp' : tmps[p]?.getD undef = .pointer (some ⟨g, 0, none⟩) := by simpa using hp
  have hq' : tmps[q]?.getD undef = u := by simpa using hq
  have hr' : tmps[r]?.getD undef = .pointer (some ⟨g2, 0, none⟩) := by simpa using hr
  simp [results, h, hp', hq', hr', asAddr, run_loadVar_mid w g 0 ty cs d hg hu hd hi, run_loadVar_mid w g2 0 ty2 ds d2 hg2 hu2 hd2 hi2]

/-- Attributes' cells, what they say in memory from lo on. -/
structure IsAt (lo : Nat) (w : World) (cs : List Value) (a : Att) : Prop where
  ex : ∃ vp vc vm, cs = attV a vp vc vm ∧ OwnN lo w vp a.path ∧ OwnN lo w vc a.clus ∧ OwnC lo w vm a.comms
  ip : a.pm.ip.length = 16
theorem IsAt.zero (lo : Nat) (w : World) : IsAt lo w (attV Att.zero (.slice none 0 0) (.slice none 0 0) (.slice none 0 0)) Att.zero := ⟨⟨_, _, _, rfl, OwnN.nil_ _ _, OwnN.nil_ _ _, OwnC.nil_ _ _⟩, rfl⟩
theorem IsAt.below {lo : Nat} {w w' : World} {cs : List Value} {a : Att} (h : IsAt lo w cs a) (hb : Below w.heap.size w w') : IsAt lo w' cs a := by
  obtain ⟨vp, vc, vm, e, h1, h2, h3⟩ := h.ex
  exact ⟨⟨vp, vc, vm, e, h1.below hb, h2.below hb, h3.below hb⟩, h.ip⟩
def Readed (w : World) (rs : List Raw) (e : Ending) (w' : World) : Prop :=
  ∃ cs A n c, e = .returned (.tuple #[.agg cs.toArray, .int .i64 (readM rs).2.1, .agg #[.int .i64 (readM rs).2.2.1, .int .i64 (readM rs).2.2.2.1, .slice A n c]]) ∧ IsAt w.heap.size w' cs (readM rs).1 ∧ OwnB w.heap.size w' (.slice A n c) (readM rs).2.2.2.2 ∧ Below w.heap.size w w'

theorem zc_reader : Tryz.zeroCells165 = (attV Att.zero (.slice none 0 0) (.slice none 0 0) (.slice none 0 0) ++ ([Value.int .i64 0] ++ ([Value.int .i64 0, .int .i64 0, .slice none 0 0] ++ List.replicate 256 (Value.bool false)))).toArray := by kernel_rfl
theorem isR_new (w : World) : IsR (w.alloc (.cells Tryz.zeroCells165 165)) w.heap.size Att.zero 0 (fun _ => false) := by
  have hB := Blk.new w 165 Tryz.zeroCells165
  rw [zc_reader] at hB ⊢
  have hr := Blk.range hB
  have hl : (attV Att.zero (.slice none 0 0) (.slice none 0 0) (.slice none 0 0)).length = 27 := rfl
  have h1 := range_post hr
  have h2 := range_post h1
  have h3 := range_post h2
  rw [hl] at h1 h2 h3
  refine ⟨⟨_, _, _, range_pre hr, OwnN.nil_ _ _, OwnN.nil_ _ _, OwnC.nil_ _ _⟩, rfl, ?_, fun j hj => ⟨?_, hB.frozen _⟩, fun k hk => ?_, fun i => hB.frozen i⟩
  · exact h1 0 _ rfl
  · have h28 : (w.alloc (.cells (attV Att.zero (.slice none 0 0) (.slice none 0 0) (.slice none 0 0) ++ ([Value.int .i64 0] ++ ([Value.int .i64 0, .int .i64 0, .slice none 0 0] ++ List.replicate 256 (Value.bool false)))).toArray 165)).rangeAt w.heap.size 28 [.int .i64 0, .int .i64 0, .slice none 0 0] := range_pre h2
    rw [h28 j _ (List.getElem?_eq_getElem (by simpa using hj))]
    rfl
  · have := h3 k (.bool false) (by rw [List.getElem?_replicate, if_pos hk])
    exact this

structure RRel (w : World) (rs : List Raw) (wr : World) (m : Nat) (a : Att) (c : Int) (sn : Nat → Bool) : Prop where
  isr : IsR wr (w.heap.size + 2) a c sn
  bel : Below w.heap.size w wr
  r0 : Blk wr w.heap.size 31 #[Value.int .i64 0, .slice none 0 0, .bool false, .int .u32 0, .int .u32 0, .int .u32 0, .slice none 0 0, .slice none 0 0, .int .i64 0, .int .u32 0, .bool false, .int .u8 0, .int .u8 0, .int .u8 0, .int .u8 0, .int .u8 0, .int .u8 0, .int .u8 0, .int .u8 0, .int .u8 0, .int .u8 0, .int .u8 0, .int .u8 0, .int .u8 0, .int .u8 0, .int .u8 0, .int .u8 0]
  rf : Blk wr (w.heap.size + 1) 56 #[.int .i64 0, .int .i64 0, .slice none 0 0]
  goes : Goes rs m a c
  marks : Marks sn (rs.take m)
  c0 : 0 ≤ c
  c2 : c ≤ 2
theorem asz : (Tryz.prog.info? 31).map (·.size) = some 27 := by kernel_rfl
theorem one_attV (a : Att) {vp vc vm : Value} (h1 : vp.oneCell' = true) (h2 : vc.oneCell' = true) (h3 : vm.oneCell' = true) : ∀ v ∈ attV a vp vc vm, v.oneCell' = true := by
  intro v hv
  simp only [attV, List.mem_cons] at hv
  rcases hv with rfl | rfl | rfl | rfl | rfl | rfl | rfl | rfl | hv
  · rfl
  · exact h1
  · rfl
  · rfl
  · rfl
  · rfl
  · exact h2
  · exact h3
  · exact one_pmc _ v hv

end Go.Proofs.YtdgoeibfggjbmaaGreatDoor
namespace Go.Proofs.YtdgoeibfggjbmaaGreatDoor
open Go.RowKit
set_option maxRecDepth 100000
set_option linter.unusedSimpArgs false
set_option linter.unusedVariables false

theorem wp_store_list {op : Oper} {a : Act} {w : World} {K : Act → World → Prop} {Q : Exit → Act → World → Prop} (ty : TypeId) (x y : Operand) (ho : op.op = .store ty x y)
    (b o : Nat) (cs : List Value) (hx : a.eval x = .pointer (some ⟨b, o, none⟩)) (hy : a.eval y = .agg cs.toArray) (ht : w.there b o cs.length) (hi : (Tryz.prog.info? ty).map (·.size) = some cs.length) (h1 : ∀ v ∈ cs, v.oneCell' = true)
    (h : K (a.put op.dst undef) (w.setCells b o cs)) : op.wp Tryz.prog a w K Q :=
  wp_store_mid ty x y ho b o cs.toArray hx hy (by simpa using ht) (by simpa using hi) (all_oneCell_toArray h1) (by simpa using h)
theorem OwnB.far {lo : Nat} {w w' : World} {v : Value} {l : List Int} {g : Nat} (h : OwnB lo w v l) (hg : w.grownBy w' (some g)) (hne : g < lo) : OwnB lo w' v l :=
  h.keep fun i c hi hl _ => hg.block i (Array.getElem?_eq_some_iff.1 hi).1 (fun e => by injection e with e; omega)
theorem below_row {B b o : Nat} {a w : World} (h : Below B a w) (hb : B ≤ b) (hs : B ≤ w.heap.size) (cs : List Value) : Below B a (w.setCells b o cs) :=
  below_only h (only_setCells (a := w) (g := b) (.inl rfl) cs o w (only_refl _ _)) hs (fun j e => by injection e with e; omega)
theorem row_only (w : World) (b o : Nat) (cs : List Value) : w.grownBy (w.setCells b o cs) (some b) := only_setCells (.inl rfl) cs o w (only_refl _ _)

set_option maxHeartbeats 4000000 in
theorem Read_is (w : World) (E : EnvK w) (A : Option Addr) (n cp : Nat) (rs : List Raw) (hr : RdR w w.heap.size A n rs) (hn : n ≤ 1048576) (hv : ∀ r ∈ rs, r.2.2.length ≤ 140737488351232) :
    Calls Tryz.prog 63 #[.slice A n cp] w (Readed w rs) := by
  have HR := Lib.hid hr
  have hlen := hr.len
  have HV := Lib.hid hv
  have HE := Lib.hid E
  have HRel0 : Hid (RRel w rs (((w.alloc (.cells #[Value.int .i64 0, .slice none 0 0, .bool false, .int .u32 0, .int .u32 0, .int .u32 0, .slice none 0 0, .slice none 0 0, .int .i64 0, .int .u32 0, .bool false, .int .u8 0, .int .u8 0, .int .u8 0, .int .u8 0, .int .u8 0, .int .u8 0, .int .u8 0, .int .u8 0, .int .u8 0, .int .u8 0, .int .u8 0, .int .u8 0, .int .u8 0, .int .u8 0, .int .u8 0, .int .u8 0] 31)).alloc (.cells #[.int .i64 0, .int .i64 0, .slice none 0 0] 56)).alloc (.cells Tryz.zeroCells165 165)) 0 Att.zero 0 (fun _ => false)) := Lib.hid (by
    refine ⟨?_, (((Below.refl _ _).alloc (Nat.le_refl _) _).alloc (by simp) _).alloc (by simp; omega) _, ((Blk.new w 31 _).alloc _).alloc _, ?_, by simp [Goes, readM], fun k _ => by simp, by omega, by omega⟩
    · have := isR_new ((w.alloc (.cells #[Value.int .i64 0, .slice none 0 0, .bool false, .int .u32 0, .int .u32 0, .int .u32 0, .slice none 0 0, .slice none 0 0, .int .i64 0, .int .u32 0, .bool false, .int .u8 0, .int .u8 0, .int .u8 0, .int .u8 0, .int .u8 0, .int .u8 0, .int .u8 0, .int .u8 0, .int .u8 0, .int .u8 0, .int .u8 0, .int .u8 0, .int .u8 0, .int .u8 0, .int .u8 0, .int .u8 0] 31)).alloc (.cells #[.int .i64 0, .int .i64 0, .slice none 0 0] 56))
      simpa using this
    · have := (Blk.new (w.alloc (.cells #[Value.int .i64 0, .slice none 0 0, .bool false, .int .u32 0, .int .u32 0, .int .u32 0, .slice none 0 0, .slice none 0 0, .int .i64 0, .int .u32 0, .bool false, .int .u8 0, .int .u8 0, .int .u8 0, .int .u8 0, .int .u8 0, .int .u8 0, .int .u8 0, .int .u8 0, .int .u8 0, .int .u8 0, .int .u8 0, .int .u8 0, .int .u8 0, .int .u8 0, .int .u8 0, .int .u8 0] 31)) 56 #[.int .i64 0, .int .i64 0, .slice none 0 0]).alloc (.cells Tryz.zeroCells165 165)
      simpa using this)
  clear hr hv E
  go_enter Tryz.func63, Tryz.ntmps63
  go_wp2
  go_loopw [7, 10] (fun _ i wr => ∃ m : Nat, m ≤ n ∧ i = .int .i64 m ∧ ∃ a c sn, RRel w rs wr m a c sn) (fun _ i _ => n - (intOf i).toNat)
  case atStart => exact ⟨0, Nat.zero_le _, rfl, _, _, _, HRel0.out⟩
  case round =>
    obtain ⟨m, hm, rfl, a, c, sn, hrel⟩ := hrel
    have HRel := Lib.hid hrel
    have hszr := hrel.bel.size
    clear hrel HRel0
    by_cases hlt : m < n
    · have hml : m < rs.length := by omega
      obtain ⟨b, off, A1, n1, c1, rfl, hbl, x0, x1, x2, hr1⟩ := (HR.out.below HRel.out.bel).get hml
      have hn1 : n1 ≤ 140737488351232 := by rw [← hr1.len]; exact HV.out _ (List.getElem_mem hml)
      have hal : Below wr.heap.size wr (wr.alloc (.cells #[.int .i64 rs[m].1, .int .i64 rs[m].2.1, .slice A1 n1 c1] 67)) := (Below.refl _ _).alloc (Nat.le_refl _) _
      have HI := Lib.hid (HRel.out.isr.below hal)
      have HBl := Lib.hid (HRel.out.bel.trans (hal.mono hszr))
      have H0 := Lib.hid (HRel.out.r0.below hal HRel.out.r0.lt)
      have Hf := Lib.hid (HRel.out.rf.below hal HRel.out.rf.lt)
      have hBn := Blk.new wr 67 #[.int .i64 rs[m].1, .int .i64 rs[m].2.1, .slice A1 n1 c1]
      have y0 : (wr.alloc (.cells #[.int .i64 rs[m].1, .int .i64 rs[m].2.1, .slice A1 n1 c1] 67)).cell? ⟨wr.heap.size, 0, none⟩ = some (.int .i64 rs[m].1) := hBn.cell 0
      have y1 : (wr.alloc (.cells #[.int .i64 rs[m].1, .int .i64 rs[m].2.1, .slice A1 n1 c1] 67)).cell? ⟨wr.heap.size, 0 + 1, none⟩ = some (.int .i64 rs[m].2.1) := hBn.cell 1
      have y2 : (wr.alloc (.cells #[.int .i64 rs[m].1, .int .i64 rs[m].2.1, .slice A1 n1 c1] 67)).cell? ⟨wr.heap.size, 0 + 2, none⟩ = some (.slice A1 n1 c1) := hBn.cell 2
      have HRd := Lib.hid (read_is _ (HE.out.below HBl.out) (w.heap.size + 2) a c sn rs[m].1 A1 n1 c1 rs[m].2.2 HI.out HRel.out.c0 HRel.out.c2 (((hr1.below (hal.mono hszr)).more (Nat.le_add_right _ 2))) hn1 rs[m].2.1)
      have HCs := Lib.hid (fun (w1 : World) (e : Ending) (h : Red (wr.alloc (.cells #[.int .i64 rs[m].1, .int .i64 rs[m].2.1, .slice A1 n1 c1] 67)) (w.heap.size + 2) a c sn rs[m].1 rs[m].2.1 rs[m].2.2 e w1) => (⟨h.1, h.2.1, red_cases hml HRel.out.goes HRel.out.marks HRel.out.c0 HRel.out.c2 h⟩ : e = .returned (.tuple #[]) ∧ _ ∧ _))
      have X0 := Lib.hid x0
      have X1 := Lib.hid x1
      have X2 := Lib.hid x2
      have Y0 := Lib.hid y0
      have Y1 := Lib.hid y1
      have Y2 := Lib.hid y2
      clear x0 x1 x2 y0 y1 y2 hBn hr1 hal HRel
      generalize rs[m].1 = f at *
      generalize rs[m].2.1 = k at *
      generalize rs[m].2.2 = bd at *
      go_wp2_with (first
        | (refine raw_fetch rfl _ rfl b (off + m * 3) f k A1 n1 c1 rfl X0.out X1.out X2.out ?_)
        | (refine raw_fetch rfl _ rfl wr.heap.size 0 f k A1 n1 c1 rfl Y0.out Y1.out Y2.out ?_))
      refine HRd.out.mono ?_
      rintro e w1 hred
      obtain ⟨rfl, hg1, hcs⟩ := HCs.out w1 e hred
      have hB1 : Below w.heap.size w w1 := below_only HBl.out hg1 HBl.out.size (fun j e => by injection e with e; omega)
      have h01 := H0.out.grown hg1 (fun e => by injection e; omega)
      have hf1 := Hf.out.grown hg1 (fun e => by injection e; omega)
      have HB1 := Lib.hid hB1
      have H01 := Lib.hid h01
      have Hf1 := Lib.hid hf1
      clear hred hg1 hB1 h01 hf1 HRd HCs HI HBl H0 Hf X0 X1 X2 Y0 Y1 Y2
      rcases hcs with ⟨sub, data, hrst, hread⟩ | ⟨a', c', sn', hI1, hgo, hmk, hc0, hc2⟩
      · obtain ⟨c27, Ad, nd, cd, hrf, hod⟩ := hrst
        have HRf := Lib.hid hrf
        have HOd := Lib.hid hod
        have HRead := Lib.hid hread
        clear hrf hod hread
        go_wp2
        have HRf1 : Hid (w1.drew.rangeAt (w.heap.size + 2) 28 [.int .i64 3, .int .i64 sub, .slice Ad nd cd] ∧ Blk w1.drew (w.heap.size + 1) 56 #[.int .i64 0, .int .i64 0, .slice none 0 0]) := Lib.hid ⟨HRf.out, Hf1.out⟩
        have H01d : Hid (Blk w1.drew w.heap.size 31 #[Value.int .i64 0, .slice none 0 0, .bool false, .int .u32 0, .int .u32 0, .int .u32 0, .slice none 0 0, .slice none 0 0, .int .i64 0, .int .u32 0, .bool false, .int .u8 0, .int .u8 0, .int .u8 0, .int .u8 0, .int .u8 0, .int .u8 0, .int .u8 0, .int .u8 0, .int .u8 0, .int .u8 0, .int .u8 0, .int .u8 0, .int .u8 0, .int .u8 0, .int .u8 0, .int .u8 0]) := Lib.hid H01.out
        refine wp_region_held_drew (S := fun W => W.rangeAt (w.heap.size + 2) 28 [.int .i64 3, .int .i64 sub, .slice Ad nd cd]) (by kernel_rfl) (HRf1.out.1) (fun hS => ?_)
        refine wpAnyH_take (i := 0) (oi := ⟨some 19, _, _, _, _, _⟩) (v := ?_) rfl (by kernel_rfl) (by kernel_rfl) (by kernel_rfl) (fun _ _ _ h => h) (Or.inl ⟨by rfl, ?_⟩) hS ?_
        rotate_left
        · intro wq hq
          first | (go_simp; done) | (go_simp; rfl)
        try simp only [Act.put, List.setIfInBounds_toArray, List.set_cons_zero, List.set_cons_succ]
        refine wpAnyH_take (i := 1) (oi := ⟨some 20, _, _, _, _, _⟩) (v := ?_) rfl (by kernel_rfl) (by kernel_rfl) (by kernel_rfl) (fun _ _ _ h => h) (Or.inl ⟨by rfl, ?_⟩) hS ?_
        rotate_left
        · intro wq hq
          first | (go_simp; done) | (go_simp; rfl)
        try simp only [Act.put, List.setIfInBounds_toArray, List.set_cons_zero, List.set_cons_succ]
        refine wpAnyH_take (i := 2) (oi := ⟨some 21, _, _, _, _, _⟩) rfl (by kernel_rfl) (by kernel_rfl) (by kernel_rfl) (fun _ _ _ h => h) (yieldsIf_load_mid (by rfl) 56 _ rfl _ _ rfl ([.int .i64 3, .int .i64 sub, .slice Ad nd cd]) _ (fun wq hq => hq) Tryz.underlying56 rfl (fsz)) hS ?_
        try simp only [Act.put, List.setIfInBounds_toArray, List.set_cons_zero, List.set_cons_succ]
        obtain ⟨zs, hzs⟩ : ∃ zs, zs = attV Att.zero (.slice none 0 0) (.slice none 0 0) (.slice none 0 0) := ⟨_, rfl⟩
        obtain ⟨ds, hds⟩ : ∃ ds : List Value, ds = [.int .i64 3, .int .i64 sub, .slice Ad nd cd] := ⟨_, rfl⟩
        have hzl : zs.length = 27 := by rw [hzs]; rfl
        have hdl : ds.length = 3 := by rw [hds]; rfl
        have hT0 : w1.drew.there w.heap.size 0 zs.length := by rw [hzl]; exact H01d.out.there 0 27 (by decide)
        have hS1 := hS
        refine wpAnyH_ready (rs := [3]) (by kernel_rfl) (by simp) ?_
        refine AllReadyH.cons (o := ⟨none, _, _, _, _, _⟩) rfl (fun K hK => ?_) AllReadyH.nil
        rw [if_pos (by rfl)]
        refine wp_store_list 31 _ _ rfl w.heap.size 0 zs rfl (by rw [hzs]; rfl) hT0 (by rw [asz, hzl]) (by rw [hzs]; exact one_attV _ rfl rfl rfl) ?_
        have hf2 : Blk (w1.drew.setCells w.heap.size 0 zs) (w.heap.size + 1) 56 #[.int .i64 0, .int .i64 0, .slice none 0 0] := HRf1.out.2.grown (row_only _ _ _ _) (fun e => by injection e; omega)
        refine hK.out _ _ (World.rangeAt_setCells_apart hS1 _ _ _ (.inl (by omega))) (fun hS => ?_)
        clear hK K
        try simp only [Act.put, List.setIfInBounds_toArray, List.set_cons_zero, List.set_cons_succ]
        have hTf : (w1.drew.setCells w.heap.size 0 zs).there (w.heap.size + 1) 0 ds.length := by rw [hdl]; exact hf2.there 0 3 (by decide)
        have hra := World.rangeAt_setCells_apart (World.rangeAt_setCells_same w1.drew w.heap.size 0 zs hT0) (w.heap.size + 1) 0 ds (.inl (by omega))
        have hrf := World.rangeAt_setCells_same (w1.drew.setCells w.heap.size 0 zs) (w.heap.size + 1) 0 ds hTf
        have hBd : Below w.heap.size w w1.drew := below_drewN HB1.out 1
        have hB2 := below_row (o := 0) hBd (Nat.le_refl _) hBd.size zs
        have hB3 := below_row (o := 0) hB2 (Nat.le_add_right _ 1) hB2.size ds
        have hO2 : OwnB (w.heap.size + 2 + 1) (w1.drew.setCells w.heap.size 0 zs) (.slice Ad nd cd) data := (HOd.out.below (below_drewN (Below.refl _ _) 1)).far (row_only _ _ _ _) (by omega)
        have hO3 : OwnB (w.heap.size + 2 + 1) ((w1.drew.setCells w.heap.size 0 zs).setCells (w.heap.size + 1) 0 ds) (.slice Ad nd cd) data := hO2.far (row_only _ _ _ _) (by omega)
        have HEnd : Hid (Readed w rs (.returned (.tuple #[.agg zs.toArray, .int .i64 3, .agg ds.toArray])) ((w1.drew.setCells w.heap.size 0 zs).setCells (w.heap.size + 1) 0 ds)) := Lib.hid ⟨zs, Ad, nd, cd, by rw [HRead.out, hds], by rw [HRead.out, hzs]; exact IsAt.zero _ _, by rw [HRead.out]; exact hO3.low (by omega), hB3⟩
        have HRa := Lib.hid hra
        have HRf3 := Lib.hid hrf
        have HZl := Lib.hid hzl
        have HDl := Lib.hid hdl
        have HTf := Lib.hid hTf
        have HDy : Hid (Value.agg #[.int .i64 3, .int .i64 sub, .slice Ad nd cd] = .agg ds.toArray) := Lib.hid (by rw [hds])
        have HD1 : Hid (∀ v ∈ ds, v.oneCell' = true) := Lib.hid (by rw [hds]; intro v hv; simp only [List.mem_cons, List.mem_nil_iff, or_false] at hv; rcases hv with rfl | rfl | rfl <;> rfl)
        clear hra hrf hBd hB2 hB3 hO2 hO3 hzs hds hzl hdl hT0 hf2 hS1 hTf
        refine wpAnyH_take (i := 4) (oi := ⟨some 3, _, _, _, _, _⟩) (v := ?_) rfl (by kernel_rfl) (by kernel_rfl) (by kernel_rfl) (fun _ _ _ h => h) (Or.inl ⟨by rfl, ?_⟩) hS ?_
        rotate_left
        · intro wq hq
          first | (go_simp; done) | (go_simp; rfl)
        try simp only [Act.put, List.setIfInBounds_toArray, List.set_cons_zero, List.set_cons_succ]
        refine wpAnyH_ready (rs := [5]) (by kernel_rfl) (by simp) ?_
        refine AllReadyH.cons (o := ⟨none, _, _, _, _, _⟩) rfl (fun K hK => ?_) AllReadyH.nil
        rw [if_pos (by rfl)]
        refine wp_store_list 56 _ _ rfl (w.heap.size + 1) 0 ds rfl HDy.out HTf.out (by rw [fsz, HDl.out]) HD1.out ?_
        have hS2 := hS
        refine hK.out _ _ (World.rangeAt_setCells_apart hS2 _ _ _ (.inl (by omega))) (fun hS => ?_)
        clear hK K
        try simp only [Act.put, List.setIfInBounds_toArray, List.set_cons_zero, List.set_cons_succ]
        refine wpAnyH_done (by kernel_rfl) ?_ _
        clear hS hS2
        go_wp2
        try simp only [Exit.inBlock, Exit.then]
        exact bodyPost_ret (results_csc rfl _ _ w.heap.size (w.heap.size + 1) zs ds _ _ (.int .i64 3) rfl rfl rfl HRa.out HRf3.out Tryz.underlying31 rfl (by rw [asz, HZl.out]) Tryz.underlying56 rfl (by rw [fsz, HDl.out])) rfl HEnd.out
      · have HNx : Hid (RRel w rs w1 (m + 1) a' c' sn') := Lib.hid ⟨hI1, HB1.out, H01.out, Hf1.out, hgo, hmk, hc0, hc2⟩
        have c27 := hI1.cls
        have e3 : (c' == 3) = false := by rw [beq_eq_false_iff_ne]; omega
        clear hI1 hgo hmk HB1 H01 Hf1
        go_wp2
        exact ⟨⟨m + 1, by omega, by go_num, _, _, _, HNx.out⟩, by simp [intOf]; omega⟩
    · obtain rfl : n = m := by omega
      have HEq := Lib.hid (goes_end HRel.out.goes hlen.symm)
      obtain ⟨vp, vc, vm, hra, hop, hoc, hom⟩ := HRel.out.isr.ex
      obtain ⟨Ap, cpp, hvp, _, _⟩ := hop.rd
      obtain ⟨Ac, ccp, hvc, _, _⟩ := hoc.rd
      obtain ⟨Am, cmp, hvm, _, _⟩ := hom.rd
      have h1p : vp.oneCell' = true := by rw [hvp]; rfl
      have h1c : vc.oneCell' = true := by rw [hvc]; rfl
      have h1m : vm.oneCell' = true := by rw [hvm]; rfl
      have HOne := Lib.hid (one_attV a h1p h1c h1m)
      have HRa := Lib.hid hra
      have HOp := Lib.hid hop
      have HOc := Lib.hid hoc
      have HOm := Lib.hid hom
      have hlenA := attV_len a vp vc vm HRel.out.isr.ip
      have HSz : Hid ((Tryz.prog.info? 31).map (·.size) = some (attV a vp vc vm).length) := Lib.hid (by rw [asz, hlenA])
      have HLA := Lib.hid hlenA
      have HSd : Hid (wr.drew.rangeAt (w.heap.size + 2) 0 (attV a vp vc vm) ∧ wr.drew.cell? ⟨w.heap.size + 2, 27, none⟩ = some (.int .i64 c)) := Lib.hid ⟨hra, HRel.out.isr.cls⟩
      have HfD : Hid (Blk wr.drew (w.heap.size + 1) 56 #[.int .i64 0, .int .i64 0, .slice none 0 0]) := Lib.hid HRel.out.rf
      have H0D : Hid (Blk wr.drew w.heap.size 31 #[Value.int .i64 0, .slice none 0 0, .bool false, .int .u32 0, .int .u32 0, .int .u32 0, .slice none 0 0, .slice none 0 0, .int .i64 0, .int .u32 0, .bool false, .int .u8 0, .int .u8 0, .int .u8 0, .int .u8 0, .int .u8 0, .int .u8 0, .int .u8 0, .int .u8 0, .int .u8 0, .int .u8 0, .int .u8 0, .int .u8 0, .int .u8 0, .int .u8 0, .int .u8 0, .int .u8 0]) := Lib.hid HRel.out.r0
      clear hvp hvc hvm h1p h1c h1m hra hop hoc hom hlenA
      go_wp2
      refine wp_region_held_drew (S := fun W => W.rangeAt (w.heap.size + 2) 0 (attV a vp vc vm) ∧ W.cell? ⟨w.heap.size + 2, 27, none⟩ = some (.int .i64 c)) (by kernel_rfl) (HSd.out) (fun hS => ?_)
      refine wpAnyH_take (i := 0) (oi := ⟨some 23, _, _, _, _, _⟩) (v := ?_) rfl (by kernel_rfl) (by kernel_rfl) (by kernel_rfl) (fun _ _ _ h => h) (Or.inl ⟨by rfl, ?_⟩) hS ?_
      rotate_left
      · intro wq hq
        first | (go_simp; done) | (go_simp; rfl)
      try simp only [Act.put, List.setIfInBounds_toArray, List.set_cons_zero, List.set_cons_succ]
      refine wpAnyH_take (i := 1) (oi := ⟨some 24, _, _, _, _, _⟩) rfl (by kernel_rfl) (by kernel_rfl) (by kernel_rfl) (fun _ _ _ h => h) (yieldsIf_load_mid (by rfl) 31 _ rfl _ _ rfl (attV a vp vc vm) _ (fun wq hq => hq.1) Tryz.underlying31 rfl (HSz.out)) hS ?_
      try simp only [Act.put, List.setIfInBounds_toArray, List.set_cons_zero, List.set_cons_succ]
      refine wpAnyH_take (i := 2) (oi := ⟨some 25, _, _, _, _, _⟩) (v := ?_) rfl (by kernel_rfl) (by kernel_rfl) (by kernel_rfl) (fun _ _ _ h => h) (Or.inl ⟨by rfl, ?_⟩) hS ?_
      rotate_left
      · intro wq hq
        first | (go_simp; done) | (go_simp; rfl)
      try simp only [Act.put, List.setIfInBounds_toArray, List.set_cons_zero, List.set_cons_succ]
      refine wpAnyH_take (i := 3) (oi := ⟨some 26, _, _, _, _, _⟩) (v := ?_) rfl (by kernel_rfl) (by kernel_rfl) (by kernel_rfl) (fun _ _ _ h => h) (Or.inl ⟨by rfl, ?_⟩) hS ?_
      rotate_left
      · intro wq hq
        have d1 : wq.cell? ⟨w.heap.size + 2, 27, none⟩ = some (.int .i64 c) := hq.2
        first | (go_simp; done) | (go_simp; rfl)
      try simp only [Act.put, List.setIfInBounds_toArray, List.set_cons_zero, List.set_cons_succ]
      refine wpAnyH_take (i := 4) (oi := ⟨some 27, _, _, _, _, _⟩) (v := ?_) rfl (by kernel_rfl) (by kernel_rfl) (by kernel_rfl) (fun _ _ _ h => h) (Or.inl ⟨by rfl, ?_⟩) hS ?_
      rotate_left
      · intro wq hq
        first | (go_simp; done) | (go_simp; rfl)
      try simp only [Act.put, List.setIfInBounds_toArray, List.set_cons_zero, List.set_cons_succ]
      obtain ⟨zs, hzs⟩ : ∃ zs, zs = attV a vp vc vm := ⟨_, rfl⟩
      obtain ⟨ds, hds⟩ : ∃ ds : List Value, ds = [.int .i64 0, .int .i64 0, .slice none 0 0] := ⟨_, rfl⟩
      have hzl : zs.length = 27 := by rw [hzs]; exact HLA.out
      have hdl : ds.length = 3 := by rw [hds]; rfl
      have hT0 : wr.drew.there w.heap.size 0 zs.length := by rw [hzl]; exact H0D.out.there 0 27 (by decide)
      have hS1 := hS
      refine wpAnyH_ready (rs := [5]) (by kernel_rfl) (by simp) ?_
      refine AllReadyH.cons (o := ⟨none, _, _, _, _, _⟩) rfl (fun K hK => ?_) AllReadyH.nil
      rw [if_pos (by rfl)]
      refine wp_store_list 31 _ _ rfl w.heap.size 0 zs rfl (by rw [hzs]; rfl) hT0 (by rw [asz, hzl]) (by rw [hzs]; exact HOne.out) ?_
      have hf2 : Blk (wr.drew.setCells w.heap.size 0 zs) (w.heap.size + 1) 56 #[.int .i64 0, .int .i64 0, .slice none 0 0] := HfD.out.grown (row_only _ _ _ _) (fun e => by injection e; omega)
      have hcell2 : (wr.drew.setCells w.heap.size 0 zs).cell? ⟨w.heap.size + 2, 27, none⟩ = some (.int .i64 c) := (World.cell?_setCells_out w.heap.size zs 0 wr.drew ⟨w.heap.size + 2, 27, none⟩ (fun e => by simp at e)).trans hS1.2
      refine hK.out _ _ ⟨World.rangeAt_setCells_apart hS1.1 _ _ _ (.inl (by omega)), hcell2⟩ (fun hS => ?_)
      clear hK K
      try simp only [Act.put, List.setIfInBounds_toArray, List.set_cons_zero, List.set_cons_succ]
      have hTf : (wr.drew.setCells w.heap.size 0 zs).there (w.heap.size + 1) 0 ds.length := by rw [hdl]; exact hf2.there 0 3 (by decide)
      have hra := World.rangeAt_setCells_apart (World.rangeAt_setCells_same wr.drew w.heap.size 0 zs hT0) (w.heap.size + 1) 0 ds (.inl (by omega))
      have hrf := World.rangeAt_setCells_same (wr.drew.setCells w.heap.size 0 zs) (w.heap.size + 1) 0 ds hTf
      have hBd : Below w.heap.size w wr.drew := below_drewN HRel.out.bel 1
      have hB2 := below_row (o := 0) hBd (Nat.le_refl _) hBd.size zs
      have hB3 := below_row (o := 0) hB2 (Nat.le_add_right _ 1) hB2.size ds
      have hd : Below wr.heap.size wr wr.drew := below_drewN (Below.refl _ _) 1
      have hOp3 := (((HOp.out.below hd).grown (row_only wr.drew w.heap.size 0 zs) (by omega)).grown (row_only _ (w.heap.size + 1) 0 ds) (by omega)).low (show w.heap.size ≤ w.heap.size + 2 + 1 by omega)
      have hOc3 := (((HOc.out.below hd).grown (row_only wr.drew w.heap.size 0 zs) (by omega)).grown (row_only _ (w.heap.size + 1) 0 ds) (by omega)).low (show w.heap.size ≤ w.heap.size + 2 + 1 by omega)
      have hOm3 := (((HOm.out.below hd).grown (row_only wr.drew w.heap.size 0 zs) (by omega)).grown (row_only _ (w.heap.size + 1) 0 ds) (by omega)).low (show w.heap.size ≤ w.heap.size + 2 + 1 by omega)
      have HEnd : Hid (Readed w rs (.returned (.tuple #[.agg zs.toArray, .int .i64 c, .agg ds.toArray])) ((wr.drew.setCells w.heap.size 0 zs).setCells (w.heap.size + 1) 0 ds)) := Lib.hid ⟨zs, none, 0, 0, by rw [HEq.out, hds], by rw [HEq.out]; exact ⟨⟨vp, vc, vm, hzs, hOp3, hOc3, hOm3⟩, HRel.out.isr.ip⟩, by rw [HEq.out]; exact OwnB.nil_ _ _, hB3⟩
      have HRa3 := Lib.hid hra
      have HRf3 := Lib.hid hrf
      have HZl := Lib.hid hzl
      have HDl := Lib.hid hdl
      have HTf := Lib.hid hTf
      have HDy : Hid (Value.agg #[.int .i64 0, .int .i64 0, .slice none 0 0] = .agg ds.toArray) := Lib.hid (by rw [hds])
      have HD1 : Hid (∀ v ∈ ds, v.oneCell' = true) := Lib.hid (by rw [hds]; intro v hv; simp only [List.mem_cons, List.mem_nil_iff, or_false] at hv; rcases hv with rfl | rfl | rfl <;> rfl)
      clear hra hrf hBd hB2 hB3 hOp3 hOc3 hOm3 hzs hds hzl hdl hT0 hf2 hS1 hTf hd hcell2
      refine wpAnyH_take (i := 6) (oi := ⟨some 3, _, _, _, _, _⟩) (v := ?_) rfl (by kernel_rfl) (by kernel_rfl) (by kernel_rfl) (fun _ _ _ h => h) (Or.inl ⟨by rfl, ?_⟩) hS ?_
      rotate_left
      · intro wq hq
        first | (go_simp; done) | (go_simp; rfl)
      try simp only [Act.put, List.setIfInBounds_toArray, List.set_cons_zero, List.set_cons_succ]
      refine wpAnyH_ready (rs := [7]) (by kernel_rfl) (by simp) ?_
      refine AllReadyH.cons (o := ⟨none, _, _, _, _, _⟩) rfl (fun K hK => ?_) AllReadyH.nil
      rw [if_pos (by rfl)]
      refine wp_store_list 56 _ _ rfl (w.heap.size + 1) 0 ds rfl HDy.out HTf.out (by rw [fsz, HDl.out]) HD1.out ?_
      have hS2 := hS
      have hcell3 : ((wr.drew.setCells w.heap.size 0 zs).setCells (w.heap.size + 1) 0 ds).cell? ⟨w.heap.size + 2, 27, none⟩ = some (.int .i64 c) := (World.cell?_setCells_out (w.heap.size + 1) ds 0 _ ⟨w.heap.size + 2, 27, none⟩ (fun e => by simp at e)).trans hS2.2
      refine hK.out _ _ ⟨World.rangeAt_setCells_apart hS2.1 _ _ _ (.inl (by omega)), hcell3⟩ (fun hS => ?_)
      clear hK K
      try simp only [Act.put, List.setIfInBounds_toArray, List.set_cons_zero, List.set_cons_succ]
      refine wpAnyH_done (by kernel_rfl) ?_ _
      clear hS hS2 hcell3
      go_wp2
      try simp only [Exit.inBlock, Exit.then]
      exact bodyPost_ret (results_csc rfl _ _ w.heap.size (w.heap.size + 1) zs ds _ _ (.int .i64 c) rfl rfl rfl HRa3.out HRf3.out Tryz.underlying31 rfl (by rw [asz, HZl.out]) Tryz.underlying56 rfl (by rw [fsz, HDl.out])) rfl HEnd.out
end Go.Proofs.YtdgoeibfggjbmaaGreatDoor
namespace Go.Proofs.YtdgoeibfggjbmaaGreatDoor
open Go.RowKit
set_option maxRecDepth 100000
set_option linter.unusedSimpArgs false
set_option linter.unusedVariables false

/-- A row of the call's own whose values lie below B. -/
structure OwnV (B lo : Nat) (w : World) (v : Value) (rs : List Raw) : Prop where
  ex : ∃ cs, w.ownsRow lo 67 3 v rs.length cs ∧ Rs (Rd w B) cs rs ∧ ∀ u ∈ cs, u.oneCell' = true
  le : B ≤ lo
theorem RdR.cells {w : World} {B : Nat} {A : Option Addr} {n : Nat} {rs : List Raw} (h : RdR w B A n rs) (hn : 0 < n) : ∃ b off cs, A = some ⟨b, off, none⟩ ∧ b < B ∧ Rs (Rd w B) cs rs ∧ (∀ j y, cs[j]? = some y → w.cell? ⟨b, off + j, none⟩ = some y) ∧ ∀ u ∈ cs, u.oneCell' = true := by
  obtain ⟨b, off, rfl, hb, hc⟩ := h.at_ hn
  have key : ∀ m, m ≤ rs.length → ∃ cs, Rs (Rd w B) cs (rs.take m) ∧ (∀ j y, cs[j]? = some y → w.cell? ⟨b, off + j, none⟩ = some y) ∧ ∀ u ∈ cs, u.oneCell' = true := by
    intro m
    induction m with
    | zero => exact fun _ => ⟨[], by simpa using Rs.nil_, fun j y hy => by simp at hy, fun u hu => by cases hu⟩
    | succ m ih =>
      intro hm
      obtain ⟨cs, h1, h2, h3⟩ := ih (by omega)
      obtain ⟨A1, n1, c1, k0, k1, k2, k3⟩ := hc m (by omega)
      have hl : cs.length = m * 3 := by rw [h1.len, List.length_take]; congr 1; omega
      refine ⟨cs ++ [.int .i64 rs[m].1, .int .i64 rs[m].2.1, .slice A1 n1 c1], ?_, fun j y hy => ?_, fun u hu => ?_⟩
      · rw [List.take_succ_eq_append_getElem (by omega)]
        exact h1.app (Rs.one (f := rs[m].1) (k := rs[m].2.1) (b := rs[m].2.2) k3)
      · rcases Nat.lt_or_ge j cs.length with hj | hj
        · rw [List.getElem?_append_left hj] at hy
          exact h2 j y hy
        · rw [List.getElem?_append_right hj] at hy
          obtain ⟨q, rfl⟩ : ∃ q, j = m * 3 + q := ⟨j - m * 3, by omega⟩
          rw [hl, Nat.add_sub_cancel_left] at hy
          match q, hy with
          | 0, hy => injection hy with hy; subst hy; simpa using k0
          | 1, hy => injection hy with hy; subst hy; rw [← Nat.add_assoc]; exact k1
          | 2, hy => injection hy with hy; subst hy; rw [← Nat.add_assoc]; exact k2
          | q + 3, hy => simp at hy
      · rcases List.mem_append.1 hu with hu | hu
        · exact h3 u hu
        · simp only [List.mem_cons, List.mem_nil_iff, or_false] at hu
          rcases hu with rfl | rfl | rfl <;> rfl
  obtain ⟨cs, h1, h2, h3⟩ := key rs.length (Nat.le_refl _)
  rw [List.take_length] at h1
  exact ⟨b, off, cs, rfl, hb, h1, h2, h3⟩
theorem OwnV.nil_ (B lo : Nat) (w : World) (h : B ≤ lo) (g cap : Nat) (hg : lo ≤ g) (hb : w.heap[g]? = some (.cells #[] 67 (0, 0))) : OwnV B lo w (.slice (some ⟨g, 0, none⟩) 0 0) [] :=
  ⟨⟨[], ⟨rfl, .inr ⟨g, 0, #[], rfl, hg, hb, Nat.le_refl _, Nat.zero_le _, rfl, rfl⟩⟩, Rs.nil_, fun u hu => by cases hu⟩, h⟩
theorem OwnV.below {B lo : Nat} {w w' : World} {v : Value} {rs : List Raw} (h : OwnV B lo w v rs) (hb : Below w.heap.size w w') (hl : lo ≤ w.heap.size) : OwnV B lo w' v rs := by
  obtain ⟨cs, h1, h2, h3⟩ := h.ex
  exact ⟨⟨cs, own_keep h1 fun i c hi _ _ => hb.block i (Array.getElem?_eq_some_iff.1 hi).1, h2.imp fun A n l hr => hr.below (hb.mono (Nat.le_trans h.le hl)), h3⟩, h.le⟩
theorem OwnV.rd {B lo : Nat} {w : World} {v : Value} {rs : List Raw} (h : OwnV B lo w v rs) (hl : lo ≤ w.heap.size) : ∃ A c, v = .slice A rs.length c ∧ RdR w w.heap.size A rs.length rs := by
  obtain ⟨cs, h1, h2, _⟩ := h.ex
  rcases h1.2 with ⟨rfl, hn⟩ | ⟨g, cap, cur, rfl, hb, hg, hnc, hcm, hcs, hx⟩
  · exact ⟨none, 0, by rw [hn], ⟨rfl, fun hp => by omega⟩⟩
  · refine ⟨_, cap, rfl, ⟨rfl, fun _ => ⟨g, 0, rfl, (Array.getElem?_eq_some_iff.1 hg).1, fun i hi => ?_⟩⟩⟩
    have hcell : ∀ j u, cs[j]? = some u → w.cell? ⟨g, j, none⟩ = some u := by
      intro j u hu
      rw [← hx, List.getElem?_take] at hu
      split at hu
      · simp only [World.cell?, hg]
        rw [← Array.getElem?_toList]
        exact hu
      · cases hu
    obtain ⟨k0, k1, A1, n1, c1, k2, k3⟩ := h2.at_ i hi
    refine ⟨A1, n1, c1, ?_, ?_, ?_, k3.more (Nat.le_trans h.le hl)⟩
    · rw [Nat.zero_add]; exact hcell _ _ k0
    · rw [Nat.zero_add]; exact hcell _ _ k1
    · rw [Nat.zero_add]; exact hcell _ _ k2
/-- More attributes behind those that were read. -/
theorem rdF_props : ∀ (l done : List Raw) (a : Att) (c : Int), 0 ≤ c → c ≤ 2 →
    c ≤ (rdF done a c l).2.1 ∧ (rdF done a c l).2.1 ≤ 3 ∧ ((rdF done a c l).2.1 ≠ 3 → (rdF done a c l).2.1 ≤ 2 ∧ (rdF done a c l).2.2 = (0, 0, [])) ∧
      ∀ more, rdF done a c (l ++ more) = if (rdF done a c l).2.1 = 3 then rdF done a c l else rdF (done ++ l) (rdF done a c l).1 (rdF done a c l).2.1 more
  | [], done, a, c, h0, h2 => ⟨Int.le_refl _, by simp [rdF]; omega, fun _ => ⟨h2, rfl⟩, fun more => by
      rw [List.nil_append, List.append_nil, if_neg (by simp [rdF]; omega)]
      rfl⟩
  | r :: l, done, a, c, h0, h2 => by
    have hj := judge_bd r.1 r.2.1 r.2.2
    by_cases hs : (bnd r.2.1).isSome = true ∧ r.2.1 ∈ done.map (·.2.1)
    · by_cases h14 : r.2.1 = 14 ∨ r.2.1 = 15
      · have e : ∀ m, rdF done a c (r :: m) = (Att.zero, 3, 3, 1, []) := fun m => by rw [rdF, if_pos hs, if_pos h14]
        simp only [List.cons_append, e]
        exact ⟨by omega, by omega, fun h => absurd rfl h, fun more => by rw [if_pos trivial]⟩
      · have e : ∀ m, rdF done a c (r :: m) = rdF (done ++ [r]) a (max c 1) m := fun m => by rw [rdF, if_pos hs, if_neg h14]
        have ih := rdF_props l (done ++ [r]) a (max c 1) (by omega) (by omega)
        simp only [List.cons_append, e]
        refine ⟨by omega, ih.2.1, ih.2.2.1, fun more => ?_⟩
        rw [ih.2.2.2 more, List.append_assoc]
        rfl
    · by_cases hj3 : judge r.1 r.2.1 r.2.2 = 3
      · have e : ∀ m, rdF done a c (r :: m) = (Att.zero, 3, 3, (if (bnd r.2.1).isSome then 4 else 2), fdata r) := fun m => by rw [rdF, if_neg hs, if_pos hj3]
        simp only [List.cons_append, e]
        exact ⟨by omega, by omega, fun h => absurd rfl h, fun more => by rw [if_pos trivial]⟩
      · have e : ∀ m, rdF done a c (r :: m) = rdF (done ++ [r]) (if (bnd r.2.1).isSome = true ∧ judge r.1 r.2.1 r.2.2 = 0 then keepA a r.2.1 r.2.2 else a) (max c (judge r.1 r.2.1 r.2.2)) m := fun m => by rw [rdF, if_neg hs, if_neg hj3]
        have ih := rdF_props l (done ++ [r]) (if (bnd r.2.1).isSome = true ∧ judge r.1 r.2.1 r.2.2 = 0 then keepA a r.2.1 r.2.2 else a) (max c (judge r.1 r.2.1 r.2.2)) (by omega) (by omega)
        simp only [List.cons_append, e]
        refine ⟨by omega, ih.2.1, ih.2.2.1, fun more => ?_⟩
        rw [ih.2.2.2 more, List.append_assoc]
        rfl
theorem worse (l more : List Raw) : (readM l).2.1 ≤ (readM (l ++ more)).2.1 ∧ 0 ≤ (readM l).2.1 ∧ (readM l).2.1 ≤ 3 ∧ ((readM l).2.1 = 3 → readM (l ++ more) = readM l) ∧ ((readM l).2.1 ≠ 3 → (readM l).2.2 = (0, 0, [])) := by
  unfold readM
  obtain ⟨h1, h2, h3, h4⟩ := rdF_props l [] Att.zero 0 (by omega) (by omega)
  have h5 := h4 more
  refine ⟨?_, h1, h2, fun h => by rw [h5, if_pos h], fun h => (h3 h).2⟩
  rw [h5]
  split
  · exact Int.le_refl _
  · rename_i hn
    exact (rdF_props more ([] ++ l) _ _ h1 (h3 hn).1).1
end Go.Proofs.YtdgoeibfggjbmaaGreatDoor
namespace Go.Proofs.YtdgoeibfggjbmaaGreatDoor
open Go.RowKit
set_option maxRecDepth 100000
set_option linter.unusedSimpArgs false
set_option linter.unusedVariables false

set_option maxHeartbeats 1000000 in
theorem numbers_is (w : World) (A A2 : Option Addr) (n c c2 : Nat) (l : List Int) (h : RdN w w.heap.size A n l) (h2 : RdN w w.heap.size A2 n l) (hn : n ≤ 35184372088000) :
    Calls Tryz.prog 87 #[.slice A n c, .slice A2 n c2] w fun e w' => e = .returned (.bool true) ∧ ∃ k, w' = w.drewN k := by
  have H := Lib.hid h
  have H2 := Lib.hid h2
  have e1 : ((n : Int) != (n : Int)) = false := by simp
  clear h h2
  go_enter Tryz.func87, Tryz.ntmps87
  go_wp2
  go_loopw [5, 13] (fun _ i wr => ∃ k : Nat, k ≤ n ∧ i = .int .i64 k ∧ ∃ j, wr = w.drewN j) (fun _ i _ => n - (intOf i).toNat)
  case atStart => exact ⟨0, by omega, rfl, 0, rfl⟩
  case round =>
    obtain ⟨k, hk, rfl, hj⟩ := hrel
    have HJ := Lib.hid hj
    by_cases hlt : k < n
    · obtain ⟨b, off, rfl, _, hc⟩ := H.out.at_ (by omega)
      obtain ⟨b2, off2, rfl, _, hc2⟩ := H2.out.at_ (by omega)
      have x0 : wr.cell? ⟨b, off + k, none⟩ = some (.int .u32 (l.getD k 0)) := by obtain ⟨j, rfl⟩ := hj; exact hc k hlt
      have y0 : wr.cell? ⟨b2, off2 + k, none⟩ = some (.int .u32 (l.getD k 0)) := by obtain ⟨j, rfl⟩ := hj; exact hc2 k hlt
      clear hj hc hc2
      have hkI : (k : Int) < (n : Int) := by omega
      generalize l.getD k 0 = x at *
      have e2 : (x != x) = false := by simp
      go_wp2
      go_quiet (fail)
      go_wp2
      exact ⟨⟨k + 1, by omega, by go_num, by obtain ⟨j, rfl⟩ := HJ.out; exact ⟨j + nq, by rw [World.drewN_drewN]⟩⟩, by simp [intOf]; omega⟩
    · obtain rfl : n = k := by omega
      clear hj
      go_wp2
      go_ret
      exact ⟨rfl, HJ.out⟩
end Go.Proofs.YtdgoeibfggjbmaaGreatDoor
namespace Go.Proofs.YtdgoeibfggjbmaaGreatDoor
open Go.RowKit
set_option maxRecDepth 100000
set_option linter.unusedSimpArgs false
set_option linter.unusedVariables false

theorem ip_lits (v : Bool) (l : List Int) (hl : l.length = 16) (ho : Oct l) : Tryz.prog.keyLits 3 27 (ipc v l) = some (.bool v :: l.map (Lit.int .u8)) := by
  have h := keyLits_u8s (P := Tryz.prog) 0 (t := 25) (e := 5) (n := 16) Tryz.underlying25 Tryz.underlying5 (by kernel_rfl) (by kernel_rfl) l hl ho
  have hc1 : Tryz.prog.cellsOf 27 = 17 := by kernel_rfl
  have hc2 : Tryz.prog.cellsOf 25 = 16 := by kernel_rfl
  have hc3 : Tryz.prog.cellsOf 4 = 1 := by kernel_rfl
  unfold Program.keyLits
  rw [Tryz.underlying27]
  have hb : Tryz.prog.keyLits 2 4 [Value.bool v] = some [Lit.bool v] := by
    unfold Program.keyLits
    rw [Tryz.underlying4]
  have ht : (u8s l).take 16 = u8s l := List.take_of_length_le (by simp [hl])
  simp [hc1, hc2, hc3, hl, hb, ht, h]
theorem ip_formed (v : Bool) (l : List Int) (hl : l.length = 16) : (Value.agg (ipc v l).toArray).formed Tryz.prog 27 = true := by
  have hc1 : Tryz.prog.cellsOf 27 = 17 := by kernel_rfl
  simp [Value.formed, Tryz.underlying27, hc1, hl]
theorem lits_inj {a b : List Int} (h : a.map (Lit.int .u8) = b.map (Lit.int .u8)) : a = b := by
  have := congrArg (List.map fun v : Lit => match v with | .int _ n => n | _ => 0) h
  simpa [List.map_map, Function.comp_def] using this
theorem ip_eql (v v' : Bool) (l l' : List Int) (hl : l.length = 16) (hl' : l'.length = 16) (ho : Oct l) (ho' : Oct l') (b : Bool) (hb : decide (v = v' ∧ l = l') = b) (w : World) :
    (binOp .eql 27 (.agg (ipc v l).toArray) (.agg (ipc v' l').toArray)).run Tryz.prog w = .ok (.bool b) w := by
  refine run_eql_key 3 3 3 (by kernel_rfl) (by omega) _ _ _ _ (ip_formed v l hl) (ip_formed v' l' hl') (ip_lits v l hl ho) (ip_lits v' l' hl' ho') b ?_ w
  subst hb
  simp only [decide_eq_true_eq, List.cons.injEq, Lit.bool.injEq]
  exact ⟨fun h => ⟨h.1, by rw [h.2]⟩, fun h => ⟨h.1, lits_inj h.2⟩⟩
theorem ip_neq (v v' : Bool) (l l' : List Int) (hl : l.length = 16) (hl' : l'.length = 16) (ho : Oct l) (ho' : Oct l') (b : Bool) (hb : (!decide (v = v' ∧ l = l')) = b) (w : World) :
    (binOp .neq 27 (.agg (ipc v l).toArray) (.agg (ipc v' l').toArray)).run Tryz.prog w = .ok (.bool b) w := by
  subst hb
  refine run_neq_key 3 3 3 (by kernel_rfl) (by omega) _ _ _ _ (ip_formed v l hl) (ip_formed v' l' hl') (ip_lits v l hl ho) (ip_lits v' l' hl' ho') _ ?_ w
  simp only [decide_eq_true_eq, List.cons.injEq, Lit.bool.injEq]
  exact ⟨fun h => ⟨h.1, by rw [h.2]⟩, fun h => ⟨h.1, lits_inj h.2⟩⟩

set_option maxHeartbeats 400000 in
theorem right_six (w : World) (l : List Int) (hl : l.length = 16) :
    Calls Tryz.prog 89 #[.agg (ipc true l).toArray] w fun e w' => e = .returned (.bool true) ∧ Below w.heap.size w w' := by
  go_enter Tryz.func89, Tryz.ntmps89
  go_wp2
  go_region_with (fail)
  all_goals
    go_wp2
    go_ret
    exact ⟨rfl, below_drewN ((Below.refl _ _).alloc (Nat.le_refl _) _) 1⟩

theorem ipc_get (v : Bool) (xs ys : List Int) (y : Int) (k : Nat) (hk : xs.length = k) : (ipc v (xs ++ y :: ys)).toArray[1 + k]? = some (.int .u8 y) := by
  subst hk
  rw [Nat.add_comm]
  simp [u8s]
theorem ipc_set (v : Bool) (xs ys : List Int) (y z : Int) (k : Nat) (hk : xs.length = k) : (ipc v (xs ++ y :: ys)).toArray.setIfInBounds (1 + k) (.int .u8 z) = (ipc v (xs ++ z :: ys)).toArray := by
  subst hk
  rw [Nat.add_comm]
  simp [u8s, List.set_append]

theorem num4_bd (l : List Int) (hl : l.length = 16) (ho : Oct l) : 0 ≤ numOf (l.take 4) ∧ numOf (l.take 4) < 4294967296 := by
  have hb := numOf_bd (l.take 4) (fun x hx => ho x (List.mem_of_mem_take hx))
  rw [show (l.take 4).length = 4 by simp; omega] at hb
  exact ⟨hb.1, by omega⟩

theorem ip_size (v : Bool) (l : List Int) (hl : l.length = 16) : (Tryz.prog.info? 27).map (·.size) = some (ipc v l).length := by
  have : (Tryz.prog.info? 27).map (·.size) = some 17 := by kernel_rfl
  rw [this]; simp [hl]

set_option maxHeartbeats 1000000 in
theorem right_four (w : World) (l : List Int) (hl : l.length = 16) (ho : Oct l) :
    Calls Tryz.prog 89 #[.agg (ipc false l).toArray] w fun e w' => e = .returned (.bool (rightB false l)) ∧ Below w.heap.size w w' := by
  have HN := Lib.hid (num4_bd l hl ho)
  have he : ∀ W, (binOp .eql 27 (.agg (ipc false l).toArray) (.agg (ipc false (four (numOf (l.take 4)))).toArray)).run Tryz.prog W = .ok (.bool (rightB false l)) W :=
    ip_eql false false l _ hl (four_len _) ho (four_oct _ HN.out.1 HN.out.2) _ (by simp only [true_and, rightB, Bool.false_or]; rw [Bool.eq_iff_iff]; simp only [decide_eq_true_eq]; exact four_num l hl ho)
  have HL := Lib.hid hl
  have HO := Lib.hid ho
  clear hl ho
  generalize rightB false l = r at *
  go_enter Tryz.func89, Tryz.ntmps89
  go_wp2
  refine wp_region_held_drew (S := fun w' => w'.rangeAt w.heap.size 0 (ipc false l)) (by kernel_rfl) (range_drewN (range_new w 27 (ipc false l)) 1) (fun hS => ?_)
  refine wpAnyH_take (i := 0) (oi := ⟨some 3, _, _, _, _, _⟩) (v := ?_) rfl (by kernel_rfl) (by kernel_rfl) (by kernel_rfl) (fun _ _ _ h => h) (Or.inl ⟨by rfl, ?_⟩) hS ?_
  rotate_left
  · intro wq hq
    first | (go_simp; done) | (go_simp; rfl)
  try simp only [Act.put, List.setIfInBounds_toArray, List.set_cons_zero, List.set_cons_succ]
  refine wpAnyH_take (i := 1) (oi := ⟨some 4, _, _, _, _, _⟩) (v := ?_) rfl (by kernel_rfl) (by kernel_rfl) (by kernel_rfl) (fun _ _ _ h => h) (Or.inl ⟨by rfl, ?_⟩) hS ?_
  rotate_left
  · intro wq hq
    have hc := hq 0 _ rfl
    first | (go_simp; done) | (go_simp; rfl)
  try simp only [Act.put, List.setIfInBounds_toArray, List.set_cons_zero, List.set_cons_succ]
  refine wpAnyH_take (i := 2) (oi := ⟨some 5, _, _, _, _, _⟩) (v := ?_) rfl (by kernel_rfl) (by kernel_rfl) (by kernel_rfl) (fun _ _ _ h => h) (Or.inl ⟨by rfl, ?_⟩) hS ?_
  rotate_left
  · intro wq hq
    first | (go_simp; done) | (go_simp; rfl)
  try simp only [Act.put, List.setIfInBounds_toArray, List.set_cons_zero, List.set_cons_succ]
  refine wpAnyH_take (i := 3) (oi := ⟨some 6, _, _, _, _, _⟩) rfl (by kernel_rfl) (by kernel_rfl) (by kernel_rfl) (fun _ _ _ h => h) (yieldsIf_load_mid (by rfl) 27 _ rfl _ _ rfl (ipc false l) _ (fun wq hq => hq) Tryz.underlying27 rfl (ip_size false l HL.out)) hS ?_
  try simp only [Act.put, List.setIfInBounds_toArray, List.set_cons_zero, List.set_cons_succ]
  refine wpAnyH_take (i := 4) (oi := ⟨some 7, _, _, _, _, _⟩) rfl (by kernel_rfl) (by kernel_rfl) (by kernel_rfl) (fun _ _ _ h => h) (yieldsIf_load_mid (by rfl) 27 _ rfl _ _ rfl (ipc false l) _ (fun wq hq => hq) Tryz.underlying27 rfl (ip_size false l HL.out)) hS ?_
  try simp only [Act.put, List.setIfInBounds_toArray, List.set_cons_zero, List.set_cons_succ]
  refine wpAnyH_ready (rs := [5]) (by kernel_rfl) (by simp) ?_
  refine AllReadyH.cons (o := ⟨some 8, _, _, _, _, _⟩) rfl (fun K hK => ?_) AllReadyH.nil
  rw [if_pos (by rfl)]
  go_wp2_with fail
  refine (first4_is _ false l HL.out HO.out).mono ?_
  rintro e w1 ⟨rfl, hB⟩
  have hS1 := range_below hS hB (by simp)
  have HB := Lib.hid hB
  clear hB
  refine hK.out _ _ (hS1) (fun hS => ?_)
  clear hK K
  try simp only [Act.put, List.setIfInBounds_toArray, List.set_cons_zero, List.set_cons_succ]
  refine wpAnyH_ready (rs := [6]) (by kernel_rfl) (by simp) ?_
  refine AllReadyH.cons (o := ⟨some 9, _, _, _, _, _⟩) rfl (fun K hK => ?_) AllReadyH.nil
  rw [if_pos (by rfl)]
  go_wp2_with fail
  refine (four_is _ _ HN.out.1 HN.out.2).mono ?_
  rintro e w2 ⟨rfl, hB2⟩
  have hS2 := range_below hS hB2 (by have := HB.out.size; simp at this; omega)
  have HB2 := Lib.hid hB2
  clear hB2
  refine hK.out _ _ (hS2) (fun hS => ?_)
  clear hK K
  try simp only [Act.put, List.setIfInBounds_toArray, List.set_cons_zero, List.set_cons_succ]
  refine wpAnyH_take (i := 7) (oi := ⟨some 10, _, _, _, _, _⟩) (v := ?_) rfl (by kernel_rfl) (by kernel_rfl) (by kernel_rfl) (fun _ _ _ h => h) (Or.inl ⟨by rfl, ?_⟩) hS ?_
  rotate_left
  · intro wq hq
    first | (go_simp; done) | (go_simp; rfl)
  try simp only [Act.put, List.setIfInBounds_toArray, List.set_cons_zero, List.set_cons_succ]
  refine wpAnyH_take (i := 8) (oi := ⟨some 11, _, _, _, _, _⟩) (v := ?_) rfl (by kernel_rfl) (by kernel_rfl) (by kernel_rfl) (fun _ _ _ h => h) (Or.inl ⟨by rfl, ?_⟩) hS ?_
  rotate_left
  · intro wq hq
    first | (go_simp; done) | (go_simp; rfl)
  try simp only [Act.put, List.setIfInBounds_toArray, List.set_cons_zero, List.set_cons_succ]
  refine wpAnyH_take (i := 9) (oi := ⟨some 2, _, _, _, _, _⟩) (v := ?_) rfl (by kernel_rfl) (by kernel_rfl) (by kernel_rfl) (fun _ _ _ h => h) (Or.inl ⟨by rfl, ?_⟩) hS ?_
  rotate_left
  · intro wq hq
    first | (go_simp; done) | (go_simp; rfl)
  try simp only [Act.put, List.setIfInBounds_toArray, List.set_cons_zero, List.set_cons_succ]
  refine wpAnyH_done (by kernel_rfl) ?_ _
  go_wp2
  go_ret
  refine ⟨rfl, ?_⟩
  have h1 : Below w.heap.size w w1 := (below_drewN ((Below.refl w.heap.size w).alloc (Nat.le_refl _) _) 1).trans (HB.out.mono (by simp))
  exact h1.trans (HB2.out.mono h1.size)

theorem right_is (w : World) (v : Bool) (l : List Int) (hl : l.length = 16) (ho : Oct l) :
    Calls Tryz.prog 89 #[.agg (ipc v l).toArray] w fun e w' => e = .returned (.bool (rightB v l)) ∧ Below w.heap.size w w' := by
  cases v with
  | true => exact right_six w l hl
  | false => exact right_four w l hl ho
end Go.Proofs.YtdgoeibfggjbmaaGreatDoor
namespace Go.Proofs.YtdgoeibfggjbmaaGreatDoor
open Go.RowKit
set_option maxRecDepth 100000
set_option linter.unusedSimpArgs false
set_option linter.unusedVariables false

/-- What is said of floods is of the right sizes. -/
structure PmOk (p : Pm) : Prop where
  k0 : 0 ≤ p.kind
  k1 : p.kind < 256
  l0 : 0 ≤ p.label
  l1 : p.label < 4294967296
  len : p.ip.length = 16
  oct : Oct p.ip
structure AtOk (a : Att) : Prop where
  pm : PmOk a.pm
  path : a.path.length ≤ 35184372088000
  clus : a.clus.length ≤ 35184372088000
  comms : a.comms.length ≤ 35184372088000
theorem lit_int5 (d : Nat) (n : Int) (h : (Lit.int .i64 n).wf = true) : Tryz.prog.keyLits (d + 1) 3 [Value.int .i64 n] = some [Lit.int .i64 n] := by
  unfold Program.keyLits
  rw [Tryz.underlying3]
  simp [h]
theorem lit_u325 (d : Nat) (n : Int) (h : (Lit.int .u32 n).wf = true) : Tryz.prog.keyLits (d + 1) 23 [Value.int .u32 n] = some [Lit.int .u32 n] := by
  unfold Program.keyLits
  rw [Tryz.underlying23]
  simp [h]
theorem pm_lits (p : Pm) (ok : PmOk p) : Tryz.prog.keyLits 4 29 (pmc p) = some (.int .i64 p.kind :: .int .u32 p.label :: .bool p.v6 :: p.ip.map (Lit.int .u8)) := by
  have h := ip_lits p.v6 p.ip ok.len ok.oct
  have hc1 : Tryz.prog.cellsOf 29 = 19 := by kernel_rfl
  have hc2 : Tryz.prog.cellsOf 27 = 17 := by kernel_rfl
  have hc4 : Tryz.prog.cellsOf 3 = 1 := by kernel_rfl
  have hc5 : Tryz.prog.cellsOf 23 = 1 := by kernel_rfl
  have l1 := lit_int5 2 p.kind (by have := ok.k0; have := ok.k1; simp [Lit.wf, IntKind.min, IntKind.max, IntKind.signed, IntKind.bits]; omega)
  have l2 := lit_u325 2 p.label (by have := ok.l0; have := ok.l1; simp [Lit.wf, IntKind.min, IntKind.max, IntKind.signed, IntKind.bits]; omega)
  unfold Program.keyLits
  rw [Tryz.underlying29]
  have ht : (ipc p.v6 p.ip).take 17 = ipc p.v6 p.ip := List.take_of_length_le (by simp [ok.len])
  simp only [ipc] at h ht
  simp [pmc, hc1, hc2, hc4, hc5, ok.len, l1, l2, ht, h]
theorem pm_eq (p : Pm) (ok : PmOk p) (w : World) : (binOp .eql 29 (.agg (pmc p).toArray) (.agg (pmc p).toArray)).run Tryz.prog w = .ok (.bool true) w := by
  have hc1 : Tryz.prog.cellsOf 29 = 19 := by kernel_rfl
  have hfm : (Value.agg (pmc p).toArray).formed Tryz.prog 29 = true := by simp [Value.formed, Tryz.underlying29, hc1, pmc_len p ok.len]
  exact run_eql_key 4 4 4 (by kernel_rfl) (by omega) _ _ _ _ hfm hfm (by simpa using pm_lits p ok) (by simpa using pm_lits p ok) true (by simp) w
theorem comm_in5 (l : List Int) (hl : l.length = 8) (ho : Oct l) (w : World) : (Op.equalIn 10000 138 (.agg (u8s l).toArray) (.agg (u8s l).toArray)).run Tryz.prog w = .ok true w := by
  have hct : Tryz.prog.cellsOf 138 = 8 := by kernel_rfl
  have hf : (Value.agg (u8s l).toArray).formed Tryz.prog 138 = true := by simp [Value.formed, Tryz.underlying138, hct, hl]
  have hL := keyLits_u8s (P := Tryz.prog) 0 (t := 138) (e := 5) (n := 8) Tryz.underlying138 Tryz.underlying5 (by kernel_rfl) (by kernel_rfl) l hl ho
  obtain ⟨r, hr, hiff⟩ := run_equalIn_deep (10000 - 2) 2 138 (by kernel_rfl) w 2 2 (.agg (u8s l).toArray) (.agg (u8s l).toArray) _ _ hf hf (by simpa [Value.cells] using hL) (by simpa [Value.cells] using hL)
  rw [show 10000 - 2 + 2 = 10000 by omega] at hr
  rw [hr, hiff.2 rfl]
/-- Attributes' cells that read as a. -/
structure RdAt (w : World) (B : Nat) (cs : List Value) (a : Att) : Prop where
  ex : ∃ Ap cp Ac cc Am cm, cs = attV a (.slice Ap a.path.length cp) (.slice Ac a.clus.length cc) (.slice Am a.comms.length cm) ∧ RdN w B Ap a.path.length a.path ∧ RdN w B Ac a.clus.length a.clus ∧ RdC w B Am a.comms.length a.comms
theorem IsAt.rdAt {lo : Nat} {w : World} {cs : List Value} {a : Att} (h : IsAt lo w cs a) : RdAt w w.heap.size cs a := by
  obtain ⟨vp, vc, vm, rfl, h1, h2, h3⟩ := h.ex
  obtain ⟨Ap, cp, rfl, _, r1⟩ := h1.rd
  obtain ⟨Ac, cc, rfl, _, r2⟩ := h2.rd
  obtain ⟨Am, cm, rfl, _, r3⟩ := h3.rd
  exact ⟨Ap, cp, Ac, cc, Am, cm, rfl, r1, r2, r3⟩
theorem RdAt.below {w w' : World} {B : Nat} {cs : List Value} {a : Att} (h : RdAt w B cs a) (hb : Below B w w') : RdAt w' B cs a := by
  obtain ⟨Ap, cp, Ac, cc, Am, cm, e, h1, h2, h3⟩ := h.ex
  exact ⟨Ap, cp, Ac, cc, Am, cm, e, h1.below hb, h2.below hb, h3.below hb⟩
theorem RdAt.more {w : World} {B B' : Nat} {cs : List Value} {a : Att} (h : RdAt w B cs a) (hb : B ≤ B') : RdAt w B' cs a := by
  obtain ⟨Ap, cp, Ac, cc, Am, cm, e, h1, h2, h3⟩ := h.ex
  exact ⟨Ap, cp, Ac, cc, Am, cm, e, h1.more hb, h2.more hb, h3.more hb⟩
/-- The first eight cells. -/
theorem att_cells {w : World} {g : Nat} {a : Att} {vp vc vm : Value} (h : Blk w g 31 (attV a vp vc vm).toArray) :
    w.cell? ⟨g, 0, none⟩ = some (.int .i64 a.origin) ∧ w.cell? ⟨g, 1, none⟩ = some vp ∧ w.cell? ⟨g, 2, none⟩ = some (.bool a.hasMed) ∧ w.cell? ⟨g, 3, none⟩ = some (.int .u32 a.med) ∧ w.cell? ⟨g, 4, none⟩ = some (.int .u32 a.pref) ∧ w.cell? ⟨g, 5, none⟩ = some (.int .u32 a.orr) ∧ w.cell? ⟨g, 6, none⟩ = some vc ∧ w.cell? ⟨g, 7, none⟩ = some vm :=
  ⟨h.cell 0, h.cell 1, h.cell 2, h.cell 3, h.cell 4, h.cell 5, h.cell 6, h.cell 7⟩
theorem att_pm {w : World} {g : Nat} {a : Att} {vp vc vm : Value} (h : Blk w g 31 (attV a vp vc vm).toArray) : w.rangeAt g 8 (pmc a.pm) :=
  range_post (cs := [.int .i64 a.origin, vp, .bool a.hasMed, .int .u32 a.med, .int .u32 a.pref, .int .u32 a.orr, vc, vm]) (ds := pmc a.pm) (o := 0) (Blk.range h)

set_option maxHeartbeats 4000000 in
theorem sameA_is (w : World) (cs ds : List Value) (a : Att) (h : RdAt w w.heap.size cs a) (h2 : RdAt w w.heap.size ds a) (ok : AtOk a) :
    Calls Tryz.prog 45 #[.agg cs.toArray, .agg ds.toArray] w fun e w' => e = .returned (.bool true) ∧ Below w.heap.size w w' := by
  obtain ⟨Ap, cp, Ac, cc, Am, cm, rfl, p1, p2, p3⟩ := h.ex
  obtain ⟨Aq, cq, Ad, cd, An, cn, rfl, q1, q2, q3⟩ := h2.ex
  have hpl := ok.path
  have hcl := ok.clus
  have hml := ok.comms
  have hpe := pm_eq a.pm ok.pm
  have HPl := Lib.hid ok.pm.len
  obtain ⟨ca, hca⟩ : ∃ x, x = (attV a (.slice Ap a.path.length cp) (.slice Ac a.clus.length cc) (.slice Am a.comms.length cm)) := ⟨_, rfl⟩
  obtain ⟨da, hda⟩ : ∃ x, x = (attV a (.slice Aq a.path.length cq) (.slice Ad a.clus.length cd) (.slice An a.comms.length cn)) := ⟨_, rfl⟩
  rw [← hca, ← hda]
  have hB0 : Below w.heap.size w ((w.alloc (.cells ca.toArray 31)).alloc (.cells da.toArray 31)) := ((Below.refl _ _).alloc (Nat.le_refl _) _).alloc (by simp) _
  have b1 : Blk ((w.alloc (.cells ca.toArray 31)).alloc (.cells da.toArray 31)) w.heap.size 31 ca.toArray := (Blk.new w 31 ca.toArray).alloc _
  have b2 : Blk ((w.alloc (.cells ca.toArray 31)).alloc (.cells da.toArray 31)) (w.heap.size + 1) 31 da.toArray := by have := Blk.new (w.alloc (.cells ca.toArray 31)) 31 da.toArray; simpa using this
  have b3 : Blk ((w.alloc (.cells ca.toArray 31)).alloc (.cells da.toArray 31)) w.heap.size 31 (attV a (.slice Ap a.path.length cp) (.slice Ac a.clus.length cc) (.slice Am a.comms.length cm)).toArray := by rw [← hca]; exact b1
  have b4 : Blk ((w.alloc (.cells ca.toArray 31)).alloc (.cells da.toArray 31)) (w.heap.size + 1) 31 (attV a (.slice Aq a.path.length cq) (.slice Ad a.clus.length cd) (.slice An a.comms.length cn)).toArray := by rw [← hda]; exact b2
  have HC : Hid (∀ j, _ ∧ _) := Lib.hid fun (j : Nat) => And.intro (att_cells (w := (((w.alloc (.cells ca.toArray 31)).alloc (.cells da.toArray 31))).drewN j) b3) (att_cells (w := (((w.alloc (.cells ca.toArray 31)).alloc (.cells da.toArray 31))).drewN j) b4)
  have HPm : Hid (∀ j, _ ∧ _) := Lib.hid fun (j : Nat) => And.intro (att_pm (w := (((w.alloc (.cells ca.toArray 31)).alloc (.cells da.toArray 31))).drewN j) b3) (att_pm (w := (((w.alloc (.cells ca.toArray 31)).alloc (.cells da.toArray 31))).drewN j) b4)
  have HB0 := Lib.hid hB0
  have hz : w.heap.size ≤ ((w.alloc (.cells ca.toArray 31)).alloc (.cells da.toArray 31)).heap.size := hB0.size
  have P1 := Lib.hid ((p1.below hB0).more hz)
  have P2 := Lib.hid ((p2.below hB0).more hz)
  have P3 := Lib.hid ((p3.below hB0).more hz)
  have Q1 := Lib.hid ((q1.below hB0).more hz)
  have Q2 := Lib.hid ((q2.below hB0).more hz)
  have Q3 := Lib.hid ((q3.below hB0).more hz)
  clear h h2 p1 p2 p3 q1 q2 q3 ok hB0 b1 b2 b3 b4 hca hda hz
  have e0 : ((a.comms.length : Int) != (a.comms.length : Int)) = false := by simp
  have e1 : (a.origin == a.origin) = true := by simp
  have e2 : (a.hasMed == a.hasMed) = true := by simp
  have e3 : (a.med == a.med) = true := by simp
  have e4 : (a.pref == a.pref) = true := by simp
  have e5 : (a.orr == a.orr) = true := by simp
  go_enter Tryz.func45, Tryz.ntmps45
  obtain ⟨⟨x0, x1, x2, x3, x4, x5, x6, x7⟩, y0, y1, y2, y3, y4, y5, y6, y7⟩ := HC.out 0
  rw [World.drewN_zero] at x0 x1 x2 x3 x4 x5 x6 x7 y0 y1 y2 y3 y4 y5 y6 y7
  go_wp2
  clear x0 x1 x2 x3 x4 x5 x6 x7 y0 y1 y2 y3 y4 y5 y6 y7
  generalize ((w.alloc (.cells ca.toArray 31)).alloc (.cells da.toArray 31)) = w0 at *
  go_loopw [5, 16] (fun _ i wr => ∃ k : Nat, k ≤ a.comms.length ∧ i = .int .i64 k ∧ ∃ j, wr = w0.drewN j) (fun _ i _ => a.comms.length - (intOf i).toNat)
  case atStart => exact ⟨0, by omega, rfl, 0, rfl⟩
  case round =>
    obtain ⟨k, hk, rfl, hj⟩ := hrel
    have HJ := Lib.hid hj
    obtain ⟨j, rfl⟩ := hj
    by_cases hlt : k < a.comms.length
    · obtain ⟨b, off, hAm, _, hc⟩ := P3.out.at_ (by omega)
      obtain ⟨b2, off2, hAn, _, hc2⟩ := Q3.out.at_ (by omega)
      have ok8 := P3.out.ok.at_ k hlt
      have hx7 := (HC.out (j + 1)).1.2.2.2.2.2.2.2
      have hy7 := (HC.out (j + 1)).2.2.2.2.2.2.2.2
      have hr1 := hc k hlt
      have hr2 := hc2 k hlt
      rw [hAm] at hx7
      rw [hAn] at hy7
      have HS0 : Hid ((w0.drewN j).drew.cell? ⟨w.heap.size, 7, none⟩ = some (.slice (some ⟨b, off, none⟩) a.comms.length cm) ∧ (w0.drewN j).drew.cell? ⟨w.heap.size + 1, 7, none⟩ = some (.slice (some ⟨b2, off2, none⟩) a.comms.length cn) ∧ (w0.drewN j).drew.rangeAt b (off + k * 8) (u8s a.comms[k]) ∧ (w0.drewN j).drew.rangeAt b2 (off2 + k * 8) (u8s a.comms[k])) := Lib.hid ⟨hx7, hy7, hr1, hr2⟩
      have HNe := Lib.hid (comm_in5 a.comms[k] ok8.1 ok8.2)
      have H8 := Lib.hid ok8.1
      have hkI : (k : Int) < (a.comms.length : Int) := by omega
      clear hc hc2 hx7 hy7 hr1 hr2 ok8 hAm hAn
      generalize a.comms[k] = x at *
      have HSz : Hid ((Tryz.prog.info? 138).map (·.size) = some (u8s x).length) := Lib.hid (by rw [comm_size]; simp [H8.out])
      go_wp2
      refine wp_region_held_drew (S := fun W => W.cell? ⟨w.heap.size, 7, none⟩ = some (.slice (some ⟨b, off, none⟩) a.comms.length cm) ∧ W.cell? ⟨w.heap.size + 1, 7, none⟩ = some (.slice (some ⟨b2, off2, none⟩) a.comms.length cn) ∧ W.rangeAt b (off + k * 8) (u8s x) ∧ W.rangeAt b2 (off2 + k * 8) (u8s x)) (by kernel_rfl) (HS0.out) (fun hS => ?_)
      refine wpAnyH_take (i := 0) (oi := ⟨some 19, _, _, _, _, _⟩) (v := ?_) rfl (by kernel_rfl) (by kernel_rfl) (by kernel_rfl) (fun _ _ _ h => h) (Or.inl ⟨by rfl, ?_⟩) hS ?_
      rotate_left
      · intro wq hq
        first | (go_simp; done) | (go_simp; rfl)
      try simp only [Act.put, List.setIfInBounds_toArray, List.set_cons_zero, List.set_cons_succ]
      refine wpAnyH_take (i := 1) (oi := ⟨some 20, _, _, _, _, _⟩) (v := ?_) rfl (by kernel_rfl) (by kernel_rfl) (by kernel_rfl) (fun _ _ _ h => h) (Or.inl ⟨by rfl, ?_⟩) hS ?_
      rotate_left
      · intro wq hq
        have d1 := hq.1
        first | (go_simp; done) | (go_simp; rfl)
      try simp only [Act.put, List.setIfInBounds_toArray, List.set_cons_zero, List.set_cons_succ]
      refine wpAnyH_take (i := 2) (oi := ⟨some 21, _, _, _, _, _⟩) (v := ?_) rfl (by kernel_rfl) (by kernel_rfl) (by kernel_rfl) (fun _ _ _ h => h) (Or.inl ⟨by rfl, ?_⟩) hS ?_
      rotate_left
      · intro wq hq
        first | (go_simp; done) | (go_simp; rfl)
      try simp only [Act.put, List.setIfInBounds_toArray, List.set_cons_zero, List.set_cons_succ]
      refine wpAnyH_take (i := 3) (oi := ⟨some 22, _, _, _, _, _⟩) (v := ?_) rfl (by kernel_rfl) (by kernel_rfl) (by kernel_rfl) (fun _ _ _ h => h) (Or.inl ⟨by rfl, ?_⟩) hS ?_
      rotate_left
      · intro wq hq
        first | (go_simp; done) | (go_simp; rfl)
      try simp only [Act.put, List.setIfInBounds_toArray, List.set_cons_zero, List.set_cons_succ]
      refine wpAnyH_take (i := 4) (oi := ⟨some 23, _, _, _, _, _⟩) rfl (by kernel_rfl) (by kernel_rfl) (by kernel_rfl) (fun _ _ _ h => h) (yieldsIf_load_mid (by rfl) 138 _ rfl _ _ rfl (u8s x) _ (fun wq hq => hq.2.2.1) Tryz.underlying138 rfl (HSz.out)) hS ?_
      try simp only [Act.put, List.setIfInBounds_toArray, List.set_cons_zero, List.set_cons_succ]
      refine wpAnyH_take (i := 5) (oi := ⟨some 24, _, _, _, _, _⟩) (v := ?_) rfl (by kernel_rfl) (by kernel_rfl) (by kernel_rfl) (fun _ _ _ h => h) (Or.inl ⟨by rfl, ?_⟩) hS ?_
      rotate_left
      · intro wq hq
        first | (go_simp; done) | (go_simp; rfl)
      try simp only [Act.put, List.setIfInBounds_toArray, List.set_cons_zero, List.set_cons_succ]
      refine wpAnyH_take (i := 6) (oi := ⟨some 25, _, _, _, _, _⟩) (v := ?_) rfl (by kernel_rfl) (by kernel_rfl) (by kernel_rfl) (fun _ _ _ h => h) (Or.inl ⟨by rfl, ?_⟩) hS ?_
      rotate_left
      · intro wq hq
        have d2 := hq.2.1
        first | (go_simp; done) | (go_simp; rfl)
      try simp only [Act.put, List.setIfInBounds_toArray, List.set_cons_zero, List.set_cons_succ]
      refine wpAnyH_take (i := 7) (oi := ⟨some 26, _, _, _, _, _⟩) (v := ?_) rfl (by kernel_rfl) (by kernel_rfl) (by kernel_rfl) (fun _ _ _ h => h) (Or.inl ⟨by rfl, ?_⟩) hS ?_
      rotate_left
      · intro wq hq
        first | (go_simp; done) | (go_simp; rfl)
      try simp only [Act.put, List.setIfInBounds_toArray, List.set_cons_zero, List.set_cons_succ]
      refine wpAnyH_take (i := 8) (oi := ⟨some 27, _, _, _, _, _⟩) (v := ?_) rfl (by kernel_rfl) (by kernel_rfl) (by kernel_rfl) (fun _ _ _ h => h) (Or.inl ⟨by rfl, ?_⟩) hS ?_
      rotate_left
      · intro wq hq
        first | (go_simp; done) | (go_simp; rfl)
      try simp only [Act.put, List.setIfInBounds_toArray, List.set_cons_zero, List.set_cons_succ]
      refine wpAnyH_take (i := 9) (oi := ⟨some 28, _, _, _, _, _⟩) rfl (by kernel_rfl) (by kernel_rfl) (by kernel_rfl) (fun _ _ _ h => h) (yieldsIf_load_mid (by rfl) 138 _ rfl _ _ rfl (u8s x) _ (fun wq hq => hq.2.2.2) Tryz.underlying138 rfl (HSz.out)) hS ?_
      try simp only [Act.put, List.setIfInBounds_toArray, List.set_cons_zero, List.set_cons_succ]
      refine wpAnyH_take (i := 10) (oi := ⟨some 29, _, _, _, _, _⟩) (v := ?_) rfl (by kernel_rfl) (by kernel_rfl) (by kernel_rfl) (fun _ _ _ h => h) (Or.inl ⟨by rfl, ?_⟩) hS ?_
      rotate_left
      · intro wq hq
        have d3 := HNe.out wq
        first | (go_simp; done) | (go_simp; rfl)
      try simp only [Act.put, List.setIfInBounds_toArray, List.set_cons_zero, List.set_cons_succ]
      refine wpAnyH_done (by kernel_rfl) ?_ _
      clear hS HS0
      go_wp2
      exact ⟨⟨k + 1, by omega, by go_num, j + 1, rfl⟩, by simp [intOf]; omega⟩
    · obtain rfl : a.comms.length = k := by omega
      obtain ⟨⟨x0, x1, x2, x3, x4, x5, x6, x7⟩, y0, y1, y2, y3, y4, y5, y6, y7⟩ := HC.out j
      have HN1 := Lib.hid (numbers_is (w0.drewN j) Ap Aq a.path.length cp cq a.path (P1.out.below (below_drewN (Below.refl _ _) j)) (Q1.out.below (below_drewN (Below.refl _ _) j)) hpl)
      go_wp2_with fail
      refine HN1.out.mono ?_
      rintro e w' ⟨rfl, k1, rfl⟩
      rw [World.drewN_drewN]
      clear x0 x1 x2 x3 x4 x5 x6 x7 y0 y1 y2 y3 y4 y5 y6 y7 HN1
      obtain ⟨⟨x0, x1, x2, x3, x4, x5, x6, x7⟩, y0, y1, y2, y3, y4, y5, y6, y7⟩ := HC.out (j + k1)
      have HN2 := Lib.hid (numbers_is (w0.drewN (j + k1)) Ac Ad a.clus.length cc cd a.clus (P2.out.below (below_drewN (Below.refl _ _) _)) (Q2.out.below (below_drewN (Below.refl _ _) _)) hcl)
      go_wp2_with fail
      refine HN2.out.mono ?_
      rintro e w' ⟨rfl, k2, rfl⟩
      rw [World.drewN_drewN]
      clear x0 x1 x2 x3 x4 x5 x6 x7 y0 y1 y2 y3 y4 y5 y6 y7 HN2
      obtain ⟨r1, r2⟩ := HPm.out (j + k1 + k2)
      have R1 := Lib.hid r1
      have R2 := Lib.hid r2
      clear r1 r2
      go_wp2_with (first
        | (refine pm_fetch (op := ⟨_, .load 29 (.tmp 79), _, _, _, _⟩) rfl _ rfl w.heap.size 8 a.pm HPl.out rfl R1.out ?_)
        | (refine pm_fetch (op := ⟨_, .load 29 (.tmp 81), _, _, _, _⟩) rfl _ rfl (w.heap.size + 1) 8 a.pm HPl.out rfl R2.out ?_))
      go_ret
      exact ⟨rfl, below_drewN HB0.out _⟩
end Go.Proofs.YtdgoeibfggjbmaaGreatDoor
namespace Go.Proofs.YtdgoeibfggjbmaaGreatDoor
open Go.RowKit
set_option maxRecDepth 100000
set_option linter.unusedSimpArgs false
set_option linter.unusedVariables false

end Go.Proofs.YtdgoeibfggjbmaaGreatDoor
