/-
  HelloAgrees' walk.
-/
import Derived.Test.YtgfjjkckamppoaaDoorHeR
import Derived.Test.YtgfjjkckamppoaaDoorHeQ
namespace Go.Proofs.YtgfjjkckamppoaaDoor
open Go.RowKit
set_option maxRecDepth 100000
set_option linter.unusedSimpArgs false
set_option linter.unusedVariables false

/-- What is told of terms, part by part. -/
def tvT (r : Except (Int × List Int) Tm) : Tm := match r with | .ok t => t | .error _ => tm0
def tvC (r : Except (Int × List Int) Tm) : Int := match r with | .ok _ => 0 | .error _ => 2
def tvS (r : Except (Int × List Int) Tm) : Int := match r with | .ok _ => 0 | .error q => q.1
def tvD (r : Except (Int × List Int) Tm) : List Int := match r with | .ok _ => [] | .error q => q.2
def tvB (r : Except (Int × List Int) Tm) : Bool := match r with | .ok _ => true | .error _ => false
theorem toldT_any {w w' : World} {r : Except (Int × List Int) Tm} {e : Ending} (h : ToldT w r e w') : Below w.heap.size w w' ∧ ∃ A n k, e = .returned (.tuple #[.agg (tmc (tvT r)).toArray, .agg #[.int .i64 (tvC r), .int .i64 (tvS r), .slice A n k], .bool (tvB r)]) ∧ Rd w' w'.heap.size A n (tvD r) := by
  obtain ⟨hB, hp⟩ := h
  refine ⟨hB, ?_⟩
  cases r with
  | ok t => exact ⟨none, 0, 0, hp, Rd.nil_ _⟩
  | error q =>
    obtain ⟨s, d⟩ := q
    obtain ⟨A, n, c, he, _, hr⟩ := hp
    exact ⟨A, n, c, he, hr⟩
theorem agree_ok (m t : Hl) (hm : HlOk m) (ht : HlOk t) (n : Int) : TmOk (tvT (agreeR m t n)) := by
  have h0 : TmOk tm0 := ⟨by decide, by decide, by decide, by decide⟩
  have a := hm.hold
  have b := ht.hold
  unfold agreeR
  split
  · exact h0
  · split
    · exact h0
    · split
      · exact h0
      · exact ⟨ht.as_, ht.id_, by simp only [tvT]; omega, by simp only [tvT, thd]; omega⟩
theorem two_all (W : World) (t : Tm) (c s : Int) (A : Option Addr) (n k : Nat) : Blk ((W.alloc (.cells #[.int .u32 0, .int .u32 0, .int .i64 0, .int .i64 0, .bool false] 40)).alloc (.cells #[.int .i64 0, .int .i64 0, .slice none 0 0] 34)) W.heap.size 40 #[.int .u32 0, .int .u32 0, .int .i64 0, .int .i64 0, .bool false] ∧ Blk (((W.alloc (.cells #[.int .u32 0, .int .u32 0, .int .i64 0, .int .i64 0, .bool false] 40)).alloc (.cells #[.int .i64 0, .int .i64 0, .slice none 0 0] 34)).setRow W.heap.size (tmc t).toArray) (W.heap.size + 1) 34 #[.int .i64 0, .int .i64 0, .slice none 0 0] := ⟨two_t0 W, two_t1 W t⟩
/-- The memory of HelloAgrees' last test. -/
structure AgS (w W : World) (a b : Hl) (t : Tm) (c s : Int) (g3 g5 : Nat) (A3 A5 : Option Addr) (n3 n5 k3 k5 : Nat) (d : List Int) : Prop where
  mu : MuS w W a b
  t3 : Blk W g3 40 (tmc t).toArray
  t5 : Blk W g5 40 (tmc t).toArray
  f3 : Blk W (g3 + 1) 34 #[.int .i64 c, .int .i64 s, .slice A3 n3 k3]
  f5 : Blk W (g5 + 1) 34 #[.int .i64 c, .int .i64 s, .slice A5 n5 k5]
  d3 : Rd W W.heap.size A3 n3 d
  d5 : Rd W W.heap.size A5 n5 d
theorem AgS.below {w W W' : World} {a b : Hl} {t : Tm} {c s : Int} {g3 g5 : Nat} {A3 A5 : Option Addr} {n3 n5 k3 k5 : Nat} {d : List Int} (h : AgS w W a b t c s g3 g5 A3 A5 n3 n5 k3 k5 d) (hB : Below W.heap.size W W') : AgS w W' a b t c s g3 g5 A3 A5 n3 n5 k3 k5 d :=
  ⟨h.mu.below hB, h.t3.below hB h.t3.lt, h.t5.below hB h.t5.lt, h.f3.below hB h.f3.lt, h.f5.below hB h.f5.lt, h.d3.up hB, h.d5.up hB⟩

set_option maxHeartbeats 4000000 in
theorem helloAgrees_walk (w : World) (E : EnvF w) (a b : Hl) (n : Int) (ka : HlOk a) (kb : HlOk b) (hn : 0 ≤ n ∧ n ≤ 4294967295) : Calls Tryd.prog 5 #[.agg (hlc a).toArray, .agg (hlc b).toArray, .int .u32 n] w (AliveP w) := by
  have HS0 := Lib.hid (mu_new w E a b)
  have HKa := Lib.hid ka
  have HKb := Lib.hid kb
  have HTk := Lib.hid (agree_ok a b ka kb n)
  have HA1 : Hid (∀ W, EnvF W → Calls Tryd.prog 19 #[.agg (hlc a).toArray, .agg (hlc b).toArray, .int .u32 n] W fun e W' => Below W.heap.size W W' ∧ ∃ A z k, e = .returned (.tuple #[.agg (tmc (tvT (agreeR a b n))).toArray, .agg #[.int .i64 (tvC (agreeR a b n)), .int .i64 (tvS (agreeR a b n)), .slice A z k], .bool (tvB (agreeR a b n))]) ∧ Rd W' W'.heap.size A z (tvD (agreeR a b n))) := Lib.hid (fun W E => (agree_is W E a b ka kb n).mono fun e W' h => toldT_any h)
  have HA2 : Hid (∀ W, Calls Tryd.prog 20 #[.agg (hlc a).toArray, .agg (hlc b).toArray, .int .u32 n] W fun e W' => Below W.heap.size W W' ∧ ∃ A z k, e = .returned (.tuple #[.agg (tmc (tvT (agreeR a b n))).toArray, .agg #[.int .i64 (tvC (agreeR a b n)), .int .i64 (tvS (agreeR a b n)), .slice A z k], .bool (tvB (agreeR a b n))]) ∧ Rd W' W'.heap.size A z (tvD (agreeR a b n))) := Lib.hid (fun W => (ragree_is W a b ka kb n).mono fun e W' h => toldT_any h)
  generalize tvT (agreeR a b n) = t at *
  generalize tvC (agreeR a b n) = c at *
  generalize tvS (agreeR a b n) = s at *
  generalize tvB (agreeR a b n) = bb at *
  generalize tvD (agreeR a b n) = d at *
  clear E ka kb hn
  go_enter Tryd.func5, Tryd.ntmps5
  go_wp2_with (first
    | (refine h_fetch rfl _ rfl w.heap.size a 24 rfl HS0.out.ba ?_)
    | (refine h_fetch rfl _ rfl (w.heap.size + 1) b 24 rfl HS0.out.bb ?_))
  refine (HA1.out _ HS0.out.env).mono ?_
  generalize ((w.alloc (.cells (hlc a).toArray 24)).alloc (.cells (hlc b).toArray 24)) = W1 at *
  rintro e W3 ⟨hB, A3, n3, k3, rfl, hr3⟩
  have HS3 := Lib.hid (HS0.out.below hB)
  have HD3 := Lib.hid hr3
  clear hB hr3 HS0 HA1
  obtain ⟨h1, h2, h3⟩ := two_t W3 t c s A3 n3 k3
  have H30 := Lib.hid (two_t0 W3)
  have H31 := Lib.hid (two_t1 W3 t)
  have HT4 := Lib.hid h1
  have HF4 := Lib.hid h2
  have HS4 := Lib.hid (HS3.out.below h3)
  have HD4 := Lib.hid (HD3.out.up h3)
  clear h1 h2 h3 HS3 HD3
  go_wp2_with (first
    | (refine t_store rfl _ _ rfl W3.heap.size t rfl rfl 40 _ H30.out rfl ?_)
    | (refine f_store rfl _ _ rfl (W3.heap.size + 1) c s A3 n3 k3 rfl rfl 34 _ H31.out rfl ?_)
    | (refine h_fetch rfl _ rfl w.heap.size a 24 rfl HS4.out.ba ?_)
    | (refine h_fetch rfl _ rfl (w.heap.size + 1) b 24 rfl HS4.out.bb ?_))
  refine (HA2.out _).mono ?_
  generalize ((((W3.alloc (.cells #[.int .u32 0, .int .u32 0, .int .i64 0, .int .i64 0, .bool false] 40)).alloc (.cells #[.int .i64 0, .int .i64 0, .slice none 0 0] 34)).setRow W3.heap.size (tmc t).toArray).setRow (W3.heap.size + 1) #[.int .i64 c, .int .i64 s, .slice A3 n3 k3]) = W4 at *
  generalize W3.heap.size = g3 at *
  rintro e W5 ⟨hB, A5, n5, k5, rfl, hr5⟩
  have HS5 := Lib.hid (HS4.out.below hB)
  have HT5 := Lib.hid (HT4.out.below hB HT4.out.lt)
  have HF5 := Lib.hid (HF4.out.below hB HF4.out.lt)
  have HD5 := Lib.hid (HD4.out.up hB)
  have HDD5 := Lib.hid hr5
  clear hB hr5 HS4 HT4 HF4 HD4 H30 H31 HA2
  obtain ⟨h1, h2, h3⟩ := two_t W5 t c s A5 n5 k5
  have H50 := Lib.hid (two_t0 W5)
  have H51 := Lib.hid (two_t1 W5 t)
  have HG6 : Hid (AgS w ((((W5.alloc (.cells #[.int .u32 0, .int .u32 0, .int .i64 0, .int .i64 0, .bool false] 40)).alloc (.cells #[.int .i64 0, .int .i64 0, .slice none 0 0] 34)).setRow W5.heap.size (tmc t).toArray).setRow (W5.heap.size + 1) #[.int .i64 c, .int .i64 s, .slice A5 n5 k5]) a b t c s g3 W5.heap.size A3 A5 n3 n5 k3 k5 d) := Lib.hid ⟨HS5.out.below h3, HT5.out.below h3 HT5.out.lt, h1, HF5.out.below h3 HF5.out.lt, h2, HD5.out.up h3, HDD5.out.up h3⟩
  clear h1 h2 h3 HS5 HT5 HF5 HD5 HDD5
  go_wp2_with (first
    | (refine t_store rfl _ _ rfl W5.heap.size t rfl rfl 40 _ H50.out rfl ?_)
    | (refine f_store rfl _ _ rfl (W5.heap.size + 1) c s A5 n5 k5 rfl rfl 34 _ H51.out rfl ?_))
  generalize ((((W5.alloc (.cells #[.int .u32 0, .int .u32 0, .int .i64 0, .int .i64 0, .bool false] 40)).alloc (.cells #[.int .i64 0, .int .i64 0, .slice none 0 0] 34)).setRow W5.heap.size (tmc t).toArray).setRow (W5.heap.size + 1) #[.int .i64 c, .int .i64 s, .slice A5 n5 k5]) = W6 at *
  clear H50 H51
  generalize W5.heap.size = g5 at *
  have heq := t_eql t t HTk.out HTk.out true (by simp)
  have hbb : (bb == bb) = true := by simp
  have hsts : (decide (b.id_ < a.id_) == decide (b.id_ < a.id_)) = true := by simp
  refine wp_region_held_drew (S := fun W => AgS w W a b t c s g3 g5 A3 A5 n3 n5 k3 k5 d) (by kernel_rfl) (HG6.out.below (below_drew8 W6)) (fun hS => ?_)
  generalize W6.drew = W7 at *
  clear HG6
  refine wpAnyH_take (i := 0) (oi := ⟨some 29, _, _, _, _, _⟩) rfl (by kernel_rfl) (by kernel_rfl) (by kernel_rfl) (fun _ _ _ h => h) (yieldsIf_load_mid (by rfl) 40 _ rfl _ _ rfl (tmc t) _ (fun wq hq => hq.t3.range) Tryd.underlying40 rfl (tsz)) hS ?_
  try simp only [Act.put, List.setIfInBounds_toArray, List.set_cons_zero, List.set_cons_succ]
  refine wpAnyH_take (i := 1) (oi := ⟨some 30, _, _, _, _, _⟩) rfl (by kernel_rfl) (by kernel_rfl) (by kernel_rfl) (fun _ _ _ h => h) (yieldsIf_load_mid (by rfl) 40 _ rfl _ _ rfl (tmc t) _ (fun wq hq => hq.t5.range) Tryd.underlying40 rfl (tsz)) hS ?_
  try simp only [Act.put, List.setIfInBounds_toArray, List.set_cons_zero, List.set_cons_succ]
  refine wpAnyH_take (i := 2) (oi := ⟨some 31, _, _, _, _, _⟩) (v := ?_) rfl (by kernel_rfl) (by kernel_rfl) (by kernel_rfl) (fun _ _ _ h => h) (Or.inl ⟨by rfl, ?_⟩) hS ?_
  rotate_left
  · intro wq hq
    first | (go_simp; done) | (go_simp; rfl)
  try simp only [Act.put, List.setIfInBounds_toArray, List.set_cons_zero, List.set_cons_succ]
  refine wpAnyH_take (i := 3) (oi := ⟨some 32, _, _, _, _, _⟩) (v := ?_) rfl (by kernel_rfl) (by kernel_rfl) (by kernel_rfl) (fun _ _ _ h => h) (Or.inl ⟨by rfl, ?_⟩) hS ?_
  rotate_left
  · intro wq hq
    first | (go_simp; done) | (go_simp; rfl)
  try simp only [Act.put, List.setIfInBounds_toArray, List.set_cons_zero, List.set_cons_succ]
  refine wpAnyH_take (i := 4) (oi := ⟨some 33, _, _, _, _, _⟩) rfl (by kernel_rfl) (by kernel_rfl) (by kernel_rfl) (fun _ _ _ h => h) (yieldsIf_load_mid (by rfl) 34 _ rfl _ _ rfl ([.int .i64 c, .int .i64 s, .slice A3 n3 k3]) _ (fun wq hq => (Blk.range (cs := [.int .i64 c, .int .i64 s, .slice A3 n3 k3]) hq.f3)) Tryd.underlying34 rfl (fsz)) hS ?_
  try simp only [Act.put, List.setIfInBounds_toArray, List.set_cons_zero, List.set_cons_succ]
  refine wpAnyH_take (i := 5) (oi := ⟨some 34, _, _, _, _, _⟩) rfl (by kernel_rfl) (by kernel_rfl) (by kernel_rfl) (fun _ _ _ h => h) (yieldsIf_load_mid (by rfl) 34 _ rfl _ _ rfl ([.int .i64 c, .int .i64 s, .slice A5 n5 k5]) _ (fun wq hq => (Blk.range (cs := [.int .i64 c, .int .i64 s, .slice A5 n5 k5]) hq.f5)) Tryd.underlying34 rfl (fsz)) hS ?_
  try simp only [Act.put, List.setIfInBounds_toArray, List.set_cons_zero, List.set_cons_succ]
  refine wpAnyH_ready (rs := [6]) (by kernel_rfl) (by simp) ?_
  refine AllReadyH.cons (o := ⟨some 35, _, _, _, _, _⟩) rfl (fun K hK => ?_) AllReadyH.nil
  rw [if_pos (by rfl)]
  go_wp2_with fail
  refine (alike_is W7 c s c s A3 A5 n3 n5 k3 k5 d d hS.d3 hS.d5 true (by simp)).mono ?_
  rintro e W8 ⟨rfl, hB⟩
  have hSn := hS.below hB
  clear hB hS
  refine hK.out _ _ (hSn) (fun hS => ?_)
  clear hK K
  try simp only [Act.put, List.setIfInBounds_toArray, List.set_cons_zero, List.set_cons_succ]
  clear hSn
  refine wpAnyH_take (i := 7) (oi := ⟨some 36, _, _, _, _, _⟩) (v := ?_) rfl (by kernel_rfl) (by kernel_rfl) (by kernel_rfl) (fun _ _ _ h => h) (Or.inl ⟨by rfl, ?_⟩) hS ?_
  rotate_left
  · intro wq hq
    first | (go_simp; done) | (go_simp; rfl)
  try simp only [Act.put, List.setIfInBounds_toArray, List.set_cons_zero, List.set_cons_succ]
  refine wpAnyH_take (i := 8) (oi := ⟨some 37, _, _, _, _, _⟩) (v := ?_) rfl (by kernel_rfl) (by kernel_rfl) (by kernel_rfl) (fun _ _ _ h => h) (Or.inl ⟨by rfl, ?_⟩) hS ?_
  rotate_left
  · intro wq hq
    first | (go_simp; done) | (go_simp; rfl)
  try simp only [Act.put, List.setIfInBounds_toArray, List.set_cons_zero, List.set_cons_succ]
  refine wpAnyH_take (i := 9) (oi := ⟨some 38, _, _, _, _, _⟩) (v := ?_) rfl (by kernel_rfl) (by kernel_rfl) (by kernel_rfl) (fun _ _ _ h => h) (Or.inl ⟨by rfl, ?_⟩) hS ?_
  rotate_left
  · intro wq hq
    first | (go_simp; done) | (go_simp; rfl)
  try simp only [Act.put, List.setIfInBounds_toArray, List.set_cons_zero, List.set_cons_succ]
  refine wpAnyH_take (i := 10) (oi := ⟨some 39, _, _, _, _, _⟩) (v := ?_) rfl (by kernel_rfl) (by kernel_rfl) (by kernel_rfl) (fun _ _ _ h => h) (Or.inl ⟨by rfl, ?_⟩) hS ?_
  rotate_left
  · intro wq hq
    first | (go_simp; done) | (go_simp; rfl)
  try simp only [Act.put, List.setIfInBounds_toArray, List.set_cons_zero, List.set_cons_succ]
  refine wpAnyH_take (i := 11) (oi := ⟨some 40, _, _, _, _, _⟩) (v := ?_) rfl (by kernel_rfl) (by kernel_rfl) (by kernel_rfl) (fun _ _ _ h => h) (Or.inl ⟨by rfl, ?_⟩) hS ?_
  rotate_left
  · intro wq hq
    first | (go_simp; done) | (go_simp; rfl)
  try simp only [Act.put, List.setIfInBounds_toArray, List.set_cons_zero, List.set_cons_succ]
  refine wpAnyH_take (i := 12) (oi := ⟨some 41, _, _, _, _, _⟩) (v := ?_) rfl (by kernel_rfl) (by kernel_rfl) (by kernel_rfl) (fun _ _ _ h => h) (Or.inl ⟨by rfl, ?_⟩) hS ?_
  rotate_left
  · intro wq hq
    first | (go_simp; done) | (go_simp; rfl)
  try simp only [Act.put, List.setIfInBounds_toArray, List.set_cons_zero, List.set_cons_succ]
  refine wpAnyH_take (i := 13) (oi := ⟨some 42, _, _, _, _, _⟩) (v := ?_) rfl (by kernel_rfl) (by kernel_rfl) (by kernel_rfl) (fun _ _ _ h => h) (Or.inl ⟨by rfl, ?_⟩) hS ?_
  rotate_left
  · intro wq hq
    first | (go_simp; done) | (go_simp; rfl)
  try simp only [Act.put, List.setIfInBounds_toArray, List.set_cons_zero, List.set_cons_succ]
  refine wpAnyH_take (i := 14) (oi := ⟨some 43, _, _, _, _, _⟩) (v := ?_) rfl (by kernel_rfl) (by kernel_rfl) (by kernel_rfl) (fun _ _ _ h => h) (Or.inl ⟨by rfl, ?_⟩) hS ?_
  rotate_left
  · intro wq hq
    first | (go_simp; done) | (go_simp; rfl)
  try simp only [Act.put, List.setIfInBounds_toArray, List.set_cons_zero, List.set_cons_succ]
  refine wpAnyH_take (i := 15) (oi := ⟨some 44, _, _, _, _, _⟩) (v := ?_) rfl (by kernel_rfl) (by kernel_rfl) (by kernel_rfl) (fun _ _ _ h => h) (Or.inl ⟨by rfl, ?_⟩) hS ?_
  rotate_left
  · intro wq hq
    have c0 := hq.mu.c.2.2.1
    first | (go_simp; done) | (go_simp; rfl)
  try simp only [Act.put, List.setIfInBounds_toArray, List.set_cons_zero, List.set_cons_succ]
  refine wpAnyH_take (i := 16) (oi := ⟨some 45, _, _, _, _, _⟩) (v := ?_) rfl (by kernel_rfl) (by kernel_rfl) (by kernel_rfl) (fun _ _ _ h => h) (Or.inl ⟨by rfl, ?_⟩) hS ?_
  rotate_left
  · intro wq hq
    first | (go_simp; done) | (go_simp; rfl)
  try simp only [Act.put, List.setIfInBounds_toArray, List.set_cons_zero, List.set_cons_succ]
  refine wpAnyH_take (i := 17) (oi := ⟨some 46, _, _, _, _, _⟩) (v := ?_) rfl (by kernel_rfl) (by kernel_rfl) (by kernel_rfl) (fun _ _ _ h => h) (Or.inl ⟨by rfl, ?_⟩) hS ?_
  rotate_left
  · intro wq hq
    have c0 := hq.mu.c.2.2.2.2.2.2.1
    first | (go_simp; done) | (go_simp; rfl)
  try simp only [Act.put, List.setIfInBounds_toArray, List.set_cons_zero, List.set_cons_succ]
  refine wpAnyH_take (i := 19) (oi := ⟨some 48, _, _, _, _, _⟩) (v := ?_) rfl (by kernel_rfl) (by kernel_rfl) (by kernel_rfl) (fun _ _ _ h => h) (Or.inl ⟨by rfl, ?_⟩) hS ?_
  rotate_left
  · intro wq hq
    first | (go_simp; done) | (go_simp; rfl)
  try simp only [Act.put, List.setIfInBounds_toArray, List.set_cons_zero, List.set_cons_succ]
  refine wpAnyH_take (i := 20) (oi := ⟨some 49, _, _, _, _, _⟩) (v := ?_) rfl (by kernel_rfl) (by kernel_rfl) (by kernel_rfl) (fun _ _ _ h => h) (Or.inl ⟨by rfl, ?_⟩) hS ?_
  rotate_left
  · intro wq hq
    have c0 := hq.mu.c.2.2.1
    first | (go_simp; done) | (go_simp; rfl)
  try simp only [Act.put, List.setIfInBounds_toArray, List.set_cons_zero, List.set_cons_succ]
  refine wpAnyH_take (i := 21) (oi := ⟨some 50, _, _, _, _, _⟩) (v := ?_) rfl (by kernel_rfl) (by kernel_rfl) (by kernel_rfl) (fun _ _ _ h => h) (Or.inl ⟨by rfl, ?_⟩) hS ?_
  rotate_left
  · intro wq hq
    first | (go_simp; done) | (go_simp; rfl)
  try simp only [Act.put, List.setIfInBounds_toArray, List.set_cons_zero, List.set_cons_succ]
  refine wpAnyH_take (i := 22) (oi := ⟨some 51, _, _, _, _, _⟩) (v := ?_) rfl (by kernel_rfl) (by kernel_rfl) (by kernel_rfl) (fun _ _ _ h => h) (Or.inl ⟨by rfl, ?_⟩) hS ?_
  rotate_left
  · intro wq hq
    have c0 := hq.mu.c.2.2.2.2.2.2.1
    first | (go_simp; done) | (go_simp; rfl)
  try simp only [Act.put, List.setIfInBounds_toArray, List.set_cons_zero, List.set_cons_succ]
  refine wpAnyH_ready (rs := [18]) (by kernel_rfl) (by simp) ?_
  refine AllReadyH.cons (o := ⟨some 47, _, _, _, _, _⟩) rfl (fun K hK => ?_) AllReadyH.nil
  rw [if_pos (by rfl)]
  go_wp2_with fail
  refine (stays_is W8 a.id_ b.id_).mono ?_
  rintro e W9 ⟨rfl, rfl⟩
  refine hK.out _ _ (hS) (fun hS => ?_)
  clear hK K
  try simp only [Act.put, List.setIfInBounds_toArray, List.set_cons_zero, List.set_cons_succ]
  refine wpAnyH_ready (rs := [23]) (by kernel_rfl) (by simp) ?_
  refine AllReadyH.cons (o := ⟨some 52, _, _, _, _, _⟩) rfl (fun K hK => ?_) AllReadyH.nil
  rw [if_pos (by rfl)]
  go_wp2_with fail
  refine (rstays_is W8 a.id_ b.id_).mono ?_
  rintro e W9 ⟨rfl, rfl⟩
  refine hK.out _ _ (hS) (fun hS => ?_)
  clear hK K
  try simp only [Act.put, List.setIfInBounds_toArray, List.set_cons_zero, List.set_cons_succ]
  refine wpAnyH_take (i := 24) (oi := ⟨some 53, _, _, _, _, _⟩) (v := ?_) rfl (by kernel_rfl) (by kernel_rfl) (by kernel_rfl) (fun _ _ _ h => h) (Or.inl ⟨by rfl, ?_⟩) hS ?_
  rotate_left
  · intro wq hq
    first | (go_simp; done) | (go_simp; rfl)
  try simp only [Act.put, List.setIfInBounds_toArray, List.set_cons_zero, List.set_cons_succ]
  refine wpAnyH_take (i := 25) (oi := ⟨some 54, _, _, _, _, _⟩) (v := ?_) rfl (by kernel_rfl) (by kernel_rfl) (by kernel_rfl) (fun _ _ _ h => h) (Or.inl ⟨by rfl, ?_⟩) hS ?_
  rotate_left
  · intro wq hq
    first | (go_simp; done) | (go_simp; rfl)
  try simp only [Act.put, List.setIfInBounds_toArray, List.set_cons_zero, List.set_cons_succ]
  refine wpAnyH_take (i := 26) (oi := ⟨some 55, _, _, _, _, _⟩) (v := ?_) rfl (by kernel_rfl) (by kernel_rfl) (by kernel_rfl) (fun _ _ _ h => h) (Or.inl ⟨by rfl, ?_⟩) hS ?_
  rotate_left
  · intro wq hq
    first | (go_simp; done) | (go_simp; rfl)
  try simp only [Act.put, List.setIfInBounds_toArray, List.set_cons_zero, List.set_cons_succ]
  refine wpAnyH_ready (rs := [27]) (by kernel_rfl) (by simp) ?_
  refine AllReadyH.cons (o := ⟨some 56, _, _, _, _, _⟩) rfl (fun K hK => ?_) AllReadyH.nil
  rw [if_pos (by rfl)]
  go_wp2_with fail
  have HLow := Lib.hid hS.mu.low
  refine (alive_is W8 hS.mu.env).mono ?_
  rintro e W9 ⟨rfl, hB⟩
  have HBf := Lib.hid (HLow.out.trans (hB.mono HLow.out.size))
  have hSn := hS.below hB
  clear hB hS
  refine hK.out _ _ (hSn) (fun hS => ?_)
  clear hK K
  try simp only [Act.put, List.setIfInBounds_toArray, List.set_cons_zero, List.set_cons_succ]
  clear hSn
  refine wpAnyH_take (i := 28) (oi := ⟨some 57, _, _, _, _, _⟩) (v := ?_) rfl (by kernel_rfl) (by kernel_rfl) (by kernel_rfl) (fun _ _ _ h => h) (Or.inl ⟨by rfl, ?_⟩) hS ?_
  rotate_left
  · intro wq hq
    first | (go_simp; done) | (go_simp; rfl)
  try simp only [Act.put, List.setIfInBounds_toArray, List.set_cons_zero, List.set_cons_succ]
  refine wpAnyH_take (i := 29) (oi := ⟨some 6, _, _, _, _, _⟩) (v := ?_) rfl (by kernel_rfl) (by kernel_rfl) (by kernel_rfl) (fun _ _ _ h => h) (Or.inl ⟨by rfl, ?_⟩) hS ?_
  rotate_left
  · intro wq hq
    first | (go_simp; done) | (go_simp; rfl)
  try simp only [Act.put, List.setIfInBounds_toArray, List.set_cons_zero, List.set_cons_succ]
  refine wpAnyH_done (by kernel_rfl) ?_ _
  clear hS
  go_wp2
  go_ret
  exact ⟨rfl, HBf.out⟩
end Go.Proofs.YtgfjjkckamppoaaDoor
