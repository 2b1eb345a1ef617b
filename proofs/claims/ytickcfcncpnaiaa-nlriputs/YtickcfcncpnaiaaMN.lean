/-
  Put together: NlOM NlOC.
-/
import Derived.Test.YtickcfcncpnaiaaMK
import Derived.Test.YtickcfcncpnaiaaMT
import Derived.Lib.Bytealg
import Derived.Test.YtickcfcncpnaiaaShelf
import Derived.Deep.RegionHeld3
namespace Go.Proofs.Ytickcfcncpnaiaa
open Go.RowKit
set_option maxRecDepth 100000
set_option linter.unusedSimpArgs false
set_option linter.unusedVariables false

/-! The order of bytes. -/
theorem cb_range : ∀ a b, Lib.compareBytes a b = -1 ∨ Lib.compareBytes a b = 0 ∨ Lib.compareBytes a b = 1
  | [], [] => .inr (.inl rfl)
  | [], _ :: _ => .inl rfl
  | _ :: _, [] => .inr (.inr rfl)
  | a :: xs, b :: ys => by
    unfold Lib.compareBytes
    split
    · exact .inl rfl
    · split
      · exact .inr (.inr rfl)
      · exact cb_range xs ys
theorem uint8_lt (a b : UInt8) : a < b ↔ a.toNat < b.toNat := UInt8.lt_iff_toNat_lt
theorem cb_anti : ∀ a b, Lib.compareBytes a b = - Lib.compareBytes b a
  | [], [] => rfl
  | [], _ :: _ => rfl
  | _ :: _, [] => rfl
  | a :: xs, b :: ys => by
    unfold Lib.compareBytes
    by_cases h1 : a < b
    · have h2 : ¬ b < a := by rw [uint8_lt] at *; omega
      rw [if_pos h1, if_neg h2, if_pos h1]
    · by_cases h2 : b < a
      · rw [if_neg h1, if_pos h2, if_pos h2]; rfl
      · rw [if_neg h1, if_neg h2, if_neg h2, if_neg h1]
        exact cb_anti xs ys
theorem u8_eq {a b : UInt8} (h1 : ¬ a < b) (h2 : ¬ b < a) : a = b := by
  rw [uint8_lt] at h1 h2
  exact UInt8.toNat_inj.1 (by omega)
theorem cb_zero : ∀ a b, Lib.compareBytes a b = 0 ↔ a = b
  | [], [] => ⟨fun _ => rfl, fun _ => rfl⟩
  | [], _ :: _ => ⟨fun h => (by cases h), fun h => (by cases h)⟩
  | _ :: _, [] => ⟨fun h => (by cases h), fun h => (by cases h)⟩
  | a :: xs, b :: ys => by
    unfold Lib.compareBytes
    by_cases h1 : a < b
    · rw [if_pos h1]
      exact ⟨fun h => (by cases h), fun h => (by injection h with h _; subst h; rw [uint8_lt] at h1; omega)⟩
    · by_cases h2 : b < a
      · rw [if_neg h1, if_pos h2]
        exact ⟨fun h => (by cases h), fun h => (by injection h with h _; subst h; rw [uint8_lt] at h2; omega)⟩
      · rw [if_neg h1, if_neg h2, cb_zero xs ys, u8_eq h1 h2]
        simp
theorem cb_trans : ∀ a b c, Lib.compareBytes a b ≤ 0 → Lib.compareBytes b c ≤ 0 → Lib.compareBytes a c ≤ 0
  | [], _, [], _, _ => by decide
  | [], _, _ :: _, _, _ => by show (-1 : Int) ≤ 0; decide
  | _ :: _, [], _, h, _ => by revert h; show (1 : Int) ≤ 0 → _; intro h; omega
  | _ :: _, _ :: _, [], _, h => by revert h; show (1 : Int) ≤ 0 → _; intro h; omega
  | a :: xs, b :: ys, c :: zs, h1, h2 => by
    have ih := cb_trans xs ys zs
    unfold Lib.compareBytes at h1 h2 ⊢
    by_cases x1 : a < b <;> by_cases x2 : b < a <;> by_cases y1 : b < c <;> by_cases y2 : c < b <;> by_cases z1 : a < c <;> by_cases z2 : c < a <;>
      simp only [x1, x2, y1, y2, z1, z2, if_true, if_false] at h1 h2 ⊢ <;> first | omega | (rw [uint8_lt] at *; omega) | exact ih h1 h2

/-! Texts of keys. -/
theorem hexN_inj : ∀ a b : Fin 16, hexN a.val = hexN b.val → a = b := by decide +kernel
theorem hexS_inj : ∀ a b : List Int, Oct a → Oct b → hexS a = hexS b → a = b
  | [], [], _, _, _ => rfl
  | [], _ :: _, _, _, h => by have := congrArg List.length h; rw [hexS_len, hexS_len] at this; simp at this
  | _ :: _, [], _, _, h => by have := congrArg List.length h; rw [hexS_len, hexS_len] at this; simp at this
  | x :: a, y :: b, hx, hy, h => by
    have e : ∀ z l, hexS (z :: l) = hexN (z / 16) :: hexN (z % 16) :: hexS l := fun z l => by simp [hexS]
    rw [e, e] at h
    injection h with h1 h
    injection h with h2 h
    have bx := hx x List.mem_cons_self
    have by_ := hy y List.mem_cons_self
    have i1 := hexN_inj ⟨(x / 16).toNat, by omega⟩ ⟨(y / 16).toNat, by omega⟩ (by
      have q1 : (((x / 16).toNat : Nat) : Int) = x / 16 := by omega
      have q2 : (((y / 16).toNat : Nat) : Int) = y / 16 := by omega
      show hexN (((x / 16).toNat : Nat) : Int) = hexN (((y / 16).toNat : Nat) : Int)
      rw [q1, q2, h1])
    have i2 := hexN_inj ⟨(x % 16).toNat, by omega⟩ ⟨(y % 16).toNat, by omega⟩ (by
      have q1 : (((x % 16).toNat : Nat) : Int) = x % 16 := by omega
      have q2 : (((y % 16).toNat : Nat) : Int) = y % 16 := by omega
      show hexN (((x % 16).toNat : Nat) : Int) = hexN (((y % 16).toNat : Nat) : Int)
      rw [q1, q2, h2])
    injection i1 with i1
    injection i2 with i2
    have : x = y := by omega
    rw [this, hexS_inj a b (fun z hz => hx z (List.mem_cons_of_mem _ hz)) (fun z hz => hy z (List.mem_cons_of_mem _ hz)) h]
theorem keyR_oct {r : Rt} (h : RtOk r) : Oct (keyR r) := by
  have o1 : ∀ x : Int, Oct [x % 256] := fun x y hy => by rw [List.mem_singleton] at hy; subst hy; omega
  have o2 : ∀ b : Bool, Oct [if b then (1 : Int) else 0] := fun b y hy => by rw [List.mem_singleton] at hy; subst hy; split <;> omega
  have app : ∀ {a b : List Int}, Oct a → Oct b → Oct (a ++ b) := fun ha hb x hx => (List.mem_append.1 hx).elim (ha x) (hb x)
  have q1 : Oct [(1 : Int)] := fun y hy => by rw [List.mem_singleton] at hy; subst hy; omega
  have q0 : Oct [(0 : Int)] := fun y hy => by rw [List.mem_singleton] at hy; subst hy; omega
  unfold keyR
  refine app (o1 _) (app h.ord ?_)
  repeat' split
  all_goals first
    | exact app h.oes (be_oct _ _)
    | exact app (be_oct _ _) (app h.omc (app (o1 _) h.opl))
    | exact app (be_oct _ _) (app (o1 _) h.opl)
    | exact app h.oes (app (o1 _) h.opl)
    | exact app (be_oct _ _) (app (o1 _) (app q1 h.opl))
    | exact app (be_oct _ _) (app (o1 _) (app q0 h.opl))
    | exact fun x hx => by cases hx
def ktext (r : Rt) : ByteArray := strOfNums (hexS (keyR r))
def cmpK (a b : Rt) : Int := Lib.compareBytes (ktext a).data.toList (ktext b).data.toList
theorem ktext_inj {a b : Rt} (ha : RtOk a) (hb : RtOk b) : ktext a = ktext b ↔ keyR a = keyR b :=
  ⟨fun h => hexS_inj _ _ (keyR_oct ha) (keyR_oct hb) (strOfNums_inj (hexS_oct (keyR_oct ha)) (hexS_oct (keyR_oct hb)) h), fun h => by unfold ktext; rw [h]⟩
theorem cmpK_zero {a b : Rt} (ha : RtOk a) (hb : RtOk b) : cmpK a b = 0 ↔ keyR a = keyR b := by
  unfold cmpK
  rw [cb_zero, ← ktext_inj ha hb]
  constructor
  · intro h
    have h2 : (ktext a).data = (ktext b).data := Array.toList_inj.1 h
    cases hx : ktext a; cases hy : ktext b
    rw [hx, hy] at h2
    simp only at h2
    rw [h2]
  · intro h; rw [h]

/-! The fields that tell a route apart. -/
def namedR (r : Rt) : Rt := { r with lb := 0, l2 := 0, gv := false, gl := z16, es := if r.k = 2 ∨ r.k = 5 then List.replicate 10 0 else r.es }
theorem namedR_ok {r : Rt} (h : RtOk r) : RtOk (namedR r) where
  k := h.k
  rd := h.rd
  ord := h.ord
  es := by unfold namedR; simp only; split; simp; exact h.es
  oes := by unfold namedR; simp only; split; exact oct_zeros 10; exact h.oes
  tg := h.tg
  mc := h.mc
  omc := h.omc
  pl := h.pl
  opl := h.opl
  pn := h.pn
  gl := rfl
  ogl := oct_zeros 16
  lb := u32_0
  l2 := u32_0
theorem be4_inj {a b : Int} (ha : U32 a) (hb : U32 b) (h : be 4 a = be 4 b) : a = b := by rw [← be4_num a ha, ← be4_num b hb, h]
theorem pfx {a b c d : List Int} (h : a ++ b = c ++ d) (hl : a.length = c.length) : a = c ∧ b = d := List.append_inj h hl
/-- The family and the length of a whole address hang together. -/
theorem whole_v6 {v w : Bool} {l m : List Int} {n : Int} (h1 : wholeB v l n = true) (h2 : wholeB w m n = true) : v = w := by
  unfold wholeB at h1 h2
  simp only [Bool.and_eq_true, decide_eq_true_eq] at h1 h2
  have := h1.2.symm.trans h2.2
  cases v <;> cases w <;> simp [bitsOf] at this ⊢
theorem whole_pn {v : Bool} {l : List Int} {n : Int} (h : wholeB v l n = true) : n % 256 = n := by
  unfold wholeB at h
  simp only [Bool.and_eq_true, decide_eq_true_eq] at h
  rw [h.2]
  cases v <;> rfl
theorem two_facts {r : Rt} (hr : rightR r = true) (hk : r.k = 2) : r.pn % 256 = r.pn ∧ (r.v6 = decide (r.pn = 128)) := by
  have h := (right_own hr).2
  unfold addrsB at h
  rw [if_pos hk, Bool.or_eq_true] at h
  rcases h with h | h
  · unfold zeroPf at h
    rw [decide_eq_true_eq] at h
    rw [h.1, h.2.2]
    exact ⟨rfl, rfl⟩
  · refine ⟨whole_pn h, ?_⟩
    unfold wholeB at h
    simp only [Bool.and_eq_true, decide_eq_true_eq] at h
    rw [h.2]
    cases r.v6 <;> rfl
theorem key_named {a b : Rt} (oa : RtOk a) (ob : RtOk b) (ha : rightR a = true) (hb : rightR b = true) : keyR a = keyR b ↔ namedR a = namedR b := by
  have fa := rightF oa ha
  have fb := rightF ob hb
  obtain ⟨wa, ra⟩ := right_own ha
  obtain ⟨wb, rb⟩ := right_own hb
  have ka := fa.k
  have kb := fb.k
  constructor
  · intro h
    unfold keyR at h
    obtain ⟨h1, h⟩ := pfx h rfl
    obtain ⟨h2, h⟩ := pfx h (by rw [oa.rd, ob.rd])
    injection h1 with h1 _
    have hk : a.k = b.k := by omega
    unfold namedR
    rw [← hk] at h
    have : a.k = 1 ∨ a.k = 2 ∨ a.k = 3 ∨ a.k = 4 ∨ a.k = 5 := by omega
    rcases this with e | e | e | e | e
    · rw [if_pos e, if_pos e] at h
      obtain ⟨h3, h4⟩ := pfx h (by rw [oa.es, ob.es])
      have h4 := be4_inj oa.tg ob.tg h4
      unfold ownR at wa wb
      rw [if_pos e] at wa
      rw [if_pos (by omega)] at wb
      rw [wa, wb]
      simp only [rtZ]
      rw [hk, h2, h3, h4]
    · rw [if_neg (by omega), if_pos e, if_neg (by omega), if_pos e] at h
      obtain ⟨h3, h⟩ := pfx h (by rw [be_len, be_len])
      obtain ⟨h4, h⟩ := pfx h (by rw [oa.mc, ob.mc])
      obtain ⟨h5, h6⟩ := pfx h rfl
      injection h5 with h5 _
      have t1 := two_facts ha e
      have t2 := two_facts hb (by omega)
      have h5 : a.pn = b.pn := by rw [← t1.1, ← t2.1, h5]
      have h7 : a.v6 = b.v6 := by rw [t1.2, t2.2, h5]
      have h3 := be4_inj oa.tg ob.tg h3
      unfold ownR at wa wb
      rw [if_neg (by omega), if_pos e] at wa
      rw [if_neg (by omega), if_pos (by omega)] at wb
      rw [wa, wb]
      simp only [rtZ]
      have e' : b.k = 2 := by omega
      simp only [hk, h2, h3, h4, h5, h6, h7, e', true_or, if_true]
    · rw [if_neg (by omega), if_neg (by omega), if_pos e, if_neg (by omega), if_neg (by omega), if_pos e] at h
      obtain ⟨h3, h⟩ := pfx h (by rw [be_len, be_len])
      obtain ⟨h5, h6⟩ := pfx h rfl
      injection h5 with h5 _
      unfold addrsB at ra rb
      rw [if_neg (by omega), if_pos (by omega)] at ra rb
      have h5 : a.pn = b.pn := by rw [← whole_pn ra, ← whole_pn rb, h5]
      rw [← h5] at rb
      have h7 := whole_v6 ra rb
      have h3 := be4_inj oa.tg ob.tg h3
      unfold ownR at wa wb
      rw [if_neg (by omega), if_neg (by omega), if_pos e] at wa
      rw [if_neg (by omega), if_neg (by omega), if_pos (by omega)] at wb
      rw [wa, wb]
      simp only [rtZ]
      rw [hk, h2, h3, h5, h6, h7]
    · rw [if_neg (by omega), if_neg (by omega), if_neg (by omega), if_pos e, if_neg (by omega), if_neg (by omega), if_neg (by omega), if_pos e] at h
      obtain ⟨h3, h⟩ := pfx h (by rw [oa.es, ob.es])
      obtain ⟨h5, h6⟩ := pfx h rfl
      injection h5 with h5 _
      unfold addrsB at ra rb
      rw [if_neg (by omega), if_pos (by omega)] at ra rb
      have h5 : a.pn = b.pn := by rw [← whole_pn ra, ← whole_pn rb, h5]
      rw [← h5] at rb
      have h7 := whole_v6 ra rb
      unfold ownR at wa wb
      rw [if_neg (by omega), if_neg (by omega), if_neg (by omega), if_pos e] at wa
      rw [if_neg (by omega), if_neg (by omega), if_neg (by omega), if_pos (by omega)] at wb
      rw [wa, wb]
      simp only [rtZ]
      rw [hk, h2, h3, h5, h6, h7]
    · simp only [e] at h
      rw [if_neg (show ¬ (5 : Int) = 1 by decide), if_neg (show ¬ (5 : Int) = 2 by decide), if_neg (show ¬ (5 : Int) = 3 by decide), if_neg (show ¬ (5 : Int) = 4 by decide), if_neg (show ¬ (5 : Int) = 1 by decide), if_neg (show ¬ (5 : Int) = 2 by decide), if_neg (show ¬ (5 : Int) = 3 by decide), if_neg (show ¬ (5 : Int) = 4 by decide)] at h
      simp only [if_true] at h
      obtain ⟨h3, h⟩ := pfx h (by rw [be_len, be_len])
      obtain ⟨h5, h⟩ := pfx h rfl
      obtain ⟨h7, h6⟩ := pfx h rfl
      injection h5 with h5 _
      injection h7 with h7 _
      have h7 : a.v6 = b.v6 := by
        cases hv : a.v6 <;> cases hw : b.v6 <;> rw [hv, hw] at h7 <;> simp at h7 ⊢
      have p1 : a.pn % 256 = a.pn := by
        unfold addrsB at ra
        rw [if_neg (by omega), if_neg (by omega), if_pos e, Bool.and_eq_true] at ra
        have := rightPf_facts ra.1
        have := bits_le a.v6
        omega
      have p2 : b.pn % 256 = b.pn := by
        unfold addrsB at rb
        rw [if_neg (by omega), if_neg (by omega), if_pos (by omega), Bool.and_eq_true] at rb
        have := rightPf_facts rb.1
        have := bits_le b.v6
        omega
      have h5 : a.pn = b.pn := by rw [← p1, ← p2, h5]
      have h3 := be4_inj oa.tg ob.tg h3
      unfold ownR at wa wb
      rw [if_neg (by omega), if_neg (by omega), if_neg (by omega), if_neg (by omega), if_pos e] at wa
      rw [if_neg (by omega), if_neg (by omega), if_neg (by omega), if_neg (by omega), if_pos (by omega)] at wb
      rw [wa, wb]
      simp only [rtZ]
      have e' : b.k = 5 := by omega
      simp only [hk, h2, h3, h5, h6, h7, e', or_true, if_true]
  · intro h
    unfold namedR at h
    injection h with h1 h2 h3 h4 h5 h6 h7 h8 _ _ _ _
    unfold keyR
    rw [h1, h2, h4, h5, h6, h7, h8]
    by_cases e : b.k = 2 ∨ b.k = 5
    · rcases e with e | e
      · rw [if_neg (by omega), if_pos e, if_neg (by omega), if_pos e]
      · simp only [e]; simp
    · rw [h1, if_neg e, if_neg e] at h3
      rw [h3]
end Go.Proofs.Ytickcfcncpnaiaa
namespace Go.Proofs.Ytickcfcncpnaiaa
open Go.RowKit
set_option maxRecDepth 100000
set_option linter.unusedSimpArgs false
set_option linter.unusedVariables false

/-- Two routes in boxes, and nothing below changed. -/
structure TwoR (w W : World) (a b : Rt) : Prop where
  l : RtAt W w.heap.size a
  r : RtAt W (w.heap.size + 1) b
  low : Below w.heap.size w W
theorem TwoR.new (w : World) {a b : Rt} (ha : RtOk a) (hb : RtOk b) : TwoR w ((w.alloc (.cells (rtc a).toArray 36)).alloc (.cells (rtc b).toArray 36)) a b := by
  have h2 := RtAt.new (w.alloc (.cells (rtc a).toArray 36)) b hb 36
  rw [show (w.alloc (.cells (rtc a).toArray 36)).heap.size = w.heap.size + 1 by simp] at h2
  exact ⟨(RtAt.new w a ha 36).alloc _, h2, ((Below.refl w.heap.size w).alloc (Nat.le_refl _) _).alloc (by simp) _⟩
theorem TwoR.drew {w W : World} {a b : Rt} (h : TwoR w W a b) : TwoR w W.drew a b := ⟨h.l.keep rfl, h.r.keep rfl, below_drewN h.low 1⟩
theorem TwoR.step {w W W' : World} {a b : Rt} (h : TwoR w W a b) (hb : Below W.heap.size W W') : TwoR w W' a b := ⟨h.l.below hb h.l.lt, h.r.below hb h.r.lt, h.low.trans (hb.mono h.low.size)⟩
set_option maxHeartbeats 4000000 in
theorem rcmp_is (w : World) (a b : Rt) (ha : RtOk a) (hb : RtOk b) : Calls Try.prog 20 #[.agg (rtc a).toArray, .agg (rtc b).toArray] w fun e w' => e = .returned (.int .i64 (cmpK a b)) ∧ Below w.heap.size w w' := by
  have H := Lib.hid (TwoR.new w ha hb)
  have HA := Lib.hid ha
  have HB := Lib.hid hb
  clear ha hb
  go_enter Try.func20, Try.ntmps20
  go_wp2
  refine wp_region_held_drew (S := fun w' => TwoR w w' a b) (by kernel_rfl) (H.out.drew) (fun hS => ?_)
  refine wpAnyH_take (i := 0) (oi := ⟨some 5, _, _, _, _, _⟩) rfl (by kernel_rfl) (by kernel_rfl) (by kernel_rfl) (fun _ _ _ h => h) (yieldsIf_load_mid (by rfl) 36 _ rfl _ _ rfl (rtc a) _ (fun wq hq => hq.l.rng) Try.underlying36 rfl (by rw [rt_size, rtc_len HA.out])) hS ?_
  try simp only [Act.put, List.setIfInBounds_toArray, List.set_cons_zero, List.set_cons_succ]
  refine wpAnyH_take (i := 2) (oi := ⟨some 7, _, _, _, _, _⟩) rfl (by kernel_rfl) (by kernel_rfl) (by kernel_rfl) (fun _ _ _ h => h) (yieldsIf_load_mid (by rfl) 36 _ rfl _ _ rfl (rtc b) _ (fun wq hq => hq.r.rng) Try.underlying36 rfl (by rw [rt_size, rtc_len HB.out])) hS ?_
  try simp only [Act.put, List.setIfInBounds_toArray, List.set_cons_zero, List.set_cons_succ]
  refine wpAnyH_ready (rs := [1]) (by kernel_rfl) (by simp) ?_
  refine AllReadyH.cons (o := ⟨some 6, _, _, _, _, _⟩) rfl (fun K hK => ?_) AllReadyH.nil
  rw [if_pos (by rfl)]
  go_wp2_with fail
  refine (keyt_is _ a HA.out).mono ?_
  rintro e w6 ⟨rfl, hB6⟩
  have hS6 := hS.step hB6
  clear hB6 hS
  refine hK.out _ _ (hS6) (fun hS => ?_)
  clear hK K
  try simp only [Act.put, List.setIfInBounds_toArray, List.set_cons_zero, List.set_cons_succ]
  clear hS6
  refine wpAnyH_ready (rs := [3]) (by kernel_rfl) (by simp) ?_
  refine AllReadyH.cons (o := ⟨some 8, _, _, _, _, _⟩) rfl (fun K hK => ?_) AllReadyH.nil
  rw [if_pos (by rfl)]
  go_wp2_with fail
  refine (keyt_is _ b HB.out).mono ?_
  rintro e w8 ⟨rfl, hB8⟩
  have hS8 := hS.step hB8
  clear hB8 hS
  refine hK.out _ _ (hS8) (fun hS => ?_)
  clear hK K
  try simp only [Act.put, List.setIfInBounds_toArray, List.set_cons_zero, List.set_cons_succ]
  clear hS8
  refine wpAnyH_ready (rs := [4]) (by kernel_rfl) (by simp) ?_
  refine AllReadyH.cons (o := ⟨some 9, _, _, _, _, _⟩) rfl (fun K hK => ?_) AllReadyH.nil
  rw [if_pos (by rfl)]
  go_wp2_with fail
  refine (Try.strings_Compare _ _ _).mono ?_
  rintro e w9 ⟨rfl, rfl⟩
  refine hK.out _ _ (hS) (fun hS => ?_)
  clear hK K
  try simp only [Act.put, List.setIfInBounds_toArray, List.set_cons_zero, List.set_cons_succ]
  refine wpAnyH_take (i := 5) (oi := ⟨some 4, _, _, _, _, _⟩) (v := ?_) rfl (by kernel_rfl) (by kernel_rfl) (by kernel_rfl) (fun _ _ _ h => h) (Or.inl ⟨by rfl, ?_⟩) hS ?_
  rotate_left
  · intro wq hq
    first | (go_simp; done) | (go_simp; rfl)
  try simp only [Act.put, List.setIfInBounds_toArray, List.set_cons_zero, List.set_cons_succ]
  refine wpAnyH_done (by kernel_rfl) ?_ _
  have HL := Lib.hid hS.low
  clear hS
  go_wp2
  go_ret
  exact ⟨rfl, HL.out⟩

/-! The law's named. -/
theorem any_build {ops : Array Oper} {rest : List Oper} {o : Oper} {a : Act} {w : World} {Q : Exit → Act → World → Prop} (hgd : o.guard = none) (ty : TypeId) (ho : o.op = .build ty #[]) (cs : List Value) (hb : Try.prog.built ty [] = some cs.toArray)
    (h : wpList Try.prog ops Q rest (a.put o.dst (.agg cs.toArray)) w) : wpList Try.prog ops Q (o :: rest) a w :=
  wpList_plain hgd fun _ hK => by
    unfold Oper.wp execOp
    simp only [ho, Sem.run_bind, run_build w _ _ _ (show Try.prog.built ty ((#[] : Array (Nat × Operand)).map fun (i, x) => (i, a.eval x)).toList = some cs.toArray by simpa using hb), Result.andThen_ok]
    exact hK _ _ h
theorem int_store_to {ops : Array Oper} {rest : List Oper} {o : Oper} {a : Act} {w : World} {Q : Exit → Act → World → Prop} (hgd : o.guard = none) (ty : TypeId) (x y : Operand) (ho : o.op = .store ty x y) (b off : Nat) (q : IntKind) (n : Int)
    (hx : a.eval x = .pointer (some ⟨b, off, none⟩)) (hy : a.eval y = .int q n) (ht : w.there b off 1) (hi : (Try.prog.info? ty).map (·.size) = some 1) (I : World → Prop) (hI : I (w.setCell ⟨b, off, none⟩ (.int q n)))
    (h : ∀ W, I W → wpList Try.prog ops Q rest (a.put o.dst undef) W) : wpList Try.prog ops Q (o :: rest) a w :=
  wpList_plain hgd fun _ hK => wp_store_int ty x y ho b off q n hx hy ht hi (hK _ _ (h _ hI))
theorem part_to {ops : Array Oper} {rest : List Oper} {o : Oper} {a : Act} {w : World} {Q : Exit → Act → World → Prop} (hgd : o.guard = none) (ty : TypeId) (x y : Operand) (ho : o.op = .store ty x y) (g off : Nat) (cs : List Value)
    (hx : a.eval x = .pointer (some ⟨g, off, none⟩)) (hy : a.eval y = .agg cs.toArray) (ht : w.there g off cs.length) (hi : (Try.prog.info? ty).map (·.size) = some cs.length) (h1 : ∀ v ∈ cs, v.oneCell' = true) (I : World → Prop) (hI : I (w.setCells g off cs))
    (h : ∀ W, I W → wpList Try.prog ops Q rest (a.put o.dst undef) W) : wpList Try.prog ops Q (o :: rest) a w := part_store hgd ty x y ho g off cs hx hy ht hi h1 (h _ hI)
theorem built_ip0 : Try.prog.built 32 [] = some (ipc false z16).toArray := by kernel_rfl
theorem built_es0 : Try.prog.built 26 [] = some (u8s (List.replicate 10 0)).toArray := by kernel_rfl
structure NmW (w W : World) (r : Rt) : Prop where
  src : RtAt W w.heap.size r
  res : ∃ Z, Blk W (w.heap.size + 1) 36 Z ∧ Z.size = 63
  low : Below w.heap.size w W
  ok : RtOk r
section
variable {w W : World} {r r' : Rt}
theorem NmW.step {off : Nat} {cs : List Value} (h : NmW w W r) (hd : RtAt (W.setCells w.heap.size off cs) w.heap.size r') (hok : RtOk r') : NmW w (W.setCells w.heap.size off cs) r' := by
  obtain ⟨Z, hZ, hs⟩ := h.res
  exact ⟨hd, ⟨Z, (heap_cells (show w.heap.size + 1 ≠ w.heap.size by omega) _ _ _).trans hZ, hs⟩, below_cells (Nat.le_refl _) _ _ _ h.low, hok⟩
theorem NmW.lb (h : NmW w W r) : NmW w (W.setCell ⟨w.heap.size, 61, none⟩ (.int .u32 0)) { r with lb := 0 } := h.step (cs := [.int .u32 0]) (h.src.setLb h.ok 0) { h.ok with lb := u32_0 }
theorem NmW.l2 (h : NmW w W r) : NmW w (W.setCell ⟨w.heap.size, 62, none⟩ (.int .u32 0)) { r with l2 := 0 } := h.step (cs := [.int .u32 0]) (h.src.setL2 h.ok 0) { h.ok with l2 := u32_0 }
theorem NmW.gw (h : NmW w W r) : NmW w (W.setCells w.heap.size 44 (ipc false z16)) { r with gv := false, gl := z16 } := h.step (h.src.setGw h.ok false z16 rfl) { h.ok with gl := rfl, ogl := oct_zeros 16 }
theorem NmW.es (h : NmW w W r) : NmW w (W.setCells w.heap.size 9 (u8s (List.replicate 10 0))) { r with es := List.replicate 10 0 } := h.step (h.src.setEs h.ok _ rfl) { h.ok with es := rfl, oes := oct_zeros 10 }
theorem NmW.new (w : World) (Z : Array Value) (hs : Z.size = 63) (hr : RtOk r) : NmW w ((w.alloc (.cells (rtc r).toArray 36)).alloc (.cells Z 36)) r := by
  have hb2 : Blk (w.alloc (.cells (rtc r).toArray 36) |>.alloc (.cells Z 36)) (w.heap.size + 1) 36 Z := by simpa using Blk.new (w.alloc (.cells (rtc r).toArray 36)) 36 Z
  exact ⟨(RtAt.new w r hr 36).alloc _, ⟨Z, hb2, hs⟩, ((Below.refl w.heap.size w).alloc (Nat.le_refl _) _).alloc (by simp) _, hr⟩
end
theorem sz_ip0 : (Try.prog.info? 32).map (·.size) = some (ipc false z16).length := by kernel_rfl
theorem sz_es0 : (Try.prog.info? 26).map (·.size) = some (u8s (List.replicate 10 0)).length := by kernel_rfl
end Go.Proofs.Ytickcfcncpnaiaa
