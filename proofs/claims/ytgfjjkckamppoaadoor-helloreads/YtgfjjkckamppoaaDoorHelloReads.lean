/-
  HelloReads' walk.
-/
import Derived.Test.YtgfjjkckamppoaaDoorHrF
import Derived.Test.YtgfjjkckamppoaaDoorHeW
namespace Go.Proofs.YtgfjjkckamppoaaDoor
open Go.RowKit
set_option maxRecDepth 100000
set_option linter.unusedSimpArgs false
set_option linter.unusedVariables false

def rH : Except (Int × List Int) Hl → Hl | .ok h => h | .error _ => hl0
def rC : Except (Int × List Int) Hl → Int | .ok _ => 0 | .error _ => 2
def rS : Except (Int × List Int) Hl → Int | .ok _ => 0 | .error q => q.1
def rD : Except (Int × List Int) Hl → List Int | .ok _ => [] | .error q => q.2
def rQ : Except (Int × List Int) Hl → Bool | .ok _ => true | .error _ => false
theorem told_all {w w' : World} {r : Except (Int × List Int) Hl} {e : Ending} (h : ToldH w r e w') : ∃ A n k, e = .returned (.tuple #[.agg (hlc (rH r)).toArray, .agg #[.int .i64 (rC r), .int .i64 (rS r), .slice A n k], .bool (rQ r)]) ∧ Rd w' w'.heap.size A n (rD r) ∧ Below w.heap.size w w' := by
  obtain ⟨hB, h⟩ := h
  cases r with
  | ok x => exact ⟨none, 0, 0, h, Rd.nil_ _, hB⟩
  | error q =>
    obtain ⟨s, d⟩ := q
    obtain ⟨A, n, c, he, _, hr⟩ := h
    exact ⟨A, n, c, he, hr, hB⟩
theorem rH_ok {l : List Int} (ho : Oct l) : HlOk (rH (readR l)) := by
  have h0 : HlOk hl0 := ⟨by simp [hl0], by simp [hl0], by simp [hl0]⟩
  have hh : HlOk (headR l) := by
    have n1 := numOf_bd4 (oct_dt ho 1 2) (by simp; omega)
    have n2 := numOf_bd4 (oct_dt ho 3 2) (by simp; omega)
    have n3 := numOf_bd4 (oct_dt ho 5 4) (by simp; omega)
    unfold headR
    generalize numOf ((l.drop 3).take 2) = o at *
    exact ⟨n1, (show -9223372036854775808 ≤ o ∧ o < 9223372036854775808 from by omega), n3⟩
  unfold readR
  split
  · exact h0
  · split
    · exact h0
    · split
      · exact h0
      · cases hp : parsR (headR l) (l.drop 10) with
        | error s => exact h0
        | ok x =>
          have hx := parsR_ok hh (fun y hy => ho y (List.mem_of_mem_drop hy)) hp
          show HlOk (rH (judgeR x))
          cases hj : judgeR x with
          | error s => exact h0
          | ok y => exact judgeR_ok hx hj

set_option maxHeartbeats 4000000 in
theorem helloReads_walk (w : World) (E : EnvF w) (A1 : Option Addr) (n1 k1 : Nat) (l1 : List Int) (hr1 : Rd w w.heap.size A1 n1 l1) (hsz1 : n1 ≤ 140737488351232) (hk1 : n1 ≤ k1) :
    Calls Tryd.prog 4 #[.slice A1 n1 k1] w (AliveP w) := by
  have HR1 := Lib.hid hr1
  have HE := Lib.hid E
  have HOk := Lib.hid (rH_ok hr1.oct)
  have HT : Hid (∀ w' e W, ToldH w' (readR l1) e W → ∃ A n k, e = .returned (.tuple #[.agg (hlc (rH (readR l1))).toArray, .agg #[.int .i64 (rC (readR l1)), .int .i64 (rS (readR l1)), .slice A n k], .bool (rQ (readR l1))]) ∧ Rd W W.heap.size A n (rD (readR l1)) ∧ Below w'.heap.size w' W) := Lib.hid (fun _ _ _ h => told_all h)
  generalize rH (readR l1) = h at *
  generalize rC (readR l1) = c at *
  generalize rS (readR l1) = s at *
  generalize rD (readR l1) = d at *
  generalize rQ (readR l1) = q at *
  have he := h_eql h h HOk.out HOk.out true (by simp)
  have e1 : (q == q) = true := by simp
  clear hr1 E
  go_enter Tryd.func4, Tryd.ntmps4
  go_wp2_with fail
  refine (lent_is w A1 n1 k1 l1 HR1.out (by omega)).mono ?_
  rintro e W2 ⟨rfl, hb, hB⟩
  have HS2 : Hid (FaS w w.heap.size A1 n1 l1 W2) := Lib.hid ⟨hB, HE.out.below hB, hb, Nat.le_refl _, HR1.out.below hB⟩
  clear hB hb HR1 HE
  go_wp2_with fail
  refine (readH_is W2 HS2.out.2.1 (some ⟨w.heap.size, 0, none⟩) n1 (n1 + 2) l1 HS2.out.own (by omega)).mono ?_
  intro e W3 hT
  obtain ⟨Ak, nk, kk, he3, hrk, hB⟩ := HT.out _ _ _ hT
  subst he3
  have HS3 := Lib.hid (HS2.out.next hB)
  obtain ⟨h1, h2, h3⟩ := two_h W3 h c s Ak nk kk
  have H30 := Lib.hid (two_h0 W3)
  have H31 := Lib.hid (two_h1 W3 h)
  have HG4 := Lib.hid h1
  have HK4 := Lib.hid h2
  have HS4 := Lib.hid (HS3.out.next h3)
  have HR4 := Lib.hid (hrk.up h3)
  clear h1 h2 h3 hT hrk hB HS2 HS3
  go_wp2_with (first
    | (refine h_store rfl _ _ rfl W3.heap.size h rfl rfl 24 _ H30.out rfl ?_)
    | (refine f_store rfl _ _ rfl (W3.heap.size + 1) c s Ak nk kk rfl rfl 34 _ H31.out rfl ?_))
  refine (rread_is _ A1 n1 k1 l1 HS4.out.rd hk1 (by omega)).mono ?_
  clear H30 H31
  generalize ((((W3.alloc (.cells #[.int .u32 0, .int .i64 0, .int .u32 0, .bool false, .bool false, .bool false] 24)).alloc (.cells #[.int .i64 0, .int .i64 0, .slice none 0 0] 34)).setRow W3.heap.size (hlc h).toArray).setRow (W3.heap.size + 1) #[.int .i64 c, .int .i64 s, .slice Ak nk kk]) = W4 at *
  generalize W3.heap.size = g4 at *
  intro e W5 hT
  obtain ⟨Al, nl, kl, he5, hrl, hB⟩ := HT.out _ _ _ hT
  subst he5
  have HS5 := Lib.hid (HS4.out.next hB)
  have HG5 := Lib.hid (HG4.out.below hB HG4.out.lt)
  have HK5 := Lib.hid (HK4.out.below hB HK4.out.lt)
  have HR5 := Lib.hid (HR4.out.up hB)
  obtain ⟨h1, h2, h3⟩ := two_h W5 h c s Al nl kl
  have H50 := Lib.hid (two_h0 W5)
  have H51 := Lib.hid (two_h1 W5 h)
  have HL6 := Lib.hid h1
  have HM6 := Lib.hid h2
  have HS6 := Lib.hid (HS5.out.next h3)
  have HG6 := Lib.hid (HG5.out.below h3 HG5.out.lt)
  have HK6 := Lib.hid (HK5.out.below h3 HK5.out.lt)
  have HR6 := Lib.hid (HR5.out.up h3)
  have HRl6 := Lib.hid (hrl.up h3)
  clear h1 h2 h3 hT hrl hB HS4 HS5 HG4 HK4 HR4 HG5 HK5 HR5
  go_wp2_with (first
    | (refine h_store rfl _ _ rfl W5.heap.size h rfl rfl 24 _ H50.out rfl ?_)
    | (refine f_store rfl _ _ rfl (W5.heap.size + 1) c s Al nl kl rfl rfl 34 _ H51.out rfl ?_)
    | (refine h_fetch rfl _ rfl g4 h 24 rfl HG6.out ?_)
    | (refine h_fetch rfl _ rfl W5.heap.size h 24 rfl HL6.out ?_)
    | (refine f_fetch rfl _ rfl (g4 + 1) c s Ak nk kk 34 rfl HK6.out ?_)
    | (refine f_fetch rfl _ rfl (W5.heap.size + 1) c s Al nl kl 34 rfl HM6.out ?_))
  refine (alike_is _ c s c s Ak Al nk nl kk kl d d HR6.out HRl6.out true (by simp)).mono ?_
  clear H50 H51 HL6 HM6 HG6 HK6 HR6 HRl6
  generalize ((((W5.alloc (.cells #[.int .u32 0, .int .i64 0, .int .u32 0, .bool false, .bool false, .bool false] 24)).alloc (.cells #[.int .i64 0, .int .i64 0, .slice none 0 0] 34)).setRow W5.heap.size (hlc h).toArray).setRow (W5.heap.size + 1) #[.int .i64 c, .int .i64 s, .slice Al nl kl]) = W6 at *
  rintro e W7 ⟨rfl, hB⟩
  have HS7 := Lib.hid (HS6.out.next hB)
  clear hB HS6
  go_wp2_with fail
  refine (kept_is W7 w.heap.size _ A1 n1 k1 l1 HS7.out.2.2.1 HS7.out.rd (by omega)).mono ?_
  rintro e W8 ⟨rfl, rfl⟩
  go_wp2_with fail
  refine (alive_is W7 HS7.out.2.1).mono ?_
  rintro e W8 ⟨rfl, hB⟩
  have HBf := Lib.hid (HS7.out.next hB).1
  clear hB HS7
  go_wp2
  go_ret
  exact ⟨rfl, HBf.out⟩
end Go.Proofs.YtgfjjkckamppoaaDoor
