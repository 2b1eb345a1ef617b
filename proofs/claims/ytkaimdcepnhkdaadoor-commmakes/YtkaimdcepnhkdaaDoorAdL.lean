/-
  Layer 2 (addr): PrefixText; readFour.
-/
import Derived.Test.YtkaimdcepnhkdaaDoorAdK
import Derived.Test.YtkaimdcepnhkdaaDoorAdD
import Derived.Test.YtkaimdcepnhkdaaDoorAdE
namespace Go.Proofs.YtkaimdcepnhkdaaDoor
open Go.RowKit
set_option linter.unusedSimpArgs false
set_option linter.unusedVariables false

theorem fourS_size (l : List Int) (ho : Oct l) : (fourS l).size ≤ l.length * 21 := by
  have := joinS_size (l.map decS) [46] 20 (by
    intro x hx
    obtain ⟨y, hy, rfl⟩ := List.mem_map.1 hx
    have := ho y hy
    exact decS_size y this.1 (by omega))
  simpa [fourS] using this
theorem ba_size_append (a b : ByteArray) : (a ++ b).size = a.size + b.size := ByteArray.size_append
theorem sixS_size (l : List Int) : (sixS l).size ≤ 1000 := by
  unfold sixS
  have hl := grp_len l
  split
  · have := groupsS_size (grp l); omega
  · rw [ba_size_append, ba_size_append]
    have h1 := groupsS_size ((grp l).take (lzTo (grp l) 8).1)
    have h2 := groupsS_size ((grp l).drop ((lzTo (grp l) 8).1 + (lzTo (grp l) 8).2))
    have h3 : ((grp l).take (lzTo (grp l) 8).1).length ≤ 8 := by rw [List.length_take]; omega
    have h4 : ((grp l).drop ((lzTo (grp l) 8).1 + (lzTo (grp l) 8).2)).length ≤ 8 := by rw [List.length_drop]; omega
    have h5 : (⟨#[58, 58]⟩ : ByteArray).size = 2 := rfl
    omega
theorem ipS_size (v : Bool) (l : List Int) (hl : l.length = 16) (ho : Oct l) : (ipS v l).size ≤ 1000 := by
  unfold ipS
  split
  · exact sixS_size l
  · have := fourS_size (l.take 4) (fun x hx => ho x (List.mem_of_mem_take hx))
    rw [List.length_take] at this
    omega
def pfS (v : Bool) (l : List Int) (n : Int) : ByteArray := ipS v l ++ ⟨#[47]⟩ ++ decS n
def PfT (w : World) (v : Bool) (l : List Int) (n : Int) (e : Ending) (w' : World) : Prop :=
  Below w.heap.size w w' ∧ e = .returned (if rightPfB v l n then .tuple #[.string (pfS v l n), .int .i64 0] else .tuple #[.string ⟨#[]⟩, .int .i64 2])
theorem rightPf_bd {v : Bool} {l : List Int} {n : Int} (h : rightPfB v l n = true) : rightB v l = true ∧ 0 ≤ n ∧ n ≤ 128 := by
  unfold rightPfB hasB cutB at h
  simp only [Bool.and_eq_true, decide_eq_true_eq] at h
  refine ⟨h.1.1, h.1.2.1, ?_⟩
  have := h.1.2.2
  unfold bitsOf at this
  split at this <;> omega
set_option maxHeartbeats 1000000 in
set_option maxRecDepth 100000 in
theorem pftext_is (w : World) (E : Env w) (v : Bool) (l : List Int) (n : Int) (hl : l.length = 16) (ho : Oct l) (hn : I64 n) :
    Calls Tryd.prog 28 #[.agg (pfc v l n).toArray] w (PfT w v l n) := by
  have hr0 := range_new w 40 (pfc v l n)
  have HR := Lib.hid hr0
  clear hr0
  go_enter Tryd.func28, Tryd.ntmps28
  go_wp2_with (refine pf_fetch rfl _ rfl w.heap.size v l n hl rfl HR.out ?_)
  refine (rpf_is _ v l n hl ho hn).mono ?_
  rintro e w1 ⟨rfl, hB1⟩
  have HB1 : Hid (Below w.heap.size w w1) := Lib.hid (((Below.refl w.heap.size w).alloc (Nat.le_refl _) _).trans (hB1.mono (by simp)))
  have hs1 : w.heap.size < w1.heap.size := by have := hB1.size; simp at this; omega
  have HR1 := Lib.hid (range_below HR.out hB1 (by simp))
  have HE := Lib.hid (E.below HB1.out)
  clear hB1 HR
  cases hrt : rightPfB v l n
  · have HC := Lib.hid hrt
    clear hrt
    go_wp2
    go_ret2
    exact ⟨HB1.out, by rw [HC.out]; rfl⟩
  · have HC := Lib.hid hrt
    obtain ⟨hright, hn0, hn128⟩ := rightPf_bd hrt
    have HRi := Lib.hid hright
    clear hrt hright
    have Ha := Lib.hid (range_pre (cs := ipc v l) (ds := [Value.int .i64 n]) HR1.out)
    go_wp2_with (refine ip_fetch rfl _ rfl w.heap.size 0 v l hl rfl Ha.out ?_)
    refine (iptext_is w1 HE.out v l hl ho).mono ?_
    rintro e w2 ⟨hB2, he⟩
    rw [HRi.out] at he
    subst he
    have HB2 := Lib.hid (HB1.out.trans (hB2.mono HB1.out.size))
    have HR2 := Lib.hid (range_below HR1.out hB2 hs1)
    have hc2 := (range_post (cs := ipc v l) (ds := [Value.int .i64 n]) HR2.out) 0 _ rfl
    rw [show 0 + (ipc v l).length + 0 = 17 by simp [hl]] at hc2
    have HE2 := Lib.hid (E.below HB2.out)
    have hz1 : ¬ 9223372036854775807 < (ipS v l).size + 1 := by have := ipS_size v l hl ho; omega
    have hz2 : ¬ 9223372036854775807 < (ipS v l).size + 1 + (decS n).size := by have := ipS_size v l hl ho; have := decS_size n hn0 (by omega); omega
    have HP : Hid (pfS v l n = ipS v l ++ ⟨#[47]⟩ ++ decS n) := Lib.hid rfl
    have hw64 : IntKind.u64.wrap n = n := by rw [IntKind.wrap_u64]; exact Int.emod_eq_of_lt hn0 (by omega)
    clear hB2 HR1
    generalize ipS v l = s at *
    go_wp2_with fail
    refine (dec_is w2 HE2.out n hn0 (by omega)).mono ?_
    rintro e w3 ⟨rfl, hB3⟩
    have HB3 := Lib.hid (HB2.out.trans (hB3.mono HB2.out.size))
    clear hB3
    generalize decS n = d at *
    go_wp2
    go_ret2
    exact ⟨HB3.out, by rw [HC.out, HP.out]; rfl⟩
end Go.Proofs.YtkaimdcepnhkdaaDoor
