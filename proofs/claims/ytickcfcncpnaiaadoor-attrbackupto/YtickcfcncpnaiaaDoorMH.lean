/-
  Put together: AdC.
-/
import Derived.Test.YtickcfcncpnaiaaDoorMR
import Derived.BigFrame
namespace Go.Proofs.YtickcfcncpnaiaaDoor
open Go.RowKit
set_option maxRecDepth 100000
set_option linter.unusedSimpArgs false
set_option linter.unusedVariables false

def bitsOf (v : Bool) : Int := if v then 128 else 32
theorem bits_is (w : World) (v : Bool) (l : List Int) :
    Calls Tryd.prog 45 #[.agg (ipc v l).toArray] w fun e w' => e = .returned (.int .i64 (bitsOf v)) ∧ Below w.heap.size w w' := by
  cases v
  · go_enter Tryd.func45, Tryd.ntmps45
    go_wp2
    go_ret
    exact ⟨rfl, (Below.refl _ _).alloc (Nat.le_refl _) _⟩
  · go_enter Tryd.func45, Tryd.ntmps45
    go_wp2
    go_ret
    exact ⟨rfl, (Below.refl _ _).alloc (Nat.le_refl _) _⟩

/-- A byte's first k bits. -/
def keepB (b : Int) (k : Nat) : Int := b / 2 ^ (8 - k) * 2 ^ (8 - k)
/-- How many bits of byte i stay. -/
def stay (n : Int) (i : Nat) : Nat := (min (max (n - 8 * i) 0) 8).toNat
def firstBits (l : List Int) (n : Int) : List Int := l.mapIdx fun i b => keepB b (stay n i)
theorem keepB_all : ∀ b : Fin 256, ∀ k : Fin 9, bits .andNot .u8 (b.val : Int) (255 / 2 ^ k.val) = keepB (b.val : Int) k.val := by decide +kernel
theorem keepB_is (b : Int) (k : Nat) (h0 : 0 ≤ b) (h1 : b < 256) (hk : k ≤ 8) : bits .andNot .u8 b (255 / 2 ^ k) = keepB b k := by
  have := keepB_all ⟨b.toNat, by omega⟩ ⟨k, by omega⟩
  simpa [Int.toNat_of_nonneg h0] using this

theorem fb_len (l : List Int) (n : Int) : (firstBits l n).length = l.length := by simp [firstBits]
theorem fb_get (l : List Int) (n : Int) (k : Nat) (hk : k < l.length) : (firstBits l n)[k]'(by rw [fb_len]; exact hk) = keepB (l.getD k 0) (stay n k) := by simp [firstBits, List.getD, hk]
theorem fb_split (l : List Int) (n : Int) (k : Nat) (hk : k < l.length) : (firstBits l n).take k ++ l.drop k = (firstBits l n).take k ++ l.getD k 0 :: l.drop (k + 1) := by
  rw [List.drop_eq_getElem_cons hk]
  simp [List.getD, hk]
theorem fb_split2 (l : List Int) (n : Int) (k : Nat) (hk : k < l.length) : (firstBits l n).take (k + 1) ++ l.drop (k + 1) = (firstBits l n).take k ++ keepB (l.getD k 0) (stay n k) :: l.drop (k + 1) := by
  rw [List.take_succ_eq_append_getElem (by rw [fb_len]; exact hk), fb_get l n k hk]
  simp
theorem fb_oct (l : List Int) (n : Int) (ho : Oct l) : Oct (firstBits l n) := by
  intro x hx
  obtain ⟨i, hi, rfl⟩ := List.getElem_of_mem hx
  rw [fb_get l n i (by rwa [fb_len] at hi)]
  have hb := ho.getD i
  generalize l.getD i 0 = b at *
  have hs : stay n i ≤ 8 := by unfold stay; omega
  generalize stay n i = k at *
  unfold keepB
  have hp : (0 : Int) < 2 ^ (8 - k) := Int.pow_pos (by decide)
  have h1 := Int.mul_ediv_add_emod b (2 ^ (8 - k))
  have h2 := Int.emod_nonneg b (Int.ne_of_gt hp)
  have h3 : 0 ≤ b / 2 ^ (8 - k) := Int.ediv_nonneg hb.1 (Int.le_of_lt hp)
  rw [Int.mul_comm] at h1
  exact ⟨Int.mul_nonneg h3 (Int.le_of_lt hp), by omega⟩

/-- A prefix's cells. -/
abbrev pfc (v : Bool) (l : List Int) (n : Int) : List Value := Value.bool v :: (u8s l ++ [Value.int .i64 n])
def cutB (v : Bool) (l : List Int) (n : Int) : Bool := rightB v l && (decide (0 ≤ n) && decide (n ≤ bitsOf v))
def noPf : List Value := pfc false (List.replicate 16 0) 0
theorem u8s_one (l : List Int) : ∀ x ∈ u8s l, x.oneCell' = true := by
  intro x hx
  obtain ⟨y, _, rfl⟩ := List.mem_map.1 hx
  rfl
theorem pfc_one (v : Bool) (l : List Int) (n : Int) : (pfc v l n).toArray.all (·.oneCell') = true := all_oneCell_toArray (by
  intro x hx
  simp only [pfc, List.mem_cons, List.mem_append, List.mem_nil_iff, or_false] at hx
  rcases hx with rfl | hx | rfl
  · rfl
  · exact u8s_one l x hx
  · rfl)
theorem ip_fetch {ops : Array Oper} {rest : List Oper} {op : Oper} {a : Act} {w : World} {Q : Exit → Act → World → Prop} (hw : Region.wanted op (yielded ops a.tmps) = true) (x : Operand) (ho : op.op = .load 27 x) (b o : Nat) (v : Bool) (l : List Int) (hl : l.length = 16)
    (hx : a.eval x = .pointer (some ⟨b, o, none⟩)) (hc : w.rangeAt b o (ipc v l)) (h : wpList Tryd.prog ops Q rest (a.put op.dst (.agg (ipc v l).toArray)) w) : wpList Tryd.prog ops Q (op :: rest) a w :=
  BigFrame.wpList_want hw fun _ hK => wp_load_mid 27 x ho b o hx (ipc v l) _ hc Tryd.underlying27 rfl (ip_size v l hl) (hK _ _ h)
def Cut (w : World) (v : Bool) (l : List Int) (n : Int) (e : Ending) (w' : World) : Prop :=
  Below w.heap.size w w' ∧ e = .returned (if cutB v l n then .tuple #[.agg (pfc v (firstBits l n) n).toArray, .int .i64 0] else .tuple #[.agg noPf.toArray, .int .i64 2])
end Go.Proofs.YtickcfcncpnaiaaDoor
