/-
  Put together: AxA AvA.
-/
import Derived.Test.YtdgoeibfggjbmaaGreatDoorMB
import Derived.Test.YtdgoeibfggjbmaaGreatDoorMZ
namespace Go.Proofs.YtdgoeibfggjbmaaGreatDoor
open Go.RowKit
set_option maxRecDepth 100000
set_option linter.unusedSimpArgs false
set_option linter.unusedVariables false

theorem enc_of (f k : Int) (v : List Int) (hf : f = 64 ∨ f = 128 ∨ f = 192) (hk : 0 ≤ k ∧ k ≤ 255) (hv : v.length < 65536) : encE (rawW f k v) = 0 := by
  unfold encE rawW lfl
  simp only
  by_cases h : 255 < v.length
  · rw [if_pos h]
    have hl : lsz (f + 16) = 2 := by rcases hf with rfl | rfl | rfl <;> decide
    rw [hl, if_pos (by omega), if_pos (by omega)]
  · rw [if_neg h]
    have hl : lsz f = 1 := by rcases hf with rfl | rfl | rfl <;> decide
    rw [hl, if_pos (by omega), if_pos (by omega)]
theorem write_enc {a : Att} (hf : AtFits a) (h1 : a.path.length ≤ 255) (h2 : a.clus.length ≤ 255) (h3 : a.comms.length ≤ 255) : ∀ r ∈ writeR a, encE r = 0 := by
  intro r hm
  unfold writeR at hm
  simp only [List.mem_append, List.mem_cons, List.mem_nil_iff, or_false] at hm
  rcases hm with (rfl | rfl) | hm | rfl | hm | hm | hm | hm
  · exact enc_of 64 1 _ (by omega) (by omega) (by simp)
  · exact enc_of 64 2 _ (by omega) (by omega) (by have := pathW_len a.path h1; omega)
  · obtain ⟨_, rfl⟩ := mem_opt hm
    exact enc_of 128 4 _ (by omega) (by omega) (by rw [be_len]; omega)
  · exact enc_of 64 5 _ (by omega) (by omega) (by rw [be_len]; omega)
  · obtain ⟨_, rfl⟩ := mem_opt hm
    exact enc_of 128 9 _ (by omega) (by omega) (by rw [be_len]; omega)
  · obtain ⟨_, rfl⟩ := mem_opt hm
    exact enc_of 128 10 _ (by omega) (by omega) (by rw [encN_len]; omega)
  · obtain ⟨_, rfl⟩ := mem_opt hm
    exact enc_of 192 16 _ (by omega) (by omega) (by rw [(cmms_enc _ hf.comms).2]; omega)
  · obtain ⟨_, rfl⟩ := mem_opt hm
    refine enc_of 192 22 _ (by omega) (by omega) ?_
    have h16 := hf.ip
    unfold pmW
    split <;> simp [be_len, h16] <;> omega
theorem opt_len {α : Type} (b : Bool) (x : α) : (opt b x).length ≤ 1 := by unfold opt; split <;> simp
theorem write_len (a : Att) : (writeR a).length ≤ 8 := by
  unfold writeR
  simp only [List.length_append, List.length_cons, List.length_nil]
  have := opt_len a.hasMed (rawW 128 4 (be 4 a.med))
  have := opt_len (decide (a.orr ≠ 0)) (rawW 128 9 (be 4 a.orr))
  have := opt_len (decide (a.clus ≠ [])) (rawW 128 10 (encN a.clus))
  have := opt_len (decide (a.comms ≠ [])) (rawW 192 16 a.comms.flatten)
  have := opt_len (decide (a.pm.kind ≠ 0)) (rawW 192 22 (pmW a.pm))
  omega
theorem joinB_len : ∀ (rs : List Raw), (∀ r ∈ rs, encE r = 0) → (joinB rs).length ≤ rs.length * 65539
  | [], _ => by simp [joinB]
  | r :: rs, h => by
    have e : joinB (r :: rs) = encB r ++ joinB rs := rfl
    rw [e, List.length_append, List.length_cons]
    have h1 := encB_len r (h r (List.mem_cons_self ..))
    have h2 := joinB_len rs (fun x hx => h x (List.mem_cons_of_mem _ hx))
    omega
theorem joinE_zero {rs : List Raw} (h : ∀ r ∈ rs, encE r = 0) : joinE rs = 0 := joinE_no fun j hj => h _ (List.getElem_mem hj)
theorem enc_val {r : Raw} (h : encE r = 0) : r.2.2.length ≤ 65535 := by
  unfold encE at h
  split at h
  · split at h
    · rename_i hl
      rcases lsz_pow r.1 with e | e <;> rw [e] at hl <;> omega
    · cases h
  · cases h
theorem write_is (w : World) (E : EnvK w) (a : Att) (hf : AtFits a) (cs : List Value) (h : RdAt w w.heap.size cs a) : Calls Tryz.prog 90 #[.agg cs.toArray] w (WritePost w a) := by
  obtain ⟨Ap, cp, Ac, cc, Am, cm, rfl, p1, p2, p3⟩ := h.ex
  cases hr : rightAt a
  · exact write_bad w a hf _ _ _ hr
  · by_cases hl : 255 < a.path.length ∨ 255 < a.clus.length ∨ 255 < a.comms.length
    · exact write_long w a hf Ap Ac Am cp cc cm hr hl
    · exact write_go w E a hf Ap Ac Am cp cc cm p1 p2 p3 hr (by omega) (by omega) (by omega)
theorem writeE_parts {a : Att} (h : writeE a = 0) : rightAt a = true ∧ a.path.length ≤ 255 ∧ a.clus.length ≤ 255 ∧ a.comms.length ≤ 255 := by
  unfold writeE at h
  cases hr : rightAt a
  · rw [if_pos hr] at h; cases h
  · rw [if_neg (by rw [hr]; decide)] at h
    split at h
    · cases h
    · exact ⟨rfl, by omega, by omega, by omega⟩
theorem att_store5 {ops : Array Oper} {rest : List Oper} {o : Oper} {a : Act} {w : World} {Q : Exit → Act → World → Prop} (hgd : o.guard = none) (x y : Operand) (ho : o.op = .store 31 x y) (g : Nat) (cs : List Value) (hl : cs.length = 27) (h1 : ∀ v ∈ cs, v.oneCell' = true)
    (hx : a.eval x = .pointer (some ⟨g, 0, none⟩)) (hy : a.eval y = .agg cs.toArray) (t : TypeId) (old : Array Value) (hg : Blk w g t old) (hold : old.size = 27)
    (h : wpList Tryz.prog ops Q rest (a.put o.dst undef) (w.setRow g cs.toArray)) : wpList Tryz.prog ops Q (o :: rest) a w :=
  wpList_store_row hgd 31 x y ho g _ hx hy t old hg (by rw [asz]; simp [hl]) (by rw [hold]; simp [hl]) (all_oneCell_toArray h1) h
theorem fault_store5 {ops : Array Oper} {rest : List Oper} {o : Oper} {a : Act} {w : World} {Q : Exit → Act → World → Prop} (hgd : o.guard = none) (x y : Operand) (ho : o.op = .store 56 x y) (g : Nat) (c s : Int) (A : Option Addr) (n cp : Nat)
    (hx : a.eval x = .pointer (some ⟨g, 0, none⟩)) (hy : a.eval y = .agg #[.int .i64 c, .int .i64 s, .slice A n cp]) (t : TypeId) (old : Array Value) (hg : Blk w g t old) (hold : old.size = 3)
    (h : wpList Tryz.prog ops Q rest (a.put o.dst undef) (w.setRow g #[.int .i64 c, .int .i64 s, .slice A n cp])) : wpList Tryz.prog ops Q (o :: rest) a w :=
  wpList_store_row hgd 56 x y ho g _ hx hy t old hg (by rw [fsz]; rfl) (by rw [hold]; rfl) (by kernel_rfl) h
end Go.Proofs.YtdgoeibfggjbmaaGreatDoor
namespace Go.Proofs.YtdgoeibfggjbmaaGreatDoor
open Go.RowKit
set_option maxRecDepth 100000
set_option linter.unusedSimpArgs false
set_option linter.unusedVariables false

def plc (rs : List Raw) (k : Int) : Int := match rs.findIdx? (fun r => decide (r.2.1 = k)) with
  | some i => i
  | none => -1
theorem plc_at {rs : List Raw} {k : Int} {m : Nat} (hm : m < rs.length) (h : ∀ j (hj : j < rs.length), j < m → rs[j].2.1 ≠ k) (hk : rs[m].2.1 = k) : plc rs k = m := by
  have : rs.findIdx? (fun r => decide (r.2.1 = k)) = some m := by
    rw [List.findIdx?_eq_some_iff_getElem]
    exact ⟨hm, by simpa using hk, fun j hj => by simpa using h j (by omega) hj⟩
  unfold plc
  rw [this]
theorem plc_no {rs : List Raw} {k : Int} (h : ∀ j (hj : j < rs.length), rs[j].2.1 ≠ k) : plc rs k = -1 := by
  have : rs.findIdx? (fun r => decide (r.2.1 = k)) = none := by
    rw [List.findIdx?_eq_none_iff]
    intro r hr
    obtain ⟨j, hj, rfl⟩ := List.getElem_of_mem hr
    simpa using h j hj
  unfold plc
  rw [this]
end Go.Proofs.YtdgoeibfggjbmaaGreatDoor
