/-
  Put together: AdA AtN AtO AtP AtQ AtS AtT AtU.
-/
import Derived.Test.YtdgoeibfggjbmaaGreatDoorProg
import Derived.Test.YtdgoeibfggjbmaaGreatDoorMO
import Derived.Outline
import Derived.BigQuiet
import Derived.WalkLawsBesides
import Derived.Test.YtdgoeibfggjbmaaGreatDoorMT
import Derived.Laws.Cover3
import Derived.Test.YtdgoeibfggjbmaaGreatDoorMU
namespace Go.Proofs.YtdgoeibfggjbmaaGreatDoor
open Go.RowKit
set_option maxRecDepth 100000
set_option linter.unusedSimpArgs false
set_option linter.unusedVariables false

set_option maxHeartbeats 400000 in
theorem number_is (w : World) (B : Nat) (A : Option Addr) (n c : Nat) (l : List Int) (hr : Rd w B A n l) (h8 : n ≤ 8) :
    Calls Tryz.prog 193 #[.slice A n c] w fun e w' => e = .returned (.int .u64 (numOf l)) ∧ w = w' := by
  have H := Lib.hid hr
  obtain rfl := hr.len
  have HO := Lib.hid hr.oct
  clear hr
  go_enter Tryz.func193, Tryz.ntmps193
  go_wp2
  go_loop [3, 5, 8] (fun s _ i => ∃ m : Nat, m ≤ l.length ∧ i = .int .i64 m ∧ s = .int .u64 (numOf (l.take m))) (fun _ _ i => l.length - (intOf i).toNat)
  case atStart => exact ⟨0, Nat.zero_le _, rfl, rfl⟩
  case round =>
    obtain ⟨m, hm, rfl, rfl⟩ := hrel
    by_cases hlt : m < l.length
    · obtain ⟨b, off, rfl, hb, hcell⟩ := H.out.at_ (by omega)
      have hcm := hcell m hlt
      have HS := Lib.hid (numOf_step l m hlt h8 HO.out)
      clear hcell
      go_wp2
      refine ⟨⟨m + 1, by omega, by go_num, by rw [HS.out]⟩, by simp [intOf]; omega⟩
    · obtain rfl : m = l.length := by omega
      rw [List.take_length]
      go_wp2
      go_ret
      exact ⟨rfl, rfl⟩

abbrev ipc (v : Bool) (l : List Int) : List Value := Value.bool v :: u8s l
set_option maxHeartbeats 400000 in
theorem first4_is (w : World) (v : Bool) (l : List Int) (hl : l.length = 16) (ho : Oct l) :
    Calls Tryz.prog 141 #[.agg (ipc v l).toArray] w fun e w' => e = .returned (.int .u32 (numOf (l.take 4))) ∧ Below w.heap.size w w' := by
  have hr0 := rd_range (pre := [.bool v]) (post := []) (l := l) (B := w.heap.size + 1) (by simpa using range_new w 27 (ipc v l)) ho 0 4 (by omega) (by omega)
  have H := Lib.hid hr0
  clear hr0
  have hb := numOf_bd (l.take 4) (fun x hx => ho x (List.mem_of_mem_take hx))
  rw [show (l.take 4).length = 4 by simp; omega] at hb
  have HW := Lib.hid (show numOf (l.take 4) % 4294967296 = numOf (l.take 4) from Int.emod_eq_of_lt hb.1 (by omega))
  clear hb
  go_enter Tryz.func141, Tryz.ntmps141
  go_wp2_with fail
  refine (number_is _ (w.heap.size + 1) _ 4 16 (l.take 4) (by simpa using H.out) (by omega)).mono ?_
  rintro e w' ⟨rfl, rfl⟩
  go_wp2
  go_ret
  rw [HW.out]
  exact ⟨rfl, (Below.refl _ _).alloc (Nat.le_refl _) _⟩

def four (n : Int) : List Int := [n / 16777216, n / 65536 % 256, n / 256 % 256, n % 256] ++ List.replicate 12 0

set_option maxHeartbeats 400000 in
theorem four_is (w : World) (n : Int) (h0 : 0 ≤ n) (h1 : n < 4294967296) :
    Calls Tryz.prog 140 #[.int .u32 n] w fun e w' => e = .returned (.agg (ipc false (four n)).toArray) ∧ Below w.heap.size w w' := by
  go_enter Tryz.func140, Tryz.ntmps140
  go_wp2
  refine bodyPost_ret (v := .agg (ipc false (four n)).toArray) ?_ rfl ⟨rfl, (Below.refl _ _).alloc (Nat.le_refl _) _⟩
  exact results_cell_row rfl _ _ w.heap.size 27 _ (0, 0) _ rfl (Blk.new w 27 _) Tryz.underlying27 rfl (by kernel_rfl)

theorem four_len (n : Int) : (four n).length = 16 := by simp [four]
theorem four_oct (n : Int) (h0 : 0 ≤ n) (h1 : n < 4294967296) : Oct (four n) := by
  intro x hx
  simp [four] at hx
  omega
def rightB (v : Bool) (l : List Int) : Bool := v || decide (l.drop 4 = List.replicate 12 0)
theorem four_num : ∀ (l : List Int), l.length = 16 → Oct l → (l = four (numOf (l.take 4)) ↔ l.drop 4 = List.replicate 12 0) := by
  intro l hl ho
  match l, hl with
  | a :: b :: c :: d :: r, hl =>
    have ha := ho a (by simp)
    have hb := ho b (by simp)
    have hc := ho c (by simp)
    have hd := ho d (by simp)
    have e : numOf [a, b, c, d] = ((a * 256 + b) * 256 + c) * 256 + d := by simp [numOf]
    simp only [List.take_succ_cons, List.take_zero, e, four, List.drop_succ_cons, List.drop_zero, List.cons_append, List.nil_append, List.cons.injEq]
    constructor
    · exact fun h => h.2.2.2.2
    · exact fun h => ⟨by omega, by omega, by omega, by omega, h⟩

end Go.Proofs.YtdgoeibfggjbmaaGreatDoor
namespace Go.Proofs.YtdgoeibfggjbmaaGreatDoor
open Go.RowKit
set_option maxRecDepth 100000
set_option linter.unusedSimpArgs false
set_option linter.unusedVariables false

abbrev u32c (l : List Int) : List Value := l.map (Value.int .u32)
theorem one_u32 (l : List Int) : ∀ v ∈ u32c l, v.oneCell' = true := by
  intro v hv
  obtain ⟨x, _, rfl⟩ := List.mem_map.1 hv
  rfl
structure RdN (w : World) (B : Nat) (A : Option Addr) (n : Nat) (l : List Int) : Prop where
  len : l.length = n
  at_ : 0 < n → ∃ b off, A = some ⟨b, off, none⟩ ∧ b < B ∧ ∀ i, i < n → w.cell? ⟨b, off + i, none⟩ = some (.int .u32 (l.getD i 0))
theorem RdN.nil_ {w : World} {B : Nat} (A : Option Addr) : RdN w B A 0 [] := ⟨rfl, fun h => absurd h (by omega)⟩
theorem RdN.below {w w' : World} {B n : Nat} {A : Option Addr} {l : List Int} (h : RdN w B A n l) (hb : Below B w w') : RdN w' B A n l :=
  ⟨h.len, fun hn => by
    obtain ⟨b, off, e, hlt, hc⟩ := h.at_ hn
    exact ⟨b, off, e, hlt, fun i hi => (hb.cell (p := ⟨b, off + i, none⟩) hlt).trans (hc i hi)⟩⟩
theorem RdN.more {w : World} {B B' n : Nat} {A : Option Addr} {l : List Int} (h : RdN w B A n l) (hb : B ≤ B') : RdN w B' A n l :=
  ⟨h.len, fun hn => by
    obtain ⟨b, off, e, hlt, hc⟩ := h.at_ hn
    exact ⟨b, off, e, by omega, hc⟩⟩
def OwnN (lo : Nat) (w : World) (v : Value) (l : List Int) : Prop := w.ownsRow lo 23 1 v l.length (u32c l)
theorem OwnN.nil_ (lo : Nat) (w : World) : OwnN lo w (.slice none 0 0) [] := World.ownsRow_nil _ _ _ _
theorem OwnN.keep {lo : Nat} {w w' : World} {v : Value} {l : List Int} (h : OwnN lo w v l) (hk : ∀ i c, w.heap[i]? = some (.cells c 23 (0, 0)) → lo ≤ i → w'.heap[i]? = w.heap[i]?) : OwnN lo w' v l := own_keep h fun i c hi hl _ => hk i c hi hl
theorem OwnN.below {lo : Nat} {w w' : World} {v : Value} {l : List Int} (h : OwnN lo w v l) (hb : Below w.heap.size w w') : OwnN lo w' v l := h.keep fun i c hi _ => hb.block i (Array.getElem?_eq_some_iff.1 hi).1
theorem OwnN.low {lo lo' : Nat} {w : World} {v : Value} {l : List Int} (h : OwnN lo w v l) (hl : lo' ≤ lo) : OwnN lo' w v l := own_low h hl
theorem OwnN.grown {lo : Nat} {w w' : World} {v : Value} {l : List Int} {g : Nat} (h : OwnN lo w v l) (hg : w.grownBy w' (some g)) (hne : g < lo) : OwnN lo w' v l :=
  h.keep fun i c hi hl => hg.block i (Array.getElem?_eq_some_iff.1 hi).1 (fun e => by injection e with e; omega)
theorem OwnN.rd {lo : Nat} {w : World} {v : Value} {l : List Int} (h : OwnN lo w v l) : ∃ A c, v = .slice A l.length c ∧ l.length ≤ c ∧ RdN w w.heap.size A l.length l := by
  rcases h.2 with ⟨rfl, hn⟩ | ⟨g, cap, cur, rfl, hb, hg, hnc, hcm, hcs, hx⟩
  · exact ⟨none, 0, by rw [hn], by omega, ⟨rfl, fun hp => by omega⟩⟩
  · refine ⟨_, cap, rfl, hnc, ⟨rfl, fun _ => ⟨g, 0, rfl, (Array.getElem?_eq_some_iff.1 hg).1, fun i hi => ?_⟩⟩⟩
    rw [Nat.zero_add]
    have h1 : (u32c l)[i]? = some (.int .u32 (l.getD i 0)) := by simp [List.getD, hi]
    rw [← hx, List.getElem?_take, if_pos (by omega)] at h1
    simp only [World.cell?, hg]
    rw [← Array.getElem?_toList]
    exact h1
theorem info_u32 : (Tryz.prog.info? 23).map (fun i => (i.zero, i.size, i.bytes)) = some (some (.int .u32 0), 1, 4) := by kernel_rfl
theorem app_n {ops : Array Oper} {rest : List Oper} {o : Oper} {a : Act} {Q : Exit → Act → World → Prop} (hgd : o.guard = none) (s x : Operand)
    (ho : o.op = .call { callee := .builtin .append, args := #[s, x], argTypes := #[22, 22] }) {lo : Nat} {w : World} {v : Value} {l : List Int} (h : OwnN lo w v l) (hlo : lo ≤ w.heap.size) (hlen : l.length ≤ 35184372088000)
    (y : Int) (hs : a.eval s = v) (hx : a.eval x = .slice (some ⟨w.heap.size, 0, none⟩) 1 1)
    (hk : ∀ v' w', OwnN lo w' v' (l ++ [y]) → Below lo w w' → wpList Tryz.prog ops Q rest (a.put o.dst v') w') :
    wpList Tryz.prog ops Q (o :: rest) a (w.alloc (.cells #[.int .u32 y] 23)) := by
  obtain ⟨i, hi, hz0, hz1, hz2⟩ := info_parts info_u32
  have hB := Blk.new w 23 #[.int .u32 y]
  refine wpList_append_own_at _ hgd s x 22 ho lo 23 i _ 1 4 Tryz.underlying22 hi hz0 hz1 hz2 rfl (by decide) v l.length (u32c l) hs (h.alloc _) ⟨w.heap.size, 0, none⟩ 1 1 [.int .u32 y] hx rfl ?_ ?_ (by unfold maxLen; omega) (by omega) (by simp; omega) ?_
  · intro j u hu
    rw [show ((⟨w.heap.size, 0, none⟩ : Addr).add j) = ⟨w.heap.size, j, none⟩ from by unfold Addr.add; split <;> simp_all, hB.cell]
    simpa using hu
  · exact one_u32 [y]
  · intro v' w' hown hgr _ _
    have hg2 : w.grownBy w' v.ownBlock := ⟨hgr.os, hgr.tape, hgr.output, Nat.le_trans (by simp) hgr.size, fun j hj hne => (hgr.block j (by simp; omega) hne).trans (Below.heap_alloc _ _ _ hj)⟩
    refine hk v' w' ?_ ((Below.refl lo w).grown hg2 hlo (fun i e => (h.lt i e).1))
    unfold OwnN
    rw [List.length_append, show u32c (l ++ [y]) = u32c l ++ u32c [y] from List.map_append]
    exact hown

def u8ss (ls : List (List Int)) : List Value := ls.flatMap u8s
def All8 (ls : List (List Int)) : Prop := ∀ l ∈ ls, l.length = 8 ∧ Oct l
theorem All8.nil_ : All8 [] := fun l h => by cases h
theorem All8.app {a b : List (List Int)} (ha : All8 a) (hb : All8 b) : All8 (a ++ b) := fun l h => (List.mem_append.1 h).elim (ha l) (hb l)
theorem All8.at_ {ls : List (List Int)} (h : All8 ls) (i : Nat) (hi : i < ls.length) : ls[i].length = 8 ∧ Oct ls[i] := h _ (List.getElem_mem hi)
theorem u8ss_get : ∀ (ls : List (List Int)), All8 ls → ∀ (i j : Nat) (hi : i < ls.length), j < 8 → (u8ss ls)[i * 8 + j]? = (u8s ls[i])[j]?
  | l :: ls, h, 0, j, hi, hj => by
    have h1 := (h l List.mem_cons_self).1
    unfold u8ss
    rw [List.flatMap_cons, List.getElem?_append_left (by simp [h1]; omega)]
    simp
  | l :: ls, h, i + 1, j, hi, hj => by
    have h1 := (h l List.mem_cons_self).1
    have h2 := u8ss_get ls (fun x hx => h x (List.mem_cons_of_mem _ hx)) i j (by simpa using hi) hj
    unfold u8ss at *
    have hl : (u8s l).length = 8 := by simp [h1]
    rw [List.flatMap_cons, List.getElem?_append_right (by rw [hl]; omega), hl, show (i + 1) * 8 + j - 8 = i * 8 + j by omega, h2]
    simp
theorem u8ss_app (a b : List (List Int)) : u8ss (a ++ b) = u8ss a ++ u8ss b := by simp [u8ss]
structure RdC (w : World) (B : Nat) (A : Option Addr) (n : Nat) (ls : List (List Int)) : Prop where
  len : ls.length = n
  ok : All8 ls
  at_ : 0 < n → ∃ b off, A = some ⟨b, off, none⟩ ∧ b < B ∧ ∀ i (h : i < ls.length), w.rangeAt b (off + i * 8) (u8s ls[i])
theorem RdC.below {w w' : World} {B n : Nat} {A : Option Addr} {ls : List (List Int)} (h : RdC w B A n ls) (hb : Below B w w') : RdC w' B A n ls :=
  ⟨h.len, h.ok, fun hn => by
    obtain ⟨b, off, e, hlt, hc⟩ := h.at_ hn
    exact ⟨b, off, e, hlt, fun i hi => range_below (hc i hi) hb hlt⟩⟩
theorem RdC.more {w : World} {B B' n : Nat} {A : Option Addr} {ls : List (List Int)} (h : RdC w B A n ls) (hb : B ≤ B') : RdC w B' A n ls :=
  ⟨h.len, h.ok, fun hn => by
    obtain ⟨b, off, e, hlt, hc⟩ := h.at_ hn
    exact ⟨b, off, e, Nat.lt_of_lt_of_le hlt hb, hc⟩⟩
structure OwnC (lo : Nat) (w : World) (v : Value) (ls : List (List Int)) : Prop where
  own : w.ownsRow lo 138 8 v ls.length (u8ss ls)
  ok : All8 ls
theorem OwnC.nil_ (lo : Nat) (w : World) : OwnC lo w (.slice none 0 0) [] := ⟨World.ownsRow_nil _ _ _ _, All8.nil_⟩
theorem OwnC.rd {lo : Nat} {w : World} {v : Value} {ls : List (List Int)} (h : OwnC lo w v ls) : ∃ A c, v = .slice A ls.length c ∧ ls.length ≤ c ∧ RdC w w.heap.size A ls.length ls := by
  rcases h.own.2 with ⟨rfl, hn⟩ | ⟨g, cap, cur, rfl, hb, hg, hnc, hcm, hcs, hx⟩
  · exact ⟨none, 0, by rw [hn], by omega, ⟨rfl, h.ok, fun hp => by omega⟩⟩
  · refine ⟨_, cap, rfl, hnc, ⟨rfl, h.ok, fun _ => ⟨g, 0, rfl, (Array.getElem?_eq_some_iff.1 hg).1, fun i hi j u hu => ?_⟩⟩⟩
    have hj : j < 8 := by
      have h1 := (List.getElem?_eq_some_iff.1 hu).1
      rw [u8s, List.length_map, (h.ok.at_ i hi).1] at h1
      exact h1
    have h1 := u8ss_get ls h.ok i j hi hj
    rw [hu, ← hx, List.getElem?_take, if_pos (by omega)] at h1
    rw [Nat.zero_add]
    simp only [World.cell?, hg]
    rw [← Array.getElem?_toList]
    exact h1
theorem OwnC.keep {lo : Nat} {w w' : World} {v : Value} {l : List (List Int)} (h : OwnC lo w v l) (hk : ∀ i c, w.heap[i]? = some (.cells c 138 (0, 0)) → lo ≤ i → w'.heap[i]? = w.heap[i]?) : OwnC lo w' v l := ⟨own_keep h.own fun i c hi hl _ => hk i c hi hl, h.ok⟩
theorem OwnC.below {lo : Nat} {w w' : World} {v : Value} {ls : List (List Int)} (h : OwnC lo w v ls) (hb : Below w.heap.size w w') : OwnC lo w' v ls := h.keep fun i c hi _ => hb.block i (Array.getElem?_eq_some_iff.1 hi).1
theorem OwnC.low {lo lo' : Nat} {w : World} {v : Value} {ls : List (List Int)} (h : OwnC lo w v ls) (hl : lo' ≤ lo) : OwnC lo' w v ls := ⟨own_low h.own hl, h.ok⟩
theorem OwnC.grown {lo : Nat} {w w' : World} {v : Value} {l : List (List Int)} {g : Nat} (h : OwnC lo w v l) (hg : w.grownBy w' (some g)) (hne : g < lo) : OwnC lo w' v l :=
  h.keep fun i c hi hl => hg.block i (Array.getElem?_eq_some_iff.1 hi).1 (fun e => by injection e with e; omega)
theorem fold8 (y : List Int) (hy : y.length = 8) : List.foldl (fun (cs : Array Value) (x : Value × Nat) => cs.setIfInBounds x.snd x.fst) #[Value.int .u8 0, Value.int .u8 0, Value.int .u8 0, Value.int .u8 0, Value.int .u8 0, Value.int .u8 0, Value.int .u8 0, Value.int .u8 0] (u8s y).zipIdx = (u8s y).toArray := by
  obtain ⟨a, b, c, d, e, f, g, h, rfl⟩ : ∃ a b c d e f g h, y = [a, b, c, d, e, f, g, h] := by
    match y, hy with
    | [a, b, c, d, e, f, g, h], _ => exact ⟨a, b, c, d, e, f, g, h, rfl⟩
  clear hy
  kernel_rfl
theorem info_comm : (Tryz.prog.info? 138).map (fun i => (i.zero, i.size, i.bytes)) = some (some (.agg #[.int .u8 0, .int .u8 0, .int .u8 0, .int .u8 0, .int .u8 0, .int .u8 0, .int .u8 0, .int .u8 0]), 8, 8) := by kernel_rfl
theorem comm_size : (Tryz.prog.info? 138).map (·.size) = some 8 := by kernel_rfl
theorem comm_fetch {ops : Array Oper} {rest : List Oper} {op : Oper} {a : Act} {w : World} {Q : Exit → Act → World → Prop} (hw : Region.wanted op (yielded ops a.tmps) = true) (x : Operand) (ho : op.op = .load 138 x)
    (g o : Nat) (l : List Int) (hl : l.length = 8) (hx : a.eval x = .pointer (some ⟨g, o, none⟩)) (hc : w.rangeAt g o (u8s l)) (h : wpList Tryz.prog ops Q rest (a.put op.dst (.agg (u8s l).toArray)) w) : wpList Tryz.prog ops Q (op :: rest) a w :=
  BigFrame.wpList_want hw fun _ hK => wp_load_mid 138 x ho g o hx (u8s l) _ hc Tryz.underlying138 rfl (by rw [comm_size]; simp [hl]) (hK _ _ h)
theorem app_comm {ops : Array Oper} {rest : List Oper} {o : Oper} {a : Act} {Q : Exit → Act → World → Prop} (hgd : o.guard = none) (s x : Operand)
    (ho : o.op = .call { callee := .builtin .append, args := #[s, x], argTypes := #[24, 24] }) {lo : Nat} {w : World} {v : Value} {ls : List (List Int)} (h : OwnC lo w v ls) (hlo : lo ≤ w.heap.size) (hlen : ls.length ≤ 17592186044000)
    (l : List Int) (hl : l.length = 8) (ol : Oct l) (hs : a.eval s = v) (hx : a.eval x = .slice (some ⟨w.heap.size, 0, none⟩) 1 1)
    (hk : ∀ v' w', OwnC lo w' v' (ls ++ [l]) → Below lo w w' → wpList Tryz.prog ops Q rest (a.put o.dst v') w') :
    wpList Tryz.prog ops Q (o :: rest) a (w.alloc (.cells (u8s l).toArray 138)) := by
  obtain ⟨i, hi, hz0, hz1, hz2⟩ := info_parts info_comm
  have hB := Blk.new w 138 (u8s l).toArray
  refine wpList_append_own_at _ hgd s x 24 ho lo 138 i _ 8 8 Tryz.underlying24 hi hz0 hz1 hz2 rfl (by decide) v ls.length (u8ss ls) hs (h.own.alloc _) ⟨w.heap.size, 0, none⟩ 1 1 (u8s l) hx (by simp [hl]) ?_ ?_ (by unfold maxLen; omega) (by omega) (by simp; omega) ?_
  · intro j u hu
    rw [show ((⟨w.heap.size, 0, none⟩ : Addr).add j) = ⟨w.heap.size, j, none⟩ from by unfold Addr.add; split <;> simp_all, hB.cell]
    simpa using hu
  · exact one_u8 l
  · intro v' w' hown hgr _ _
    have hg2 : w.grownBy w' v.ownBlock := ⟨hgr.os, hgr.tape, hgr.output, Nat.le_trans (by simp) hgr.size, fun j hj hne => (hgr.block j (by simp; omega) hne).trans (Below.heap_alloc _ _ _ hj)⟩
    have hbel : Below lo w w' := (Below.refl lo w).grown hg2 hlo (fun i e => (h.own.lt i e).1)
    refine hk v' w' ⟨?_, h.ok.app (fun y hy => by cases List.mem_singleton.1 hy; exact ⟨hl, ol⟩)⟩ hbel
    rw [u8ss_app, show u8ss [l] = u8s l by simp [u8ss]]
    simpa using hown

def nums (l : List Int) : List Int := (List.range (l.length / 4)).map fun i => numOf ((l.drop (4 * i)).take 4)
def cmms (l : List Int) : List (List Int) := (List.range (l.length / 8)).map fun i => (l.drop (8 * i)).take 8
theorem nums_at (l : List Int) (a m : Nat) (hm : m = (l.length - a) / 4) : (List.range m).map (fun i => numOf ((l.drop (a + 4 * i)).take 4)) = nums (l.drop a) := by
  subst hm
  unfold nums
  rw [List.length_drop]
  congr 1
  funext i
  rw [List.drop_drop]
theorem cmms_at (l : List Int) (a m : Nat) (hm : m = (l.length - a) / 8) : (List.range m).map (fun i => (l.drop (a + 8 * i)).take 8) = cmms (l.drop a) := by
  subst hm
  unfold cmms
  rw [List.length_drop]
  congr 1
  funext i
  rw [List.drop_drop]
theorem range_map_succ {α : Type} (f : Nat → α) (m : Nat) : (List.range (m + 1)).map f = (List.range m).map f ++ [f m] := by rw [List.range_succ, List.map_append]; rfl
end Go.Proofs.YtdgoeibfggjbmaaGreatDoor
namespace Go.Proofs.YtdgoeibfggjbmaaGreatDoor
open Go.RowKit
set_option maxRecDepth 100000
set_option linter.unusedSimpArgs false
set_option linter.unusedVariables false

def ReadN (w : World) (g : Nat) (l : List Int) (at_ : Nat) (e : Ending) (w' : World) : Prop := ∃ v, e = .returned v ∧ OwnN w.heap.size w' v (nums (l.drop at_)) ∧ w.grownBy w' (some g)
structure NumRel (w : World) (g : Nat) (l : List Int) (at_ : Nat) (v : Value) (wr : World) (m : Nat) : Prop where
  cur : ∃ er, IsCur wr g l (at_ + 4 * m) er ∧ (er = 0 ∨ l.length < at_ + 4 * m + 4)
  own : OwnN w.heap.size wr v ((List.range m).map fun i => numOf ((l.drop (at_ + 4 * i)).take 4))
  gr : w.grownBy wr (some g)
  sz : w.heap.size ≤ wr.heap.size

set_option maxHeartbeats 1000000 in
theorem readNumbers_is (w : World) (g : Nat) (l : List Int) (at_ : Nat) (err : Int) (h : IsCur w g l at_ err) (hE : err = 0 ∨ l.length < at_ + 4) (ho : Oct l) (hm : l.length ≤ 140737488351232) :
    Calls Tryz.prog 211 #[.pointer (some ⟨g, 0, none⟩)] w (ReadN w g l at_) := by
  have hglt := h.lt
  have HRel0 : Hid (NumRel w g l at_ (.slice none 0 0) w 0) := Lib.hid ⟨⟨err, h, hE⟩, OwnN.nil_ _ _, only_refl w _, Nat.le_refl _⟩
  have HO := Lib.hid ho
  clear h hE ho
  go_enter Tryz.func211, Tryz.ntmps211
  go_wp2
  go_loopw [3] (fun v wr => ∃ m, NumRel w g l at_ v wr m) (fun _ wr => l.length - (intOf ((wr.cell? ⟨g, 1, none⟩).getD (.int .i64 0))).toNat)
  case atStart => exact ⟨0, HRel0.out⟩
  case round =>
    obtain ⟨m, hrel⟩ := hrel
    obtain ⟨⟨er, hc, her⟩, hown, hgr, hsz⟩ := hrel
    have hle := hc.le
    have HC := Lib.hid hc
    have HOw := Lib.hid hown
    have HGr := Lib.hid hgr
    have HM0 : Hid ((wr.cell? ⟨g, 1, none⟩) = some (.int .i64 ((at_ + 4 * m : Nat) : Int))) := Lib.hid (by obtain ⟨_, _, q, _, _⟩ := hc.ex; exact Blk.cell q 1)
    clear hc hown hgr HRel0
    go_wp2_with fail
    refine (leftC_is _ g l _ er HC.out).mono ?_
    rintro e w2 ⟨rfl, k1, rfl⟩
    by_cases hlt : at_ + 4 * m + 4 ≤ l.length
    · have hp : (4 : Int) ≤ (l.length : Int) - ((at_ + 4 * m : Nat) : Int) := by omega
      obtain rfl : er = 0 := her.resolve_right (by omega)
      obtain ⟨n1, n2, n3⟩ := num_ok' l (at_ + 4 * m) 4 (by omega) (by omega) hlt
      have HK := Lib.hid (num_is _ g l (at_ + 4 * m) 0 ((4 : Nat) : Int) (HC.out.drewN k1))
      unfold Numd at HK
      rw [n1, n2, n3] at HK
      have hbd := numOf_bd ((l.drop (at_ + 4 * m)).take 4) (fun x hx => HO.out x (List.mem_of_mem_drop (List.mem_of_mem_take hx)))
      have hln : ((l.drop (at_ + 4 * m)).take 4).length = 4 := by simp; omega
      rw [hln] at hbd
      have HX : Hid ((List.range (m + 1)).map (fun i => numOf ((l.drop (at_ + 4 * i)).take 4)) = (List.range m).map (fun i => numOf ((l.drop (at_ + 4 * i)).take 4)) ++ [numOf ((l.drop (at_ + 4 * m)).take 4)]) := Lib.hid (range_map_succ _ m)
      have hmle : m ≤ 35184372088000 := by omega
      have HLn : Hid (((List.range m).map fun i => numOf ((l.drop (at_ + 4 * i)).take 4)).length ≤ 35184372088000) := Lib.hid (by simpa using hmle)
      generalize numOf ((l.drop (at_ + 4 * m)).take 4) = x at *
      generalize (List.range m).map (fun i => numOf ((l.drop (at_ + 4 * i)).take 4)) = xs at *
      have hx1 : x < 4294967296 := by omega
      have hw1 : IntKind.u32.wrap x = x := by rw [IntKind.wrap_u32]; omega
      have hw2 : x % 4294967296 = x := by omega
      clear n1 n2 n3 hln hbd
      go_wp2_with fail
      refine HK.out.mono ?_
      rintro e w3 ⟨rfl, hc3, hg3⟩
      have hO3 : OwnN w.heap.size w3 u3 xs := (HOw.out.below (below_drewN (Below.refl _ _) k1)).grown hg3 hglt
      have hG3 : w.grownBy w3 (some g) := only_trans (only_drewN HGr.out k1) hg3
      have hs3 : wr.heap.size ≤ w3.heap.size := hg3.size
      have HO3 := Lib.hid hO3
      have HG3 := Lib.hid hG3
      have HC3 := Lib.hid hc3
      have hz3 : w.heap.size ≤ w3.heap.size := by omega
      clear hc3 hg3 hO3 hG3 HK HOw HGr HC
      go_wp2_with (at_builtin; refine app_n rfl _ _ rfl HO3.out hz3 HLn.out x rfl rfl ?_)
      intro v' w4 ho4 hb4
      have HR4 : Hid (NumRel w g l at_ v' w4 (m + 1)) := Lib.hid ⟨⟨0, by rw [show at_ + 4 * (m + 1) = at_ + 4 * m + 4 by omega]; exact HC3.out.keep (hb4.mono hglt), .inl rfl⟩, by rw [HX.out]; exact ho4, ⟨hb4.os.trans HG3.out.os, hb4.tape.trans HG3.out.tape, hb4.output.trans HG3.out.output, Nat.le_trans HG3.out.size hb4.size, fun i hi hne => (hb4.block i hi).trans (HG3.out.block i hi hne)⟩, Nat.le_trans hz3 hb4.size⟩
      clear ho4 hb4
      go_wp2
      refine ⟨⟨m + 1, HR4.out⟩, ?_⟩
      have hM6 : w4.cell? ⟨g, 1, none⟩ = some (.int .i64 ((at_ + 4 * (m + 1) : Nat) : Int)) := by obtain ⟨_, h, _⟩ := HR4.out.cur; obtain ⟨_, _, q, _, _⟩ := h.ex; exact Blk.cell q 1
      rw [HM0.out, hM6]
      simp [intOf]
      omega
    · have hp : ¬ (4 : Int) ≤ (l.length : Int) - ((at_ + 4 * m : Nat) : Int) := by omega
      have HN := Lib.hid (nums_at l at_ m (by omega))
      go_wp2
      go_ret
      exact ⟨_, rfl, by rw [← HN.out]; exact HOw.out.below (below_drewN (Below.refl _ _) k1), only_drewN HGr.out k1⟩

def ReadC (w : World) (g : Nat) (l : List Int) (at_ : Nat) (e : Ending) (w' : World) : Prop := ∃ v, e = .returned v ∧ OwnC w.heap.size w' v (cmms (l.drop at_)) ∧ w.grownBy w' (some g)
structure ComRel (w : World) (g : Nat) (l : List Int) (at_ : Nat) (v : Value) (wr : World) (m : Nat) : Prop where
  cur : IsCur wr g l (at_ + 8 * m) 0
  own : OwnC w.heap.size wr v ((List.range m).map fun i => (l.drop (at_ + 8 * i)).take 8)
  gr : w.grownBy wr (some g)
  sz : w.heap.size ≤ wr.heap.size
theorem took_ok (l : List Int) (a k : Nat) (h : a + k ≤ l.length) : stepTook l a 0 k = (l.drop a).take k ∧ stepAt l a 0 k = a + k ∧ stepErr l a 0 k = 0 := by
  refine ⟨?_, ?_, ?_⟩
  · unfold stepTook; rw [if_pos (by omega)]; rfl
  · unfold stepAt; rw [if_pos (by omega)]; rfl
  · unfold stepErr; rw [if_pos rfl, if_neg (by omega), if_neg (by omega)]

set_option maxHeartbeats 1000000 in
theorem readComms_is (w : World) (g : Nat) (l : List Int) (at_ : Nat) (h : IsCur w g l at_ 0) (ho : Oct l) (hm : l.length ≤ 140737488351232) :
    Calls Tryz.prog 212 #[.pointer (some ⟨g, 0, none⟩)] w (ReadC w g l at_) := by
  have hglt := h.lt
  have HRel0 : Hid (ComRel w g l at_ (.slice none 0 0) w 0) := Lib.hid ⟨h, OwnC.nil_ _ _, only_refl w _, Nat.le_refl _⟩
  have HO := Lib.hid ho
  clear h ho
  go_enter Tryz.func212, Tryz.ntmps212
  go_wp2
  go_loopw [3] (fun v wr => ∃ m, ComRel w g l at_ v wr m) (fun _ wr => l.length - (intOf ((wr.cell? ⟨g, 1, none⟩).getD (.int .i64 0))).toNat)
  case atStart => exact ⟨0, HRel0.out⟩
  case round =>
    obtain ⟨m, hrel⟩ := hrel
    obtain ⟨hc, hown, hgr, hsz⟩ := hrel
    have hle := hc.le
    have HC := Lib.hid hc
    have HOw := Lib.hid hown
    have HGr := Lib.hid hgr
    have HM0 : Hid ((wr.cell? ⟨g, 1, none⟩) = some (.int .i64 ((at_ + 8 * m : Nat) : Int))) := Lib.hid (by obtain ⟨_, _, q, _, _⟩ := hc.ex; exact Blk.cell q 1)
    clear hc hown hgr HRel0
    go_wp2_with fail
    refine (leftC_is _ g l _ 0 HC.out).mono ?_
    rintro e w2 ⟨rfl, k1, rfl⟩
    by_cases hlt : at_ + 8 * m + 8 ≤ l.length
    · have hp : (8 : Int) ≤ (l.length : Int) - ((at_ + 8 * m : Nat) : Int) := by omega
      obtain ⟨n1, n2, n3⟩ := took_ok l (at_ + 8 * m) 8 hlt
      have HK := Lib.hid (take_is _ g l (at_ + 8 * m) 0 ((8 : Nat) : Int) (HC.out.drewN k1))
      unfold Took at HK
      rw [n1, n2, n3] at HK
      have hln : ((l.drop (at_ + 8 * m)).take 8).length = 8 := by simp; omega
      rw [hln] at HK
      have hox : Oct ((l.drop (at_ + 8 * m)).take 8) := fun x hx => HO.out x (List.mem_of_mem_drop (List.mem_of_mem_take hx))
      have HX : Hid ((List.range (m + 1)).map (fun i => (l.drop (at_ + 8 * i)).take 8) = (List.range m).map (fun i => (l.drop (at_ + 8 * i)).take 8) ++ [(l.drop (at_ + 8 * m)).take 8]) := Lib.hid (range_map_succ _ m)
      have hmle : m ≤ 17592186044000 := by omega
      have HLn : Hid (((List.range m).map fun i => (l.drop (at_ + 8 * i)).take 8).length ≤ 17592186044000) := Lib.hid (by simpa using hmle)
      generalize (l.drop (at_ + 8 * m)).take 8 = x at *
      generalize (List.range m).map (fun i => (l.drop (at_ + 8 * i)).take 8) = xs at *
      have hf8 := fold8 x hln
      have HL8 := Lib.hid hln
      have HOx := Lib.hid hox
      clear n1 n2 n3 hln hox
      go_wp2_with fail
      refine HK.out.mono ?_
      rintro e w3 ⟨A3, rfl, hn3, hc3, hg3⟩
      have hO3 : OwnC w.heap.size w3 u3 xs := (HOw.out.below (below_drewN (Below.refl _ _) k1)).grown hg3 hglt
      have hG3 : w.grownBy w3 (some g) := only_trans (only_drewN HGr.out k1) hg3
      have hs3 : wr.heap.size ≤ w3.heap.size := hg3.size
      have HO3 := Lib.hid hO3
      have HG3 := Lib.hid hG3
      have HC3 := Lib.hid hc3
      have hz3 : w.heap.size ≤ w3.heap.size := by omega
      obtain ⟨_, _, hbad | ⟨j, rfl, hj, hby⟩⟩ := hn3
      · omega
      have HRg : Hid (w3.rangeAt j 0 (u8s x)) := Lib.hid (Blk.range hby)
      have hAt := run_arrayAt (P := Tryz.prog) (w := w3) 138 5 8 (some ⟨j, 0, none⟩) 8 8 Tryz.underlying138 (Nat.le_refl _)
      clear hc3 hg3 hO3 hG3 HK HOw HGr HC hby
      go_wp2_with (first
        | (refine comm_fetch rfl _ rfl j 0 x HL8.out rfl HRg.out ?_)
        | (at_builtin; refine app_comm rfl _ _ rfl HO3.out hz3 HLn.out x HL8.out HOx.out rfl rfl ?_))
      intro v' w4 ho4 hb4
      have HR4 : Hid (ComRel w g l at_ v' w4 (m + 1)) := Lib.hid ⟨by rw [show at_ + 8 * (m + 1) = at_ + 8 * m + 8 by omega]; exact HC3.out.keep (hb4.mono hglt), by rw [HX.out]; exact ho4, ⟨hb4.os.trans HG3.out.os, hb4.tape.trans HG3.out.tape, hb4.output.trans HG3.out.output, Nat.le_trans HG3.out.size hb4.size, fun i hi hne => (hb4.block i hi).trans (HG3.out.block i hi hne)⟩, Nat.le_trans hz3 hb4.size⟩
      clear ho4 hb4
      go_wp2
      refine ⟨⟨m + 1, HR4.out⟩, ?_⟩
      have hM6 : w4.cell? ⟨g, 1, none⟩ = some (.int .i64 ((at_ + 8 * (m + 1) : Nat) : Int)) := by obtain ⟨_, _, q, _, _⟩ := HR4.out.cur.ex; exact Blk.cell q 1
      rw [HM0.out, hM6]
      simp [intOf]
      omega
    · have hp : ¬ (8 : Int) ≤ (l.length : Int) - ((at_ + 8 * m : Nat) : Int) := by omega
      have HN := Lib.hid (cmms_at l at_ m (by omega))
      go_wp2
      go_ret
      exact ⟨_, rfl, by rw [← HN.out]; exact HOw.out.below (below_drewN (Below.refl _ _) k1), only_drewN HGr.out k1⟩
end Go.Proofs.YtdgoeibfggjbmaaGreatDoor
namespace Go.Proofs.YtdgoeibfggjbmaaGreatDoor
open Go.RowKit
set_option maxRecDepth 100000
set_option linter.unusedSimpArgs false
set_option linter.unusedVariables false

theorem ipsz : (Tryz.prog.info? 27).map (·.size) = some 17 := by kernel_rfl
theorem arrsz : (Tryz.prog.info? 25).map (·.size) = some 16 := by kernel_rfl
theorem one_ipc (v6 : Bool) (l : List Int) : ∀ v ∈ ipc v6 l, v.oneCell' = true := by
  intro v hv
  rcases List.mem_cons.1 hv with rfl | hv
  · rfl
  · exact one_u8 l v hv
theorem ip_store5 {ops : Array Oper} {rest : List Oper} {o : Oper} {a : Act} {w : World} {Q : Exit → Act → World → Prop} (hgd : o.guard = none) (x y : Operand) (ho : o.op = .store 27 x y) (g : Nat) (v6 : Bool) (l : List Int) (hl : l.length = 16)
    (hx : a.eval x = .pointer (some ⟨g, 0, none⟩)) (hy : a.eval y = .agg (ipc v6 l).toArray) (t : TypeId) (old : Array Value) (hg : Blk w g t old) (hold : old.size = 17)
    (h : wpList Tryz.prog ops Q rest (a.put o.dst undef) (w.setRow g (ipc v6 l).toArray)) : wpList Tryz.prog ops Q (o :: rest) a w :=
  wpList_store_row hgd 27 x y ho g _ hx hy t old hg (by rw [ipsz]; simp [hl]) (by rw [hold]; simp [hl]) (all_oneCell_toArray (one_ipc v6 l)) h
theorem arr_fetch {ops : Array Oper} {rest : List Oper} {op : Oper} {a : Act} {w : World} {Q : Exit → Act → World → Prop} (hw : Region.wanted op (yielded ops a.tmps) = true) (x : Operand) (ho : op.op = .load 25 x)
    (g o : Nat) (l : List Int) (hl : l.length = 16) (hx : a.eval x = .pointer (some ⟨g, o, none⟩)) (hc : w.rangeAt g o (u8s l)) (h : wpList Tryz.prog ops Q rest (a.put op.dst (.agg (u8s l).toArray)) w) : wpList Tryz.prog ops Q (op :: rest) a w :=
  BigFrame.wpList_want hw fun _ hK => wp_load_mid 25 x ho g o hx (u8s l) _ hc Tryz.underlying25 rfl (by rw [arrsz]; simp [hl]) (hK _ _ h)

def ipOf (v : List Int) : Bool × List Int := if v.length = 4 then (false, v ++ List.replicate 12 0) else (true, v)
theorem four_back (x : List Int) (hx : x.length = 4) (ho : Oct x) : four (numOf x) = x ++ List.replicate 12 0 := by
  match x, hx with
  | [a, b, c, d], _ =>
    have ha := ho a (by simp)
    have hb := ho b (by simp)
    have hc := ho c (by simp)
    have hd := ho d (by simp)
    have e : numOf [a, b, c, d] = ((a * 256 + b) * 256 + c) * 256 + d := by simp [numOf]
    rw [e]
    unfold four
    congr 1
    simp only [List.cons.injEq, and_true]
    omega
theorem built_ip16 (b0 b1 b2 b3 b4 b5 b6 b7 b8 b9 b10 b11 b12 b13 b14 b15 : Int) : Tryz.prog.built 27 [(0, .bool true), (1, .agg (u8s [b0, b1, b2, b3, b4, b5, b6, b7, b8, b9, b10, b11, b12, b13, b14, b15]).toArray)] = some (ipc true [b0, b1, b2, b3, b4, b5, b6, b7, b8, b9, b10, b11, b12, b13, b14, b15]).toArray := by kernel_rfl
theorem built_ip (l : List Int) (hl : l.length = 16) : Tryz.prog.built 27 [(0, .bool true), (1, .agg (u8s l).toArray)] = some (ipc true l).toArray := by
  match l, hl with
  | [b0, b1, b2, b3, b4, b5, b6, b7, b8, b9, b10, b11, b12, b13, b14, b15], _ => exact built_ip16 b0 b1 b2 b3 b4 b5 b6 b7 b8 b9 b10 b11 b12 b13 b14 b15
theorem ip_build {ops : Array Oper} {rest : List Oper} {o : Oper} {a : Act} {w : World} {Q : Exit → Act → World → Prop} (hg : o.guard = none) (x y : Operand) (ho : o.op = .build 27 #[(0, x), (1, y)]) (l : List Int) (hl : l.length = 16)
    (hx : a.eval x = .bool true) (hy : a.eval y = .agg (u8s l).toArray) (h : wpList Tryz.prog ops Q rest (a.put o.dst (.agg (ipc true l).toArray)) w) : wpList Tryz.prog ops Q (o :: rest) a w := by
  have hb := built_ip l hl
  have he : (#[(0, x), (1, y)].map fun (i, x) => (i, a.eval x)).toList = [(0, .bool true), (1, .agg (u8s l).toArray)] := by simp [hx, hy]
  refine wpList_build hg 27 _ ho (by rw [he, hb]; rfl) ?_
  rw [he, hb]
  exact h
def ReadI (w : World) (g : Nat) (l : List Int) (at_ : Nat) (e : Ending) (w' : World) : Prop := e = .returned (.agg (ipc (ipOf (l.drop at_)).1 (ipOf (l.drop at_)).2).toArray) ∧ w.grownBy w' (some g)
set_option maxHeartbeats 1000000 in
theorem readIp_is (w : World) (g : Nat) (l : List Int) (at_ : Nat) (h : IsCur w g l at_ 0) (ho : Oct l) (hl : l.length = at_ + 4 ∨ l.length = at_ + 16) :
    Calls Tryz.prog 230 #[.pointer (some ⟨g, 0, none⟩)] w (ReadI w g l at_) := by
  have hglt := h.lt
  have HB0 : Hid (Below w.heap.size w (w.alloc (.cells #[Value.bool false, .int .u8 0, .int .u8 0, .int .u8 0, .int .u8 0, .int .u8 0, .int .u8 0, .int .u8 0, .int .u8 0, .int .u8 0, .int .u8 0, .int .u8 0, .int .u8 0, .int .u8 0, .int .u8 0, .int .u8 0, .int .u8 0] 27))) := Lib.hid ((Below.refl _ _).alloc (Nat.le_refl _) _)
  have HC := Lib.hid (h.keep (HB0.out.mono hglt))
  have HN := Lib.hid (Blk.new w 27 #[Value.bool false, .int .u8 0, .int .u8 0, .int .u8 0, .int .u8 0, .int .u8 0, .int .u8 0, .int .u8 0, .int .u8 0, .int .u8 0, .int .u8 0, .int .u8 0, .int .u8 0, .int .u8 0, .int .u8 0, .int .u8 0, .int .u8 0])
  clear h
  go_enter Tryz.func230, Tryz.ntmps230
  go_wp2_with fail
  refine (leftC_is _ g l _ 0 HC.out).mono ?_
  generalize (w.alloc (.cells #[Value.bool false, .int .u8 0, .int .u8 0, .int .u8 0, .int .u8 0, .int .u8 0, .int .u8 0, .int .u8 0, .int .u8 0, .int .u8 0, .int .u8 0, .int .u8 0, .int .u8 0, .int .u8 0, .int .u8 0, .int .u8 0, .int .u8 0] 27)) = w0 at *
  rintro e w2 ⟨rfl, k1, rfl⟩
  have HG0 : Hid (w.grownBy (w0.drewN k1) (some g)) := Lib.hid (only_drewN (only_of_below HB0.out _) k1)
  have HN1 : Hid (Blk (w0.drewN k1) w.heap.size 27 #[Value.bool false, .int .u8 0, .int .u8 0, .int .u8 0, .int .u8 0, .int .u8 0, .int .u8 0, .int .u8 0, .int .u8 0, .int .u8 0, .int .u8 0, .int .u8 0, .int .u8 0, .int .u8 0, .int .u8 0, .int .u8 0, .int .u8 0]) := Lib.hid HN.out
  have HC1 := Lib.hid (HC.out.drewN k1)
  generalize w0.drewN k1 = w1 at *
  clear HC HN HB0
  rcases hl with hl | hl
  · have e4 : ((l.length : Int) - (at_ : Int) == 4) = true := by rw [beq_iff_eq]; omega
    have hok : at_ + 4 ≤ l.length := by omega
    have hD : (l.drop at_).take 4 = l.drop at_ := List.take_of_length_le (by rw [List.length_drop]; omega)
    obtain ⟨n1, n2, n3⟩ := num_ok' l at_ 4 (by omega) (by omega) hok
    have HK := Lib.hid (num_is _ g l at_ 0 ((4 : Nat) : Int) HC1.out)
    unfold Numd at HK
    rw [n1, n2, n3, hD] at HK
    have hln : (l.drop at_).length = 4 := by rw [List.length_drop]; omega
    have hox : Oct (l.drop at_) := fun x hx => ho x (List.mem_of_mem_drop hx)
    have hbd := numOf_bd _ hox
    rw [hln] at hbd
    have HF := Lib.hid (four_back _ hln hox)
    have HI : Hid (ipOf (l.drop at_) = (false, l.drop at_ ++ List.replicate 12 0)) := Lib.hid (by unfold ipOf; rw [if_pos hln])
    have H4 := Lib.hid (four_len (numOf (l.drop at_)))
    have HFin : Hid (∀ w', w.grownBy w' (some g) → ReadI w g l at_ (.returned (.agg (ipc false (four (numOf (l.drop at_)))).toArray)) w') := Lib.hid fun w' h => ⟨by rw [HF.out, HI.out], h⟩
    generalize l.drop at_ = xs at *
    generalize numOf xs = x at *
    have hx1 : x < 4294967296 := by omega
    have hw1 : IntKind.u32.wrap x = x := by rw [IntKind.wrap_u32]; omega
    have hw2 : x % 4294967296 = x := by omega
    clear n1 n2 n3 hD hln hox hl hok ho HI
    go_wp2_with fail
    refine HK.out.mono ?_
    rintro e w3 ⟨rfl, hc3, hg3⟩
    have HN3 := Lib.hid (HN1.out.grown hg3 (fun e => by injection e; omega))
    have HG3 := Lib.hid (only_trans HG0.out hg3)
    clear hc3 hg3 HK HN1 HG0 HC1
    go_wp2_with fail
    refine (four_is _ x hbd.1 hx1).mono ?_
    rintro e w4 ⟨rfl, hb4⟩
    have HN4 := Lib.hid (HN3.out.below hb4 HN3.out.lt)
    have HG4 : Hid (w.grownBy w4 (some g)) := Lib.hid (only_trans HG3.out (only_of_below hb4 _))
    clear hb4 HN3 HG3
    go_wp2_with (refine ip_store5 rfl _ _ rfl w.heap.size false (four x) H4.out rfl rfl 27 _ HN4.out rfl ?_)
    try simp only [Exit.inBlock, Exit.then]
    refine bodyPost_ret (results_cell_row rfl _ _ w.heap.size 27 _ (0, 0) _ rfl (Blk.setRow HN4.out _) Tryz.underlying27 rfl (by rw [ipsz]; simp [H4.out])) rfl ?_
    exact HFin.out _ ⟨HG4.out.os, HG4.out.tape, HG4.out.output, by rw [size_setRow]; exact HG4.out.size, fun i hi hne => (setRow_other w4 w.heap.size i _ (by omega)).trans (HG4.out.block i hi hne)⟩
  · have e4 : ((l.length : Int) - (at_ : Int) == 4) = false := by rw [beq_eq_false_iff_ne]; omega
    have hok : at_ + 16 ≤ l.length := by omega
    have hD : (l.drop at_).take 16 = l.drop at_ := List.take_of_length_le (by rw [List.length_drop]; omega)
    obtain ⟨n1, n2, n3⟩ := took_ok l at_ 16 hok
    have HK := Lib.hid (take_is _ g l at_ 0 ((16 : Nat) : Int) HC1.out)
    unfold Took at HK
    rw [n1, n2, n3, hD] at HK
    have hln : (l.drop at_).length = 16 := by rw [List.length_drop]; omega
    rw [hln] at HK
    have HI : Hid (ipOf (l.drop at_) = (true, l.drop at_)) := Lib.hid (by unfold ipOf; rw [if_neg (by omega)])
    have HFin : Hid (∀ w', w.grownBy w' (some g) → ReadI w g l at_ (.returned (.agg (ipc true (l.drop at_)).toArray)) w') := Lib.hid fun w' h => ⟨by rw [HI.out], h⟩
    generalize l.drop at_ = xs at *
    have H16 := Lib.hid hln
    clear n1 n2 n3 hD hl hok ho HI
    go_wp2_with fail
    refine HK.out.mono ?_
    rintro e w3 ⟨A3, rfl, hn3, hc3, hg3⟩
    have HN3 := Lib.hid (HN1.out.grown hg3 (fun e => by injection e; omega))
    have HG3 := Lib.hid (only_trans HG0.out hg3)
    obtain ⟨_, _, hbad | ⟨j, rfl, hj, hby⟩⟩ := hn3
    · omega
    have HRg : Hid (w3.rangeAt j 0 (u8s xs)) := Lib.hid (Blk.range hby)
    have hAt := run_arrayAt (P := Tryz.prog) (w := w3) 25 5 16 (some ⟨j, 0, none⟩) 16 16 Tryz.underlying25 (Nat.le_refl _)
    clear hc3 hg3 HK HN1 HG0 HC1 hby hln
    go_wp2_with (first
      | (refine arr_fetch rfl _ rfl j 0 xs H16.out rfl HRg.out ?_)
      | (refine ip_build rfl _ _ rfl xs H16.out rfl rfl ?_)
      | (refine ip_store5 rfl _ _ rfl w.heap.size true xs H16.out rfl rfl 27 _ HN3.out rfl ?_))
    try simp only [Exit.inBlock, Exit.then]
    refine bodyPost_ret (results_cell_row rfl _ _ w.heap.size 27 _ (0, 0) _ rfl (Blk.setRow HN3.out _) Tryz.underlying27 rfl (by rw [ipsz]; simp [H16.out])) rfl ?_
    exact HFin.out _ ⟨HG3.out.os, HG3.out.tape, HG3.out.output, by rw [size_setRow]; exact HG3.out.size, fun i hi hne => (setRow_other w3 w.heap.size i _ (by omega)).trans (HG3.out.block i hi hne)⟩
end Go.Proofs.YtdgoeibfggjbmaaGreatDoor
namespace Go.Proofs.YtdgoeibfggjbmaaGreatDoor
open Go.RowKit
set_option maxRecDepth 100000
set_option linter.unusedSimpArgs false
set_option linter.unusedVariables false

theorem only_setCells {a : World} {g g' : Nat} (hp : g' = g ∨ a.heap.size ≤ g') : ∀ (vs : List Value) (o : Nat) (w : World), a.grownBy w (some g) → a.grownBy (w.setCells g' o vs) (some g)
  | [], o, w, h => h
  | v :: r, o, w, h => only_setCells hp r (o + 1) _ (only_setCell h (p := ⟨g', o, none⟩) hp v)
theorem range_app {w : World} {b o : Nat} {xs ys : List Value} (h1 : w.rangeAt b o xs) (h2 : w.rangeAt b (o + xs.length) ys) : w.rangeAt b o (xs ++ ys) := fun j v hv => by
  rcases Nat.lt_or_ge j xs.length with h | h
  · rw [List.getElem?_append_left h] at hv; exact h1 j v hv
  · rw [List.getElem?_append_right h] at hv
    have := h2 _ v hv
    rwa [show o + xs.length + (j - xs.length) = o + j by omega] at this
theorem Blk.there {w : World} {g : Nat} {t : TypeId} {cs : Array Value} (h : Blk w g t cs) (o n : Nat) (hn : o + n ≤ cs.size) : w.there g o n := fun j hj => by
  refine ⟨?_, h.frozen _⟩
  rw [h.cell, Array.getElem?_eq_getElem (by omega)]
  rfl

structure Pm where
  kind : Int
  label : Int
  v6 : Bool
  ip : List Int
def z16 : List Int := List.replicate 16 0
def Pm.zero : Pm := ⟨0, 0, false, z16⟩
def pmc (p : Pm) : List Value := .int .i64 p.kind :: .int .u32 p.label :: ipc p.v6 p.ip
theorem pmc_len (p : Pm) (h : p.ip.length = 16) : (pmc p).length = 19 := by simp [pmc, h]
theorem one_pmc (p : Pm) : ∀ v ∈ pmc p, v.oneCell' = true := by
  intro v hv
  rcases List.mem_cons.1 hv with rfl | hv
  · rfl
  · rcases List.mem_cons.1 hv with rfl | hv
    · rfl
    · exact one_ipc _ _ v hv
theorem z16_len : z16.length = 16 := by simp [z16]
theorem z16_oct : Oct z16 := by
  intro x hx
  have := List.eq_of_mem_replicate hx
  omega
def pmOf (v : List Int) : Pm :=
  if v.getD 1 0 = 0 then Pm.zero else if v.getD 1 0 = 6 then ⟨6, numOf ((v.drop 2).take 3), (ipOf (v.drop 5)).1, (ipOf (v.drop 5)).2⟩ else ⟨v.getD 1 0, numOf ((v.drop 2).take 3), false, z16⟩
theorem pmsz : (Tryz.prog.info? 29).map (·.size) = some 19 := by kernel_rfl
theorem pm_store {ops : Array Oper} {rest : List Oper} {o : Oper} {a : Act} {w : World} {Q : Exit → Act → World → Prop} (hgd : o.guard = none) (x y : Operand) (ho : o.op = .store 29 x y) (g : Nat) (p : Pm) (hl : p.ip.length = 16)
    (hx : a.eval x = .pointer (some ⟨g, 0, none⟩)) (hy : a.eval y = .agg (pmc p).toArray) (t : TypeId) (old : Array Value) (hg : Blk w g t old) (hold : old.size = 19)
    (h : wpList Tryz.prog ops Q rest (a.put o.dst undef) (w.setRow g (pmc p).toArray)) : wpList Tryz.prog ops Q (o :: rest) a w :=
  wpList_store_row hgd 29 x y ho g _ hx hy t old hg (by rw [pmsz]; simp [pmc_len p hl]) (by rw [hold]; simp [pmc_len p hl]) (all_oneCell_toArray (one_pmc p)) h
theorem pm_fetch {ops : Array Oper} {rest : List Oper} {op : Oper} {a : Act} {w : World} {Q : Exit → Act → World → Prop} (hw : Region.wanted op (yielded ops a.tmps) = true) (x : Operand) (ho : op.op = .load 29 x)
    (g o : Nat) (p : Pm) (hl : p.ip.length = 16) (hx : a.eval x = .pointer (some ⟨g, o, none⟩)) (hc : w.rangeAt g o (pmc p)) (h : wpList Tryz.prog ops Q rest (a.put op.dst (.agg (pmc p).toArray)) w) : wpList Tryz.prog ops Q (op :: rest) a w :=
  BigFrame.wpList_want hw fun _ hK => wp_load_mid 29 x ho g o hx (pmc p) _ hc Tryz.underlying29 rfl (by rw [pmsz, pmc_len p hl]) (hK _ _ h)
theorem built_pm (k l : Int) : Tryz.prog.built 29 [(0, .int .i64 k), (1, .int .u32 l)] = some (pmc ⟨k, l, false, z16⟩).toArray := by kernel_rfl
theorem built_pm0 : Tryz.prog.built 29 [] = some (pmc Pm.zero).toArray := by kernel_rfl
theorem pm_build {ops : Array Oper} {rest : List Oper} {o : Oper} {a : Act} {w : World} {Q : Exit → Act → World → Prop} (hg : o.guard = none) (x y : Operand) (ho : o.op = .build 29 #[(0, x), (1, y)]) (k l : Int)
    (hx : a.eval x = .int .i64 k) (hy : a.eval y = .int .u32 l) (h : wpList Tryz.prog ops Q rest (a.put o.dst (.agg (pmc ⟨k, l, false, z16⟩).toArray)) w) : wpList Tryz.prog ops Q (o :: rest) a w := by
  have hb := built_pm k l
  have he : (#[(0, x), (1, y)].map fun (i, x) => (i, a.eval x)).toList = [(0, .int .i64 k), (1, .int .u32 l)] := by simp [hx, hy]
  refine wpList_build hg 29 _ ho (by rw [he, hb]; rfl) ?_
  rw [he, hb]
  exact h
theorem pm_build0 {ops : Array Oper} {rest : List Oper} {o : Oper} {a : Act} {w : World} {Q : Exit → Act → World → Prop} (hg : o.guard = none) (ho : o.op = .build 29 #[]) 
    (h : wpList Tryz.prog ops Q rest (a.put o.dst (.agg (pmc Pm.zero).toArray)) w) : wpList Tryz.prog ops Q (o :: rest) a w := by
  have hb := built_pm0
  have he : ((#[] : Array (Nat × Operand)).map fun (i, x) => (i, a.eval x)).toList = [] := by simp
  refine wpList_build hg 29 _ ho (by rw [he, hb]; rfl) ?_
  rw [he, hb]
  exact h
theorem ip_mid {ops : Array Oper} {rest : List Oper} {o : Oper} {a : Act} {w : World} {Q : Exit → Act → World → Prop} (hgd : o.guard = none) (x y : Operand) (ho : o.op = .store 27 x y) (g off : Nat) (v6 : Bool) (l : List Int) (hl : l.length = 16)
    (hx : a.eval x = .pointer (some ⟨g, off, none⟩)) (hy : a.eval y = .agg (ipc v6 l).toArray) (ht : w.there g off 17)
    (h : wpList Tryz.prog ops Q rest (a.put o.dst undef) (w.setCells g off (ipc v6 l))) : wpList Tryz.prog ops Q (o :: rest) a w :=
  wpList_store_mid hgd 27 x y ho g off (ipc v6 l).toArray hx hy (by simpa [hl] using ht) (by rw [ipsz]; simp [hl]) (all_oneCell_toArray (one_ipc v6 l)) h
theorem grown_setRow {a w : World} {g g' : Nat} (h : a.grownBy w (some g)) (hp : a.heap.size ≤ g') (cs : Array Value) : a.grownBy (w.setRow g' cs) (some g) :=
  ⟨h.os, h.tape, h.output, by rw [size_setRow]; exact h.size, fun i hi hne => (setRow_other w g' i _ (by omega)).trans (h.block i hi hne)⟩
theorem Blk.row_other {w : World} {g g' : Nat} {t : TypeId} {cs : Array Value} (h : Blk w g t cs) (hne : g ≠ g') (ds : Array Value) : Blk (w.setRow g' ds) g t cs := (setRow_other w g' g _ hne).trans h

def ReadP (w : World) (g : Nat) (l : List Int) (e : Ending) (w' : World) : Prop := e = .returned (.agg (pmc (pmOf l)).toArray) ∧ w.grownBy w' (some g)
theorem ipOf_len {v : List Int} (h : v.length = 4 ∨ v.length = 16) : (ipOf v).2.length = 16 := by
  unfold ipOf
  rcases h with h | h
  · rw [if_pos h]; simp [h]
  · rw [if_neg (by omega)]; exact h
theorem pmOf_len {l : List Int} (h : okPmsi l = true) : (pmOf l).ip.length = 16 := by
  unfold pmOf
  split
  · rfl
  · split
    · rename_i h1 h6
      refine ipOf_len ?_
      unfold okPmsi at h
      rw [h6] at h
      simp at h
      rw [List.length_drop]
      omega
    · rfl

set_option maxHeartbeats 2000000 in
theorem readPmsi_is (w : World) (g : Nat) (l : List Int) (h : IsCur w g l 0 0) (ho : Oct l) (hok : okPmsi l = true) :
    Calls Tryz.prog 213 #[.pointer (some ⟨g, 0, none⟩)] w (ReadP w g l) := by
  have hglt := h.lt
  have h5 : 5 ≤ l.length := by unfold okPmsi at hok; simp at hok; omega
  have h69 : l.getD 1 0 = 6 → l.length = 9 ∨ l.length = 21 := by intro h6; unfold okPmsi at hok; rw [h6] at hok; simp at hok; omega
  have HP : Hid (∀ w' k lab, k = l.getD 1 0 → lab = numOf ((l.drop 2).take 3) → w.grownBy w' (some g) → (k = 0 → ReadP w g l (.returned (.agg (pmc Pm.zero).toArray)) w') ∧ (k = 6 → ReadP w g l (.returned (.agg (pmc ⟨6, lab, (ipOf (l.drop 5)).1, (ipOf (l.drop 5)).2⟩).toArray)) w') ∧ (k ≠ 0 → k ≠ 6 → ReadP w g l (.returned (.agg (pmc ⟨k, lab, false, z16⟩).toArray)) w')) := Lib.hid fun w' k lab hk hlab hg => by
    subst hk hlab
    refine ⟨fun h0 => ⟨by unfold pmOf; rw [if_pos h0], hg⟩, fun h6 => ⟨by unfold pmOf; rw [if_neg (by omega), if_pos h6], hg⟩, fun h0 h6 => ⟨by unfold pmOf; rw [if_neg h0, if_neg h6], hg⟩⟩
  have HB0 : Hid (Below w.heap.size w (w.alloc (.cells #[Value.int .i64 0, .int .u32 0, .bool false, .int .u8 0, .int .u8 0, .int .u8 0, .int .u8 0, .int .u8 0, .int .u8 0, .int .u8 0, .int .u8 0, .int .u8 0, .int .u8 0, .int .u8 0, .int .u8 0, .int .u8 0, .int .u8 0, .int .u8 0, .int .u8 0] 29))) := Lib.hid ((Below.refl _ _).alloc (Nat.le_refl _) _)
  have HC := Lib.hid (h.keep (HB0.out.mono hglt))
  have HN := Lib.hid (Blk.new w 29 #[Value.int .i64 0, .int .u32 0, .bool false, .int .u8 0, .int .u8 0, .int .u8 0, .int .u8 0, .int .u8 0, .int .u8 0, .int .u8 0, .int .u8 0, .int .u8 0, .int .u8 0, .int .u8 0, .int .u8 0, .int .u8 0, .int .u8 0, .int .u8 0, .int .u8 0])
  have HO := Lib.hid ho
  have H69 := Lib.hid h69
  clear h ho hok h69
  go_enter Tryz.func213, Tryz.ntmps213
  go_wp2_with fail
  refine (skip_is _ g l 0 0 1 HC.out).mono ?_
  generalize (w.alloc (.cells #[Value.int .i64 0, .int .u32 0, .bool false, .int .u8 0, .int .u8 0, .int .u8 0, .int .u8 0, .int .u8 0, .int .u8 0, .int .u8 0, .int .u8 0, .int .u8 0, .int .u8 0, .int .u8 0, .int .u8 0, .int .u8 0, .int .u8 0, .int .u8 0, .int .u8 0] 29)) = w0 at *
  rintro e w1 ⟨rfl, hc1, hg1⟩
  have hs1 := took_ok l 0 1 (by omega)
  rw [show ((1 : Nat) : Int) = 1 from rfl] at hs1
  rw [hs1.2.1, hs1.2.2] at hc1
  have HC1 := Lib.hid hc1
  have HG1 := Lib.hid (only_trans (only_of_below HB0.out (some g)) hg1)
  have HN1 := Lib.hid (HN.out.grown hg1 (fun e => by injection e; omega))
  clear hc1 hg1 hs1 HC HN HB0
  obtain ⟨n1, n2, n3⟩ := num_ok' l 1 1 (by omega) (by omega) (by omega)
  have HK := Lib.hid (num_is w1 g l 1 0 ((1 : Nat) : Int) HC1.out)
  unfold Numd at HK
  rw [n1, n2, n3, numOf_one l 1 (by omega)] at HK
  have hk := HO.out.getD 1
  clear n1 n2 n3
  have HKv : Hid (∃ k, k = l.getD 1 0) := Lib.hid ⟨_, rfl⟩
  obtain ⟨k, hkk⟩ := HKv.out
  rw [← hkk] at HK hk
  have HKK := Lib.hid hkk
  clear hkk HKv
  have hwk : IntKind.i64.wrap k = k := by rw [IntKind.wrap_i64]; omega
  go_wp2_with fail
  refine HK.out.mono ?_
  rintro e w2 ⟨rfl, hc2, hg2⟩
  have HC2 := Lib.hid hc2
  have HG2 := Lib.hid (only_trans HG1.out hg2)
  have HN2 := Lib.hid (HN1.out.grown hg2 (fun e => by injection e; omega))
  clear hc2 hg2 HC1 HG1 HN1 HK
  obtain ⟨n1, n2, n3⟩ := num_ok' l 2 3 (by omega) (by omega) (by omega)
  have HK := Lib.hid (num_is w2 g l 2 0 ((3 : Nat) : Int) HC2.out)
  unfold Numd at HK
  rw [n1, n2, n3] at HK
  have hbd := numOf_bd ((l.drop 2).take 3) (fun x hx => HO.out x (List.mem_of_mem_drop (List.mem_of_mem_take hx)))
  rw [show ((l.drop 2).take 3).length = 3 by simp; omega] at hbd
  have HKv : Hid (∃ k, k = numOf ((l.drop 2).take 3)) := Lib.hid ⟨_, rfl⟩
  obtain ⟨lab, hlab⟩ := HKv.out
  rw [← hlab] at HK hbd
  have HLab := Lib.hid hlab
  clear hlab HKv n1 n2 n3
  have hwl : IntKind.u32.wrap lab = lab := by rw [IntKind.wrap_u32]; omega
  have hwl2 : lab % 4294967296 = lab := by omega
  have HFin := Lib.hid (fun w' hg => HP.out w' k lab HKK.out HLab.out hg)
  go_wp2_with fail
  refine HK.out.mono ?_
  rintro e w3 ⟨rfl, hc3, hg3⟩
  have hG3 := only_trans HG2.out hg3
  have hN3 := HN2.out.grown hg3 (fun e => by injection e; omega)
  have hz3 : w.heap.size < w3.heap.size := hN3.lt
  have hal : Below w3.heap.size w3 (w3.alloc (.cells #[Value.int .i64 0, .int .u32 0, .bool false, .int .u8 0, .int .u8 0, .int .u8 0, .int .u8 0, .int .u8 0, .int .u8 0, .int .u8 0, .int .u8 0, .int .u8 0, .int .u8 0, .int .u8 0, .int .u8 0, .int .u8 0, .int .u8 0, .int .u8 0, .int .u8 0] 29)) := (Below.refl _ _).alloc (Nat.le_refl _) _
  have HC4 := Lib.hid (hc3.keep (hal.mono hc3.lt))
  have HP4 := Lib.hid (Blk.new w3 29 #[Value.int .i64 0, .int .u32 0, .bool false, .int .u8 0, .int .u8 0, .int .u8 0, .int .u8 0, .int .u8 0, .int .u8 0, .int .u8 0, .int .u8 0, .int .u8 0, .int .u8 0, .int .u8 0, .int .u8 0, .int .u8 0, .int .u8 0, .int .u8 0, .int .u8 0])
  have HN4 := Lib.hid (hN3.below hal hN3.lt)
  have HG4 : Hid (w.grownBy (w3.alloc (.cells #[Value.int .i64 0, .int .u32 0, .bool false, .int .u8 0, .int .u8 0, .int .u8 0, .int .u8 0, .int .u8 0, .int .u8 0, .int .u8 0, .int .u8 0, .int .u8 0, .int .u8 0, .int .u8 0, .int .u8 0, .int .u8 0, .int .u8 0, .int .u8 0, .int .u8 0] 29)) (some g)) := Lib.hid (only_trans hG3 (only_of_below hal _))
  have HZ3 := Lib.hid hz3
  have HGl : Hid (g < w3.heap.size) := Lib.hid hc3.lt
  have HP5 : Hid (Blk ((w3.alloc (.cells #[Value.int .i64 0, .int .u32 0, .bool false, .int .u8 0, .int .u8 0, .int .u8 0, .int .u8 0, .int .u8 0, .int .u8 0, .int .u8 0, .int .u8 0, .int .u8 0, .int .u8 0, .int .u8 0, .int .u8 0, .int .u8 0, .int .u8 0, .int .u8 0, .int .u8 0] 29)).setRow w3.heap.size (pmc ⟨k, lab, false, z16⟩).toArray) w3.heap.size 29 (pmc ⟨k, lab, false, z16⟩).toArray) := Lib.hid (Blk.setRow HP4.out _)
  have HN5 : Hid (Blk ((w3.alloc (.cells #[Value.int .i64 0, .int .u32 0, .bool false, .int .u8 0, .int .u8 0, .int .u8 0, .int .u8 0, .int .u8 0, .int .u8 0, .int .u8 0, .int .u8 0, .int .u8 0, .int .u8 0, .int .u8 0, .int .u8 0, .int .u8 0, .int .u8 0, .int .u8 0, .int .u8 0] 29)).setRow w3.heap.size (pmc ⟨k, lab, false, z16⟩).toArray) w.heap.size 29 #[Value.int .i64 0, .int .u32 0, .bool false, .int .u8 0, .int .u8 0, .int .u8 0, .int .u8 0, .int .u8 0, .int .u8 0, .int .u8 0, .int .u8 0, .int .u8 0, .int .u8 0, .int .u8 0, .int .u8 0, .int .u8 0, .int .u8 0, .int .u8 0, .int .u8 0]) := Lib.hid (HN4.out.row_other (by omega) _)
  have HG5 : Hid (w.grownBy ((w3.alloc (.cells #[Value.int .i64 0, .int .u32 0, .bool false, .int .u8 0, .int .u8 0, .int .u8 0, .int .u8 0, .int .u8 0, .int .u8 0, .int .u8 0, .int .u8 0, .int .u8 0, .int .u8 0, .int .u8 0, .int .u8 0, .int .u8 0, .int .u8 0, .int .u8 0, .int .u8 0] 29)).setRow w3.heap.size (pmc ⟨k, lab, false, z16⟩).toArray) (some g)) := Lib.hid (grown_setRow HG4.out (by omega) _)
  have HC5 : Hid (IsCur ((w3.alloc (.cells #[Value.int .i64 0, .int .u32 0, .bool false, .int .u8 0, .int .u8 0, .int .u8 0, .int .u8 0, .int .u8 0, .int .u8 0, .int .u8 0, .int .u8 0, .int .u8 0, .int .u8 0, .int .u8 0, .int .u8 0, .int .u8 0, .int .u8 0, .int .u8 0, .int .u8 0] 29)).setRow w3.heap.size (pmc ⟨k, lab, false, z16⟩).toArray) g l 5 0) := Lib.hid (HC4.out.keep (below_setRow _ w3.heap.size _ (B := g + 1) (by have := HGl.out; omega)))
  have c0 : ((w3.alloc (.cells #[Value.int .i64 0, .int .u32 0, .bool false, .int .u8 0, .int .u8 0, .int .u8 0, .int .u8 0, .int .u8 0, .int .u8 0, .int .u8 0, .int .u8 0, .int .u8 0, .int .u8 0, .int .u8 0, .int .u8 0, .int .u8 0, .int .u8 0, .int .u8 0, .int .u8 0] 29)).setRow w3.heap.size (pmc ⟨k, lab, false, z16⟩).toArray).cell? ⟨w3.heap.size, 0, none⟩ = some (.int .i64 k) := HP5.out.cell 0
  clear hc3 hg3 hG3 hN3 hz3 hal HC2 HG2 HN2 HK HC4 HN4 HG4
  by_cases hk0 : k = 0
  · have ek : (k == 0) = true := by simpa using hk0
    have HK0 := Lib.hid hk0
    clear hk0
    go_wp2_with (first
      | (refine pm_build rfl _ _ rfl k lab rfl rfl ?_)
      | (refine pm_build0 rfl rfl ?_)
      | (refine pm_store rfl _ _ rfl w3.heap.size ⟨k, lab, false, z16⟩ z16_len rfl rfl 29 _ HP4.out rfl ?_)
      | (refine pm_store rfl _ _ rfl w.heap.size Pm.zero z16_len rfl rfl 29 _ HN5.out rfl ?_))
    try simp only [Exit.inBlock, Exit.then]
    refine bodyPost_ret (results_cell_row rfl _ _ w.heap.size 29 _ (0, 0) _ rfl (Blk.setRow HN5.out _) Tryz.underlying29 rfl (by rw [pmsz]; rfl)) rfl ?_
    exact (HFin.out _ (grown_setRow HG5.out (Nat.le_refl _) _)).1 HK0.out
  · have ek : (k == 0) = false := by simpa using hk0
    by_cases hk6 : k = 6
    · have ek6 : (k == 6) = true := by simpa using hk6
      have h9 : l.length = 5 + 4 ∨ l.length = 5 + 16 := by have := H69.out (by rw [← HKK.out]; exact hk6); omega
      have HI := Lib.hid (readIp_is _ g l 5 HC5.out HO.out h9)
      have HLi := Lib.hid (ipOf_len (v := l.drop 5) (by rw [List.length_drop]; omega))
      have HK6 := Lib.hid hk6
      unfold ReadI at HI
      obtain ⟨iv, hiv⟩ : ∃ iv, iv = (ipOf (l.drop 5)).1 := ⟨_, rfl⟩
      obtain ⟨il, hil⟩ : ∃ il, il = (ipOf (l.drop 5)).2 := ⟨_, rfl⟩
      rw [← hiv, ← hil] at HI HFin
      rw [← hil] at HLi
      clear hk6 h9 hiv hil
      go_wp2_with (first
        | (refine pm_build rfl _ _ rfl k lab rfl rfl ?_)
        | (refine pm_store rfl _ _ rfl w3.heap.size ⟨k, lab, false, z16⟩ z16_len rfl rfl 29 _ HP4.out rfl ?_)
        | fail)
      refine HI.out.mono ?_
      rintro e w6 ⟨rfl, hg6⟩
      generalize ((w3.alloc (.cells #[Value.int .i64 0, .int .u32 0, .bool false, .int .u8 0, .int .u8 0, .int .u8 0, .int .u8 0, .int .u8 0, .int .u8 0, .int .u8 0, .int .u8 0, .int .u8 0, .int .u8 0, .int .u8 0, .int .u8 0, .int .u8 0, .int .u8 0, .int .u8 0, .int .u8 0] 29)).setRow w3.heap.size (pmc ⟨k, lab, false, z16⟩).toArray) = w5 at *
      have hP6 := HP5.out.grown hg6 (fun e => by injection e with e; have := HGl.out; omega)
      have hN6 := HN5.out.grown hg6 (fun e => by injection e; omega)
      have hG6 := only_trans HG5.out hg6
      have hT := hP6.there 2 17 (by simp [pmc_len ⟨k, lab, false, z16⟩ z16_len])
      have hR7 : (w6.setCells w3.heap.size 2 (ipc iv il)).rangeAt w3.heap.size 0 (pmc ⟨6, lab, iv, il⟩) := by
        have a1 := World.rangeAt_setCells_same w6 w3.heap.size 2 (ipc iv il) (by simpa [HLi.out] using hT)
        have a2 := World.rangeAt_setCells_apart (range_pre (cs := [.int .i64 k, .int .u32 lab]) (ds := ipc false z16) (Blk.range hP6)) w3.heap.size 2 (ipc iv il) (.inr (.inl (by simp)))
        rw [HK6.out] at a2
        exact range_app a2 a1
      have hG7 : w.grownBy (w6.setCells w3.heap.size 2 (ipc iv il)) (some g) := only_setCells (.inr (by have := HZ3.out; omega)) _ _ _ hG6
      have hN7 : Blk (w6.setCells w3.heap.size 2 (ipc iv il)) w.heap.size 29 #[Value.int .i64 0, .int .u32 0, .bool false, .int .u8 0, .int .u8 0, .int .u8 0, .int .u8 0, .int .u8 0, .int .u8 0, .int .u8 0, .int .u8 0, .int .u8 0, .int .u8 0, .int .u8 0, .int .u8 0, .int .u8 0, .int .u8 0, .int .u8 0, .int .u8 0] := hN6.grown (only_setCells (a := w6) (g := w3.heap.size) (.inl rfl) _ _ _ (only_refl _ _)) (fun e => by injection e with e; have := HZ3.out; omega)
      have HT := Lib.hid hT
      have HR7 := Lib.hid hR7
      have HG7 := Lib.hid hG7
      have HN7 := Lib.hid hN7
      clear hg6 hP6 hN6 hG6 hT hR7 hG7 hN7 HP5 HN5 HG5 HC5 c0
      go_wp2_with (first
        | (refine ip_mid rfl _ _ rfl w3.heap.size 2 iv il HLi.out rfl rfl HT.out ?_)
        | (refine pm_fetch rfl _ rfl w3.heap.size 0 ⟨6, lab, iv, il⟩ HLi.out rfl HR7.out ?_)
        | (refine pm_store rfl _ _ rfl w.heap.size ⟨6, lab, iv, il⟩ HLi.out rfl rfl 29 _ HN7.out rfl ?_))
      try simp only [Exit.inBlock, Exit.then]
      refine bodyPost_ret (results_cell_row rfl _ _ w.heap.size 29 _ (0, 0) _ rfl (Blk.setRow HN7.out _) Tryz.underlying29 rfl (by rw [pmsz]; simp [pmc_len ⟨6, lab, iv, il⟩ HLi.out])) rfl ?_
      exact (HFin.out _ (grown_setRow HG7.out (Nat.le_refl _) _)).2.1 HK6.out
    · have ek6 : (k == 6) = false := by simpa using hk6
      have HK0 := Lib.hid hk0
      have HK6 := Lib.hid hk6
      have HR5 := Lib.hid (Blk.range HP5.out)
      clear hk0 hk6
      go_wp2_with (first
        | (refine pm_build rfl _ _ rfl k lab rfl rfl ?_)
        | (refine pm_store rfl _ _ rfl w3.heap.size ⟨k, lab, false, z16⟩ z16_len rfl rfl 29 _ HP4.out rfl ?_)
        | (refine pm_fetch rfl _ rfl w3.heap.size 0 ⟨k, lab, false, z16⟩ z16_len rfl HR5.out ?_)
        | (refine pm_store rfl _ _ rfl w.heap.size ⟨k, lab, false, z16⟩ z16_len rfl rfl 29 _ HN5.out rfl ?_))
      try simp only [Exit.inBlock, Exit.then]
      refine bodyPost_ret (results_cell_row rfl _ _ w.heap.size 29 _ (0, 0) _ rfl (Blk.setRow HN5.out _) Tryz.underlying29 rfl (by rw [pmsz]; rfl)) rfl ?_
      exact (HFin.out _ (grown_setRow HG5.out (Nat.le_refl _) _)).2.2 HK0.out HK6.out
end Go.Proofs.YtdgoeibfggjbmaaGreatDoor
namespace Go.Proofs.YtdgoeibfggjbmaaGreatDoor
open Go.RowKit
set_option maxRecDepth 100000
set_option linter.unusedSimpArgs false
set_option linter.unusedVariables false

structure Att where
  origin : Int
  path : List Int
  hasMed : Bool
  med : Int
  pref : Int
  orr : Int
  clus : List Int
  comms : List (List Int)
  pm : Pm
def Att.zero : Att := ⟨0, [], false, 0, 0, 0, [], [], Pm.zero⟩
def attV (a : Att) (vp vc vm : Value) : List Value := .int .i64 a.origin :: vp :: .bool a.hasMed :: .int .u32 a.med :: .int .u32 a.pref :: .int .u32 a.orr :: vc :: vm :: pmc a.pm
theorem attV_len (a : Att) (vp vc vm : Value) (h : a.pm.ip.length = 16) : (attV a vp vc vm).length = 27 := by simp [attV, pmc_len _ h]
def keepA (a : Att) (k : Int) (v : List Int) : Att :=
  if k = 1 then { a with origin := v.getD 0 0 } else if k = 2 then { a with path := nums (v.drop 2) } else if k = 4 then { a with hasMed := true, med := numOf v } else if k = 5 then { a with pref := numOf v }
  else if k = 9 then { a with orr := numOf v } else if k = 10 then { a with clus := nums v } else if k = 16 then { a with comms := cmms v } else if k = 22 then { a with pm := pmOf v } else a

structure IsR (w : World) (g : Nat) (a : Att) (c : Int) (sn : Nat → Bool) : Prop where
  ex : ∃ vp vc vm, w.rangeAt g 0 (attV a vp vc vm) ∧ OwnN (g + 1) w vp a.path ∧ OwnN (g + 1) w vc a.clus ∧ OwnC (g + 1) w vm a.comms
  ip : a.pm.ip.length = 16
  cls : w.cell? ⟨g, 27, none⟩ = some (.int .i64 c)
  flt : w.there g 28 3
  seen : ∀ k : Nat, k < 256 → w.cell? ⟨g, 31 + k, none⟩ = some (.bool (sn k))
  fz : ∀ i, w.frozen? ⟨g, i, none⟩ = false
theorem IsR.lt {w : World} {g : Nat} {a : Att} {c : Int} {sn : Nat → Bool} (h : IsR w g a c sn) : g < w.heap.size := World.block_lt_of_cell? w _ h.cls
theorem IsR.below {w w' : World} {g : Nat} {a : Att} {c : Int} {sn : Nat → Bool} (h : IsR w g a c sn) (hb : Below w.heap.size w w') : IsR w' g a c sn := by
  obtain ⟨vp, vc, vm, h0, h1, h2, h3⟩ := h.ex
  have hlt := h.lt
  exact ⟨⟨vp, vc, vm, range_below h0 hb hlt, h1.below hb, h2.below hb, h3.below hb⟩, h.ip, (hb.cell (p := ⟨g, 27, none⟩) hlt).trans h.cls, fun j hj => ⟨by rw [hb.cell (p := ⟨g, 28 + j, none⟩) hlt]; exact (h.flt j hj).1, by rw [hb.frozen (p := ⟨g, 28 + j, none⟩) hlt]; exact (h.flt j hj).2⟩,
    fun k hk => (hb.cell (p := ⟨g, 31 + k, none⟩) hlt).trans (h.seen k hk), fun i => (hb.frozen (p := ⟨g, i, none⟩) hlt).trans (h.fz i)⟩
theorem range_set {w : World} {g i : Nat} {cs : List Value} (h : w.rangeAt g 0 cs) (hi : i < cs.length) (u : Value) : (w.setCell ⟨g, i, none⟩ u).rangeAt g 0 (cs.set i u) := fun j v hv => by
  rw [Nat.zero_add]
  by_cases hj : j = i
  · subst hj
    rw [List.getElem?_set_self hi] at hv
    injection hv with hv
    subst hv
    have h0 := h j cs[j] (by simp [hi])
    rw [Nat.zero_add] at h0
    exact World.cell?_setCell_same _ _ _ h0
  · rw [List.getElem?_set_ne (Ne.symm hj)] at hv
    rw [World.cell?_setCell_other _ _ _ _ (fun e => hj (by injection e with _ e2; exact e2.symm))]
    have := h j v hv
    rwa [Nat.zero_add] at this
theorem there_set {w : World} {g o n : Nat} (h : w.there g o n) (p : Addr) (u : Value) : (w.setCell p u).there g o n := fun j hj => ⟨by
    by_cases e : (⟨g, o + j, none⟩ : Addr) = p
    · subst e
      obtain ⟨x, hx⟩ := Option.isSome_iff_exists.1 (h j hj).1
      rw [World.cell?_setCell_same _ _ _ hx]; rfl
    · rw [World.cell?_setCell_other _ _ _ _ (Ne.symm e)]; exact (h j hj).1, by rw [World.frozen?_setCell]; exact (h j hj).2⟩
theorem IsR.put {w : World} {g : Nat} {a : Att} {c : Int} {sn : Nat → Bool} (h : IsR w g a c sn) (a' : Att) (i : Nat) (u : Value) (hi : i < 8) (hip : a'.pm = a.pm)
    (hx : ∀ vp vc vm, OwnN (g + 1) w vp a.path → OwnN (g + 1) w vc a.clus → OwnC (g + 1) w vm a.comms → ∃ vp' vc' vm', (attV a vp vc vm).set i u = attV a' vp' vc' vm' ∧ OwnN (g + 1) w vp' a'.path ∧ OwnN (g + 1) w vc' a'.clus ∧ OwnC (g + 1) w vm' a'.comms) :
    IsR (w.setCell ⟨g, i, none⟩ u) g a' c sn := by
  obtain ⟨vp, vc, vm, h0, h1, h2, h3⟩ := h.ex
  obtain ⟨vp', vc', vm', e, k1, k2, k3⟩ := hx vp vc vm h1 h2 h3
  have hg : w.grownBy (w.setCell ⟨g, i, none⟩ u) (some g) := only_setCell (only_refl w _) (.inl rfl) u
  have hne : ∀ j, 27 ≤ j → (w.setCell ⟨g, i, none⟩ u).cell? ⟨g, j, none⟩ = w.cell? ⟨g, j, none⟩ := fun j hj => World.cell?_setCell_other _ _ _ _ (fun e => by injection e with _ e2; omega)
  refine ⟨⟨vp', vc', vm', ?_, k1.grown hg (by omega), k2.grown hg (by omega), k3.grown hg (by omega)⟩, by rw [hip]; exact h.ip, (hne 27 (by omega)).trans h.cls, there_set h.flt _ _, fun k hk => (hne _ (by omega)).trans (h.seen k hk), fun j => by rw [World.frozen?_setCell]; exact h.fz j⟩
  rw [← e]
  exact range_set h0 (by rw [attV_len _ _ _ _ h.ip]; omega) u
theorem IsR.putPm {w : World} {g : Nat} {a : Att} {c : Int} {sn : Nat → Bool} (h : IsR w g a c sn) (p : Pm) (hp : p.ip.length = 16) : IsR (w.setCells g 8 (pmc p)) g { a with pm := p } c sn := by
  obtain ⟨vp, vc, vm, h0, h1, h2, h3⟩ := h.ex
  have hg : w.grownBy (w.setCells g 8 (pmc p)) (some g) := only_setCells (.inl rfl) _ _ _ (only_refl w _)
  have hl := pmc_len p hp
  have hne : ∀ j, 27 ≤ j → (w.setCells g 8 (pmc p)).cell? ⟨g, j, none⟩ = w.cell? ⟨g, j, none⟩ := fun j hj => World.cell?_setCells_out g _ _ _ _ (fun _ _ => .inr (by show 8 + (pmc p).length ≤ j; omega))
  have ht : w.there g 8 19 := fun j hj => ⟨by
    have hj27 : 8 + j < (attV a vp vc vm).length := by rw [attV_len _ _ _ _ h.ip]; omega
    have := h0 (8 + j) _ (List.getElem?_eq_getElem hj27)
    rw [Nat.zero_add] at this
    rw [this]; rfl, h.fz _⟩
  refine ⟨⟨vp, vc, vm, ?_, h1.grown hg (by omega), h2.grown hg (by omega), h3.grown hg (by omega)⟩, hp, (hne 27 (by omega)).trans h.cls, World.there_setCells h.flt _ _ _, fun k hk => (hne _ (by omega)).trans (h.seen k hk), fun j => by rw [World.frozen?_setCells]; exact h.fz j⟩
  have a1 := World.rangeAt_setCells_same w g 8 (pmc p) (by rw [hl]; exact ht)
  have a2 := World.rangeAt_setCells_apart (range_pre (cs := [.int .i64 a.origin, vp, .bool a.hasMed, .int .u32 a.med, .int .u32 a.pref, .int .u32 a.orr, vc, vm]) (ds := pmc a.pm) h0) g 8 (pmc p) (.inr (.inl (by simp)))
  exact range_app a2 a1
theorem IsR.putCls {w : World} {g : Nat} {a : Att} {c : Int} {sn : Nat → Bool} (h : IsR w g a c sn) (c' : Int) : IsR (w.setCell ⟨g, 27, none⟩ (.int .i64 c')) g a c' sn := by
  obtain ⟨vp, vc, vm, h0, h1, h2, h3⟩ := h.ex
  have hg : w.grownBy (w.setCell ⟨g, 27, none⟩ (.int .i64 c')) (some g) := only_setCell (only_refl w _) (.inl rfl) _
  have hne : ∀ j, j ≠ 27 → (w.setCell ⟨g, 27, none⟩ (.int .i64 c')).cell? ⟨g, j, none⟩ = w.cell? ⟨g, j, none⟩ := fun j hj => World.cell?_setCell_other _ _ _ _ (fun e => by injection e with _ e2; omega)
  refine ⟨⟨vp, vc, vm, fun j v hv => ?_, h1.grown hg (by omega), h2.grown hg (by omega), h3.grown hg (by omega)⟩, h.ip, World.cell?_setCell_same _ _ _ h.cls, there_set h.flt _ _, fun k hk => (hne _ (by omega)).trans (h.seen k hk), fun j => by rw [World.frozen?_setCell]; exact h.fz j⟩
  have hj : j < 27 := by have := (List.getElem?_eq_some_iff.1 hv).1; rwa [attV_len _ _ _ _ h.ip] at this
  rw [Nat.zero_add, hne j (by omega)]
  have := h0 j v hv
  rwa [Nat.zero_add] at this
theorem IsR.putSeen {w : World} {g : Nat} {a : Att} {c : Int} {sn : Nat → Bool} (h : IsR w g a c sn) (m : Nat) (hm : m < 256) : IsR (w.setCell ⟨g, 31 + m, none⟩ (.bool true)) g a c (fun k => decide (k = m) || sn k) := by
  obtain ⟨vp, vc, vm, h0, h1, h2, h3⟩ := h.ex
  have hg : w.grownBy (w.setCell ⟨g, 31 + m, none⟩ (.bool true)) (some g) := only_setCell (only_refl w _) (.inl rfl) _
  have hne : ∀ j, j ≠ 31 + m → (w.setCell ⟨g, 31 + m, none⟩ (.bool true)).cell? ⟨g, j, none⟩ = w.cell? ⟨g, j, none⟩ := fun j hj => World.cell?_setCell_other _ _ _ _ (fun e => by injection e with _ e2; omega)
  refine ⟨⟨vp, vc, vm, fun j v hv => ?_, h1.grown hg (by omega), h2.grown hg (by omega), h3.grown hg (by omega)⟩, h.ip, (hne 27 (by omega)).trans h.cls, there_set h.flt _ _, fun k hk => ?_, fun j => by rw [World.frozen?_setCell]; exact h.fz j⟩
  · have hj : j < 27 := by have := (List.getElem?_eq_some_iff.1 hv).1; rwa [attV_len _ _ _ _ h.ip] at this
    rw [Nat.zero_add, hne j (by omega)]
    have := h0 j v hv
    rwa [Nat.zero_add] at this
  · by_cases hkm : k = m
    · subst hkm
      rw [World.cell?_setCell_same _ _ _ (h.seen k hk)]
      simp
    · rw [hne _ (by omega), h.seen k hk]
      simp [hkm]
theorem IsR.cell {w : World} {g : Nat} {a : Att} {c : Int} {sn : Nat → Bool} (h : IsR w g a c sn) {j : Nat} (hj : j < 27) : ∃ u, w.cell? ⟨g, j, none⟩ = some u := by
  obtain ⟨vp, vc, vm, h0, _⟩ := h.ex
  have hj27 : j < (attV a vp vc vm).length := by rw [attV_len _ _ _ _ h.ip]; omega
  have := h0 j _ (List.getElem?_eq_getElem hj27)
  rw [Nat.zero_add] at this
  exact ⟨_, this⟩
end Go.Proofs.YtdgoeibfggjbmaaGreatDoor
namespace Go.Proofs.YtdgoeibfggjbmaaGreatDoor
open Go.RowKit
set_option maxRecDepth 100000
set_option linter.unusedSimpArgs false
set_option linter.unusedVariables false

def Kp (w : World) (g : Nat) (a : Att) (c : Int) (sn : Nat → Bool) (k : Int) (v : List Int) (e : Ending) (w' : World) : Prop := e = .returned (.tuple #[]) ∧ IsR w' g (keepA a k v) c sn ∧ w.grownBy w' (some g)
theorem kp_end {w w2 w3 : World} {g : Nat} {a a' : Att} {c : Int} {sn : Nat → Bool} {k : Int} {v : List Int} (hB : Below w.heap.size w w2) (hk : keepA a k v = a') (h3 : IsR w3 g a' c sn) (hg : w2.grownBy w3 (some g)) : Kp w g a c sn k v (.returned (.tuple #[])) w3 :=
  ⟨rfl, by rw [hk]; exact h3, only_trans (only_of_below hB _) hg⟩
theorem below_cur {w w1 w2 : World} {g : Nat} (h : Below w.heap.size w w1) (hg : w.heap.size ≤ g) (k : w1.grownBy w2 (some g)) : Below w.heap.size w w2 := below_only h k h.size (fun j e => by injection e with e; omega)
section
variable (w : World) (g : Nat) (a : Att) (c : Int) (sn : Nat → Bool) (A : Option Addr) (n cp : Nat) (v : List Int) (h : IsR w g a c sn) (hr : Rd w w.heap.size A n v) (hm : n ≤ 140737488351232)

set_option maxHeartbeats 1000000 in
include h hr hm in
theorem keep_1 (hk : okV 1 v = true) : Calls Tryz.prog 172 #[.pointer (some ⟨g, 0, none⟩), .int .i64 1, .slice A n cp] w (Kp w g a c sn 1 v) := by
  have HH := Lib.hid h
  have HR := Lib.hid hr
  have hl : v.length = 1 := by unfold okV at hk; simp at hk; omega
  have HO := Lib.hid hr.oct
  clear h hr hk
  go_enter Tryz.func172, Tryz.ntmps172
  go_wp2_with fail
  refine (new_is w A n cp v HR.out (by omega)).mono ?_
  rintro e w1 ⟨gc, rfl, hgc, hcur, hB1⟩
  obtain ⟨n1, n2, n3⟩ := num_ok' v 0 1 (by omega) (by omega) (by omega)
  have HK := Lib.hid (num_is w1 gc v 0 0 ((1 : Nat) : Int) hcur)
  unfold Numd at HK
  rw [n1, n2, n3, numOf_one v 0 (by omega)] at HK
  have hx := HO.out.getD 0
  have HA : Hid (keepA a 1 v = { a with origin := v.getD 0 0 }) := Lib.hid rfl
  generalize v.getD 0 0 = x at *
  have hwx : IntKind.i64.wrap x = x := by rw [IntKind.wrap_i64]; omega
  have HB1 := Lib.hid hB1
  clear n1 n2 n3 hcur hB1 hl
  go_wp2_with fail
  refine HK.out.mono ?_
  rintro e w2 ⟨rfl, _, hg2⟩
  have HB2 := Lib.hid (below_cur HB1.out hgc hg2)
  have HI2 := Lib.hid (HH.out.below HB2.out)
  obtain ⟨u0, c0⟩ := HI2.out.cell (j := 0) (by omega)
  have f0 := HI2.out.fz 0
  have HE := Lib.hid (kp_end HB2.out HA.out (HI2.out.put { a with origin := x } 0 (.int .i64 x) (by omega) rfl (fun vp vc vm k1 k2 k3 => ⟨vp, vc, vm, rfl, k1, k2, k3⟩)) (only_setCell (only_refl w2 _) (.inl rfl) _))
  clear hg2 HK HB1 HB2 HI2 HA
  go_wp2
  go_end0
  exact HE.out

set_option maxHeartbeats 1000000 in
include h hr hm in
theorem keep_2 (hk : okV 2 v = true) : Calls Tryz.prog 172 #[.pointer (some ⟨g, 0, none⟩), .int .i64 2, .slice A n cp] w (Kp w g a c sn 2 v) := by
  have HH := Lib.hid h
  have HR := Lib.hid hr
  have hvn := hr.len
  have hl : v.length = 0 ∨ 6 ≤ v.length := by
    have o1 := hr.oct.getD 1
    have : okPath v = true := hk
    unfold okPath at this
    simp only [Bool.or_eq_true, Bool.and_eq_true, decide_eq_true_eq] at this
    omega
  have HO := Lib.hid hr.oct
  clear h hr hk
  go_enter Tryz.func172, Tryz.ntmps172
  go_wp2_with fail
  refine (new_is w A n cp v HR.out (by omega)).mono ?_
  rintro e w1 ⟨gc, rfl, hgc, hcur, hB1⟩
  have HB1 := Lib.hid hB1
  have HC1 := Lib.hid hcur
  have HVn := Lib.hid hvn
  clear hcur hB1 hvn
  go_wp2_with fail
  refine (skip_is w1 gc v 0 0 2 HC1.out).mono ?_
  rintro e w2 ⟨rfl, hc2, hg2⟩
  have HB2 := Lib.hid (below_cur HB1.out hgc hg2)
  have HC2 := Lib.hid hc2
  have HA : Hid (keepA a 2 v = { a with path := nums (v.drop 2) }) := Lib.hid rfl
  have hat : (stepErr v 0 0 2 = 0 ∨ v.length < stepAt v 0 0 2 + 4) ∧ nums (v.drop (stepAt v 0 0 2)) = nums (v.drop 2) := by
    rcases hl with hl | hl
    · have hv : v = [] := List.eq_nil_of_length_eq_zero hl
      subst hv
      exact ⟨.inr (by simp [stepAt]), by simp [stepAt]⟩
    · obtain ⟨_, q2, q3⟩ := took_ok v 0 2 (by omega)
      rw [show ((2 : Nat) : Int) = 2 from rfl] at q2 q3
      rw [q2, q3]
      exact ⟨.inl rfl, rfl⟩
  have HAt := Lib.hid hat
  have HRn := Lib.hid (readNumbers_is w2 gc v _ _ HC2.out HAt.out.1 HO.out (by rw [HVn.out]; omega))
  unfold ReadN at HRn
  rw [HAt.out.2] at HRn
  clear hc2 hg2 hat HAt HC2 HC1
  generalize nums (v.drop 2) = xs at *
  go_wp2_with fail
  refine HRn.out.mono ?_
  rintro e w3 ⟨vx, rfl, hox, hg3⟩
  obtain ⟨Ax, cx, hvx, _, _⟩ := hox.rd
  subst hvx
  have HB3 := Lib.hid (below_cur HB2.out hgc hg3)
  have HI3 := Lib.hid (HH.out.below HB3.out)
  obtain ⟨u0, c0⟩ := HI3.out.cell (j := 1) (by omega)
  have f0 := HI3.out.fz 1
  have hlow : g + 1 ≤ w2.heap.size := by have := HH.out.lt; have := HB2.out.size; omega
  have HE := Lib.hid (kp_end HB3.out HA.out (HI3.out.put { a with path := xs } 1 (.slice Ax xs.length cx) (by omega) rfl (fun vp vc vm k1 k2 k3 => ⟨_, vc, vm, rfl, hox.low hlow, k2, k3⟩)) (only_setCell (only_refl w3 _) (.inl rfl) _))
  clear hox hg3 HRn HB1 HB2 HB3 HI3 HA
  go_wp2
  go_end0
  exact HE.out

set_option maxHeartbeats 1000000 in
include h hr hm in
theorem keep_n4 (k : Int) (hk4 : k = 4 ∨ k = 5 ∨ k = 9) (hk : okV k v = true) : Calls Tryz.prog 172 #[.pointer (some ⟨g, 0, none⟩), .int .i64 k, .slice A n cp] w (Kp w g a c sn k v) := by
  have HH := Lib.hid h
  have HR := Lib.hid hr
  have hl : v.length = 4 := by
    rcases hk4 with rfl | rfl | rfl <;> (unfold okV at hk; simp at hk; omega)
  have HO := Lib.hid hr.oct
  have hbd := numOf_bd v hr.oct
  rw [hl] at hbd
  have hvt : v.take 4 = v := List.take_of_length_le (by omega)
  clear h hr hk
  have HA : Hid ((k = 4 → keepA a k v = { a with hasMed := true, med := numOf v }) ∧ (k = 5 → keepA a k v = { a with pref := numOf v }) ∧ (k = 9 → keepA a k v = { a with orr := numOf v })) := Lib.hid ⟨fun e => by subst e; rfl, fun e => by subst e; rfl, fun e => by subst e; rfl⟩
  have HNum : Hid (∀ w1 gc, IsCur w1 gc v 0 0 → Calls Tryz.prog 113 #[.pointer (some ⟨gc, 0, none⟩), .int .i64 4] w1 fun e w2 => e = .returned (.int .u64 (numOf v)) ∧ w1.grownBy w2 (some gc)) := Lib.hid fun w1 gc hcur => by
    obtain ⟨n1, n2, n3⟩ := num_ok' v 0 4 (by omega) (by omega) (by omega)
    refine (num_is w1 gc v 0 0 ((4 : Nat) : Int) hcur).mono ?_
    rintro e w2 ⟨he, _, hg⟩
    rw [n1, List.drop_zero, hvt] at he
    exact ⟨he, hg⟩
  generalize numOf v = x at *
  have hx1 : x < 4294967296 := by omega
  have hw1 : IntKind.u32.wrap x = x := by rw [IntKind.wrap_u32]; omega
  have hw2 : x % 4294967296 = x := by omega
  clear hvt hl
  rcases hk4 with rfl | rfl | rfl
  · go_enter Tryz.func172, Tryz.ntmps172
    go_wp2_with fail
    refine (new_is w A n cp v HR.out (by omega)).mono ?_
    rintro e w1 ⟨gc, rfl, hgc, hcur, hB1⟩
    have HB1 := Lib.hid hB1
    have HK := Lib.hid (HNum.out w1 gc hcur)
    clear hcur hB1
    go_wp2_with fail
    refine HK.out.mono ?_
    rintro e w2 ⟨rfl, hg2⟩
    have HB2 := Lib.hid (below_cur HB1.out hgc hg2)
    have HI2 := Lib.hid (HH.out.below HB2.out)
    have hI3 := HI2.out.put { a with hasMed := true } 2 (.bool true) (by omega) rfl (fun vp vc vm k1 k2 k3 => ⟨vp, vc, vm, rfl, k1, k2, k3⟩)
    obtain ⟨u0, c0⟩ := HI2.out.cell (j := 2) (by omega)
    have f0 := HI2.out.fz 2
    obtain ⟨u1, c1⟩ := HI2.out.cell (j := 3) (by omega)
    have f1 := HI2.out.fz 3
    have HE := Lib.hid (kp_end HB2.out (HA.out.1 (by first | rfl | trivial)) (hI3.put { a with hasMed := true, med := x } 3 (.int .u32 x) (by omega) rfl (fun vp vc vm k1 k2 k3 => ⟨vp, vc, vm, rfl, k1, k2, k3⟩)) (only_setCell (g := g) (p := ⟨g, 3, none⟩) (only_setCell (g := g) (p := ⟨g, 2, none⟩) (only_refl w2 _) (.inl rfl) (.bool true)) (.inl rfl) _))
    clear hg2 HK HB1 HB2 HI2 HA hI3
    go_wp2
    go_end0
    exact HE.out
  · go_enter Tryz.func172, Tryz.ntmps172
    go_wp2_with fail
    refine (new_is w A n cp v HR.out (by omega)).mono ?_
    rintro e w1 ⟨gc, rfl, hgc, hcur, hB1⟩
    have HB1 := Lib.hid hB1
    have HK := Lib.hid (HNum.out w1 gc hcur)
    clear hcur hB1
    go_wp2_with fail
    refine HK.out.mono ?_
    rintro e w2 ⟨rfl, hg2⟩
    have HB2 := Lib.hid (below_cur HB1.out hgc hg2)
    have HI2 := Lib.hid (HH.out.below HB2.out)
    obtain ⟨u0, c0⟩ := HI2.out.cell (j := 4) (by omega)
    have f0 := HI2.out.fz 4
    have HE := Lib.hid (kp_end HB2.out (HA.out.2.1 (by first | rfl | trivial)) (HI2.out.put { a with pref := x } 4 (.int .u32 x) (by omega) rfl (fun vp vc vm k1 k2 k3 => ⟨vp, vc, vm, rfl, k1, k2, k3⟩)) (only_setCell (only_refl w2 _) (.inl rfl) _))
    clear hg2 HK HB1 HB2 HI2 HA
    go_wp2
    go_end0
    exact HE.out
  · go_enter Tryz.func172, Tryz.ntmps172
    go_wp2_with fail
    refine (new_is w A n cp v HR.out (by omega)).mono ?_
    rintro e w1 ⟨gc, rfl, hgc, hcur, hB1⟩
    have HB1 := Lib.hid hB1
    have HK := Lib.hid (HNum.out w1 gc hcur)
    clear hcur hB1
    go_wp2_with fail
    refine HK.out.mono ?_
    rintro e w2 ⟨rfl, hg2⟩
    have HB2 := Lib.hid (below_cur HB1.out hgc hg2)
    have HI2 := Lib.hid (HH.out.below HB2.out)
    obtain ⟨u0, c0⟩ := HI2.out.cell (j := 5) (by omega)
    have f0 := HI2.out.fz 5
    have HE := Lib.hid (kp_end HB2.out (HA.out.2.2 (by first | rfl | trivial)) (HI2.out.put { a with orr := x } 5 (.int .u32 x) (by omega) rfl (fun vp vc vm k1 k2 k3 => ⟨vp, vc, vm, rfl, k1, k2, k3⟩)) (only_setCell (only_refl w2 _) (.inl rfl) _))
    clear hg2 HK HB1 HB2 HI2 HA
    go_wp2
    go_end0
    exact HE.out

set_option maxHeartbeats 1000000 in
include h hr hm in
theorem keep_10 : Calls Tryz.prog 172 #[.pointer (some ⟨g, 0, none⟩), .int .i64 10, .slice A n cp] w (Kp w g a c sn 10 v) := by
  have HH := Lib.hid h
  have HR := Lib.hid hr
  have hvn := hr.len
  have HO := Lib.hid hr.oct
  clear h hr
  go_enter Tryz.func172, Tryz.ntmps172
  go_wp2_with fail
  refine (new_is w A n cp v HR.out (by omega)).mono ?_
  rintro e w1 ⟨gc, rfl, hgc, hcur, hB1⟩
  have HB1 := Lib.hid hB1
  have HA : Hid (keepA a 10 v = { a with clus := nums v }) := Lib.hid rfl
  have HRn := Lib.hid (readNumbers_is w1 gc v 0 0 hcur (.inl rfl) HO.out (by omega))
  unfold ReadN at HRn
  rw [List.drop_zero] at HRn
  have hlow : g + 1 ≤ w1.heap.size := by have := HH.out.lt; have := HB1.out.size; omega
  clear hcur hB1 hvn
  generalize nums v = xs at *
  go_wp2_with fail
  refine HRn.out.mono ?_
  rintro e w3 ⟨vx, rfl, hox, hg3⟩
  obtain ⟨Ax, cx, hvx, _, _⟩ := hox.rd
  subst hvx
  have HB3 := Lib.hid (below_cur HB1.out hgc hg3)
  have HI3 := Lib.hid (HH.out.below HB3.out)
  obtain ⟨u0, c0⟩ := HI3.out.cell (j := 6) (by omega)
  have f0 := HI3.out.fz 6
  have HE := Lib.hid (kp_end HB3.out HA.out (HI3.out.put { a with clus := xs } 6 (.slice Ax xs.length cx) (by omega) rfl (fun vp vc vm k1 k2 k3 => ⟨vp, _, vm, rfl, k1, hox.low hlow, k3⟩)) (only_setCell (only_refl w3 _) (.inl rfl) _))
  clear hox hg3 HRn HB1 HB3 HI3 HA
  go_wp2
  go_end0
  exact HE.out

set_option maxHeartbeats 1000000 in
include h hr hm in
theorem keep_16 : Calls Tryz.prog 172 #[.pointer (some ⟨g, 0, none⟩), .int .i64 16, .slice A n cp] w (Kp w g a c sn 16 v) := by
  have HH := Lib.hid h
  have HR := Lib.hid hr
  have hvn := hr.len
  have HO := Lib.hid hr.oct
  clear h hr
  go_enter Tryz.func172, Tryz.ntmps172
  go_wp2_with fail
  refine (new_is w A n cp v HR.out (by omega)).mono ?_
  rintro e w1 ⟨gc, rfl, hgc, hcur, hB1⟩
  have HB1 := Lib.hid hB1
  have HA : Hid (keepA a 16 v = { a with comms := cmms v }) := Lib.hid rfl
  have HRn := Lib.hid (readComms_is w1 gc v 0 hcur HO.out (by omega))
  unfold ReadC at HRn
  rw [List.drop_zero] at HRn
  have hlow : g + 1 ≤ w1.heap.size := by have := HH.out.lt; have := HB1.out.size; omega
  clear hcur hB1 hvn
  generalize cmms v = xs at *
  go_wp2_with fail
  refine HRn.out.mono ?_
  rintro e w3 ⟨vx, rfl, hox, hg3⟩
  obtain ⟨Ax, cx, hvx, _, _⟩ := hox.rd
  subst hvx
  have HB3 := Lib.hid (below_cur HB1.out hgc hg3)
  have HI3 := Lib.hid (HH.out.below HB3.out)
  obtain ⟨u0, c0⟩ := HI3.out.cell (j := 7) (by omega)
  have f0 := HI3.out.fz 7
  have HE := Lib.hid (kp_end HB3.out HA.out (HI3.out.put { a with comms := xs } 7 (.slice Ax xs.length cx) (by omega) rfl (fun vp vc vm k1 k2 k3 => ⟨vp, vc, _, rfl, k1, k2, hox.low hlow⟩)) (only_setCell (only_refl w3 _) (.inl rfl) _))
  clear hox hg3 HRn HB1 HB3 HI3 HA
  go_wp2
  go_end0
  exact HE.out

theorem pm_mid {ops : Array Oper} {rest : List Oper} {o : Oper} {a : Act} {w : World} {Q : Exit → Act → World → Prop} (hgd : o.guard = none) (x y : Operand) (ho : o.op = .store 29 x y) (g off : Nat) (p : Pm) (hl : p.ip.length = 16)
    (hx : a.eval x = .pointer (some ⟨g, off, none⟩)) (hy : a.eval y = .agg (pmc p).toArray) (ht : w.there g off 19)
    (h : wpList Tryz.prog ops Q rest (a.put o.dst undef) (w.setCells g off (pmc p))) : wpList Tryz.prog ops Q (o :: rest) a w :=
  wpList_store_mid hgd 29 x y ho g off (pmc p).toArray hx hy (by rw [List.size_toArray, pmc_len p hl]; exact ht) (by rw [pmsz]; simp [pmc_len p hl]) (all_oneCell_toArray (one_pmc p)) h

set_option maxHeartbeats 1000000 in
include h hr hm in
theorem keep_22 (hk : okV 22 v = true) : Calls Tryz.prog 172 #[.pointer (some ⟨g, 0, none⟩), .int .i64 22, .slice A n cp] w (Kp w g a c sn 22 v) := by
  have HH := Lib.hid h
  have HR := Lib.hid hr
  have HO := Lib.hid hr.oct
  have hok : okPmsi v = true := hk
  clear h hr hk
  have HPl := Lib.hid (pmOf_len hok)
  go_enter Tryz.func172, Tryz.ntmps172
  go_wp2_with fail
  refine (new_is w A n cp v HR.out (by omega)).mono ?_
  rintro e w1 ⟨gc, rfl, hgc, hcur, hB1⟩
  have HB1 := Lib.hid hB1
  have HA : Hid (keepA a 22 v = { a with pm := pmOf v }) := Lib.hid rfl
  have HRn := Lib.hid (readPmsi_is w1 gc v hcur HO.out hok)
  unfold ReadP at HRn
  clear hcur hB1 hok
  generalize pmOf v = p at *
  go_wp2_with fail
  refine HRn.out.mono ?_
  rintro e w3 ⟨rfl, hg3⟩
  have HB3 := Lib.hid (below_cur HB1.out hgc hg3)
  have HI3 := Lib.hid (HH.out.below HB3.out)
  have HT : Hid (w3.there g 8 19) := Lib.hid fun j hj => by
    obtain ⟨u, hu⟩ := HI3.out.cell (j := 8 + j) (by omega)
    exact ⟨by rw [hu]; rfl, HI3.out.fz _⟩
  have HE := Lib.hid (kp_end HB3.out HA.out (HI3.out.putPm p HPl.out) (only_setCells (.inl rfl) _ _ _ (only_refl w3 _)))
  clear hg3 HRn HB1 HB3 HI3 HA
  go_wp2_with (refine pm_mid rfl _ _ rfl g 8 p HPl.out rfl rfl HT.out ?_)
  go_end0
  exact HE.out

set_option maxHeartbeats 1000000 in
include h hr hm in
theorem keep_any (k : Int) (hk : k ≠ 1 ∧ k ≠ 2 ∧ k ≠ 4 ∧ k ≠ 5 ∧ k ≠ 9 ∧ k ≠ 10 ∧ k ≠ 16 ∧ k ≠ 22) : Calls Tryz.prog 172 #[.pointer (some ⟨g, 0, none⟩), .int .i64 k, .slice A n cp] w (Kp w g a c sn k v) := by
  obtain ⟨k1, k2, k4, k5, k9, k10, k16, k22⟩ := hk
  have HA : Hid (keepA a k v = a) := Lib.hid (by unfold keepA; rw [if_neg k1, if_neg k2, if_neg k4, if_neg k5, if_neg k9, if_neg k10, if_neg k16, if_neg k22])
  have e1 : (k == 1) = false := by simpa using k1
  have e2 : (k == 2) = false := by simpa using k2
  have e4 : (k == 4) = false := by simpa using k4
  have e5 : (k == 5) = false := by simpa using k5
  have e9 : (k == 9) = false := by simpa using k9
  have e10 : (k == 10) = false := by simpa using k10
  have e16 : (k == 16) = false := by simpa using k16
  have e22 : (k == 22) = false := by simpa using k22
  have HH := Lib.hid h
  have HR := Lib.hid hr
  clear h hr k1 k2 k4 k5 k9 k10 k16 k22
  go_enter Tryz.func172, Tryz.ntmps172
  go_wp2_with fail
  refine (new_is w A n cp v HR.out (by omega)).mono ?_
  rintro e w1 ⟨gc, rfl, hgc, hcur, hB1⟩
  have HE := Lib.hid (kp_end hB1 HA.out (HH.out.below hB1) (only_refl w1 (some g)))
  clear hcur hB1 HA
  go_wp2
  go_end0
  exact HE.out
include h hr hm in
theorem keep_is (k : Int) (hk : okV k v = true) : Calls Tryz.prog 172 #[.pointer (some ⟨g, 0, none⟩), .int .i64 k, .slice A n cp] w (Kp w g a c sn k v) := by
  by_cases h1 : k = 1
  · subst h1; exact keep_1 w g a c sn A n cp v h hr hm hk
  by_cases h2 : k = 2
  · subst h2; exact keep_2 w g a c sn A n cp v h hr hm hk
  by_cases h4 : k = 4 ∨ k = 5 ∨ k = 9
  · exact keep_n4 w g a c sn A n cp v h hr hm k h4 hk
  by_cases h10 : k = 10
  · subst h10; exact keep_10 w g a c sn A n cp v h hr hm
  by_cases h16 : k = 16
  · subst h16; exact keep_16 w g a c sn A n cp v h hr hm
  by_cases h22 : k = 22
  · subst h22; exact keep_22 w g a c sn A n cp v h hr hm hk
  exact keep_any w g a c sn A n cp v h hr hm k (by omega)
end
end Go.Proofs.YtdgoeibfggjbmaaGreatDoor
namespace Go.Proofs.YtdgoeibfggjbmaaGreatDoor
open Go.RowKit
set_option maxRecDepth 100000
set_option linter.unusedSimpArgs false
set_option linter.unusedVariables false

theorem fsz : (Tryz.prog.info? 56).map (·.size) = some 3 := by kernel_rfl
theorem f_store {ops : Array Oper} {rest : List Oper} {o : Oper} {a : Act} {w : World} {Q : Exit → Act → World → Prop} (hgd : o.guard = none) (x y : Operand) (ho : o.op = .store 56 x y) (g : Nat) (r1 r2 : Int) (A : Option Addr) (n c : Nat)
    (hx : a.eval x = .pointer (some ⟨g, 0, none⟩)) (hy : a.eval y = .agg #[.int .i64 r1, .int .i64 r2, .slice A n c]) (t : TypeId) (old : Array Value) (hg : Blk w g t old) (hold : old.size = 3)
    (h : wpList Tryz.prog ops Q rest (a.put o.dst undef) (w.setRow g #[.int .i64 r1, .int .i64 r2, .slice A n c])) : wpList Tryz.prog ops Q (o :: rest) a w :=
  wpList_store_row hgd 56 x y ho g _ hx hy t old hg fsz (by rw [hold]; rfl) (by kernel_rfl) h
theorem f_fetch {ops : Array Oper} {rest : List Oper} {op : Oper} {a : Act} {w : World} {Q : Exit → Act → World → Prop} (hw : Region.wanted op (yielded ops a.tmps) = true) (x : Operand) (ho : op.op = .load 56 x)
    (g o : Nat) (r1 r2 : Int) (A : Option Addr) (n c : Nat) (hx : a.eval x = .pointer (some ⟨g, o, none⟩)) (hc : w.rangeAt g o [.int .i64 r1, .int .i64 r2, .slice A n c]) (h : wpList Tryz.prog ops Q rest (a.put op.dst (.agg #[.int .i64 r1, .int .i64 r2, .slice A n c])) w) : wpList Tryz.prog ops Q (op :: rest) a w :=
  BigFrame.wpList_want hw fun _ hK => wp_load_mid 56 x ho g o hx [.int .i64 r1, .int .i64 r2, .slice A n c] _ hc Tryz.underlying56 rfl fsz (hK _ _ h)
theorem f_mid {ops : Array Oper} {rest : List Oper} {o : Oper} {a : Act} {w : World} {Q : Exit → Act → World → Prop} (hgd : o.guard = none) (x y : Operand) (ho : o.op = .store 56 x y) (g off : Nat) (r1 r2 : Int) (A : Option Addr) (n c : Nat)
    (hx : a.eval x = .pointer (some ⟨g, off, none⟩)) (hy : a.eval y = .agg #[.int .i64 r1, .int .i64 r2, .slice A n c]) (ht : w.there g off 3)
    (h : wpList Tryz.prog ops Q rest (a.put o.dst undef) (w.setCells g off [.int .i64 r1, .int .i64 r2, .slice A n c])) : wpList Tryz.prog ops Q (o :: rest) a w :=
  wpList_store_mid hgd 56 x y ho g off #[.int .i64 r1, .int .i64 r2, .slice A n c] hx hy ht fsz (by kernel_rfl) h

def fdata (r : Raw) : List Int := if encE r = 0 then encB r else []
def FaultOf (w : World) (r : Raw) (is : Bool) (e : Ending) (w' : World) : Prop :=
  ∃ A n c, e = .returned (.agg #[.int .i64 3, .int .i64 (if is then 4 else 2), .slice A n c]) ∧ OwnB w.heap.size w' (.slice A n c) (fdata r) ∧ Below w.heap.size w w'
theorem bytesOf_shape {w w' : World} {r : Raw} {e : Ending} (h : BytesOf w r e w') : ∃ A n c ee, e = .returned (.tuple #[.slice A n c, .int .i64 ee]) ∧ OwnB w.heap.size w' (.slice A n c) (fdata r) ∧ Below w.heap.size w w' := by
  obtain ⟨hB, h⟩ := h
  split at h
  · rename_i h0
    obtain ⟨v, rfl, ho⟩ := h
    obtain ⟨A, c, rfl, _, _⟩ := ho.at_
    exact ⟨A, _, c, 0, rfl, by unfold fdata; rw [if_pos h0]; exact ho, hB⟩
  · rename_i h0
    exact ⟨none, 0, 0, _, h, by unfold fdata; rw [if_neg h0]; exact OwnB.nil_ _ _, hB⟩
theorem OwnB.grow_row {lo : Nat} {w : World} {v : Value} {l : List Int} {g : Nat} {t : TypeId} {cs ds : Array Value} (h : OwnB lo w v l) (hg : Blk w g t cs) (ht : t ≠ 5) : OwnB lo (w.setRow g ds) v l :=
  h.keep fun i c hi _ _ => setRow_other w g i _ (row_ne hi hg (Ne.symm ht))
theorem OwnB.grow_cell {lo : Nat} {w : World} {v : Value} {l : List Int} {p : Addr} {t : TypeId} {cs : Array Value} {u : Value} (h : OwnB lo w v l) (hg : Blk w p.block t cs) (ht : t ≠ 5) : OwnB lo (w.setCell p u) v l :=
  h.keep fun i c hi _ _ => Below.heap_setCell w p u i (row_ne hi hg (Ne.symm ht))

set_option maxHeartbeats 1000000 in
theorem faultOf_is (w : World) (f k : Int) (A : Option Addr) (n c : Nat) (v : List Int) (is : Bool) (hr : Rd w w.heap.size A n v) (hm : n ≤ 140737488351232) :
    Calls Tryz.prog 171 #[.agg #[.int .i64 f, .int .i64 k, .slice A n c], .bool is] w (FaultOf w (f, k, v) is) := by
  have HR := Lib.hid hr
  clear hr
  have hB0 : Below w.heap.size w ((w.alloc (.cells #[.int .i64 f, .int .i64 k, .slice A n c] 67)).alloc (.cells #[.int .i64 0, .int .i64 0, .slice none 0 0] 56)) := ((Below.refl _ _).alloc (Nat.le_refl _) _).alloc (by simp) _
  have HBr := Lib.hid ((Blk.new w 67 #[.int .i64 f, .int .i64 k, .slice A n c]).alloc (.cells #[.int .i64 0, .int .i64 0, .slice none 0 0] 56))
  have HBo : Hid (Blk ((w.alloc (.cells #[.int .i64 f, .int .i64 k, .slice A n c] 67)).alloc (.cells #[.int .i64 0, .int .i64 0, .slice none 0 0] 56)) (w.heap.size + 1) 56 #[.int .i64 0, .int .i64 0, .slice none 0 0]) := Lib.hid (by have := Blk.new (w.alloc (.cells #[.int .i64 f, .int .i64 k, .slice A n c] 67)) 56 #[.int .i64 0, .int .i64 0, .slice none 0 0]; simpa using this)
  have HB0 := Lib.hid hB0
  have HZ0 : Hid (((w.alloc (.cells #[.int .i64 f, .int .i64 k, .slice A n c] 67)).alloc (.cells #[.int .i64 0, .int .i64 0, .slice none 0 0] 56)).heap.size = w.heap.size + 1 + 1) := Lib.hid (by simp)
  clear hB0
  go_enter Tryz.func171, Tryz.ntmps171
  generalize hw0 : ((w.alloc (.cells #[.int .i64 f, .int .i64 k, .slice A n c] 67)).alloc (.cells #[.int .i64 0, .int .i64 0, .slice none 0 0] 56)) = w0 at *
  have hal : Below w0.heap.size w0 (w0.alloc (.cells #[.int .i64 0, .int .i64 0, .slice none 0 0] 56)) := (Below.refl _ _).alloc (Nat.le_refl _) _
  have HBf : Hid (Blk (w0.alloc (.cells #[.int .i64 0, .int .i64 0, .slice none 0 0] 56)) (w.heap.size + 1 + 1) 56 #[.int .i64 0, .int .i64 0, .slice none 0 0]) := Lib.hid (by have := Blk.new w0 56 #[.int .i64 0, .int .i64 0, .slice none 0 0]; rwa [HZ0.out] at this)
  have HBr1 := Lib.hid (HBr.out.below hal HBr.out.lt)
  have HBo1 := Lib.hid (HBo.out.below hal HBo.out.lt)
  have HB1 := Lib.hid (HB0.out.trans (hal.mono HB0.out.size))
  clear hal HBr HBo HB0
  subst hw0
  have HBs : Hid (∀ W, Below w.heap.size w W → w.heap.size ≤ W.heap.size → Calls Tryz.prog 98 #[.agg #[.int .i64 f, .int .i64 k, .slice A n c]] W (BytesOf W (f, k, v))) := Lib.hid fun W hB hs => bytesOf_is W f k A n c v ((HR.out.below hB).more hs) (by omega)
  cases is with
  | false =>
    have h1f : Blk ((((w.alloc (.cells #[.int .i64 f, .int .i64 k, .slice A n c] 67)).alloc (.cells #[.int .i64 0, .int .i64 0, .slice none 0 0] 56)).alloc (.cells #[.int .i64 0, .int .i64 0, .slice none 0 0] 56)).setRow (w.heap.size + 1 + 1) #[.int .i64 3, .int .i64 2, .slice none 0 0]) (w.heap.size + 1 + 1) 56 #[.int .i64 3, .int .i64 2, .slice none 0 0] := Blk.setRow HBf.out _
    have h1r : Blk ((((w.alloc (.cells #[.int .i64 f, .int .i64 k, .slice A n c] 67)).alloc (.cells #[.int .i64 0, .int .i64 0, .slice none 0 0] 56)).alloc (.cells #[.int .i64 0, .int .i64 0, .slice none 0 0] 56)).setRow (w.heap.size + 1 + 1) #[.int .i64 3, .int .i64 2, .slice none 0 0]) w.heap.size 67 #[.int .i64 f, .int .i64 k, .slice A n c] := HBr1.out.row_other (by omega) _
    have h1o : Blk ((((w.alloc (.cells #[.int .i64 f, .int .i64 k, .slice A n c] 67)).alloc (.cells #[.int .i64 0, .int .i64 0, .slice none 0 0] 56)).alloc (.cells #[.int .i64 0, .int .i64 0, .slice none 0 0] 56)).setRow (w.heap.size + 1 + 1) #[.int .i64 3, .int .i64 2, .slice none 0 0]) (w.heap.size + 1) 56 #[.int .i64 0, .int .i64 0, .slice none 0 0] := HBo1.out.row_other (by omega) _
    have h1b : Below w.heap.size w ((((w.alloc (.cells #[.int .i64 f, .int .i64 k, .slice A n c] 67)).alloc (.cells #[.int .i64 0, .int .i64 0, .slice none 0 0] 56)).alloc (.cells #[.int .i64 0, .int .i64 0, .slice none 0 0] 56)).setRow (w.heap.size + 1 + 1) #[.int .i64 3, .int .i64 2, .slice none 0 0]) := HB1.out.trans (below_setRow _ _ _ (by omega))
    have x0 : ((((w.alloc (.cells #[.int .i64 f, .int .i64 k, .slice A n c] 67)).alloc (.cells #[.int .i64 0, .int .i64 0, .slice none 0 0] 56)).alloc (.cells #[.int .i64 0, .int .i64 0, .slice none 0 0] 56)).setRow (w.heap.size + 1 + 1) #[.int .i64 3, .int .i64 2, .slice none 0 0]).cell? ⟨w.heap.size, 0, none⟩ = some (.int .i64 f) := h1r.cell 0
    have x1 : ((((w.alloc (.cells #[.int .i64 f, .int .i64 k, .slice A n c] 67)).alloc (.cells #[.int .i64 0, .int .i64 0, .slice none 0 0] 56)).alloc (.cells #[.int .i64 0, .int .i64 0, .slice none 0 0] 56)).setRow (w.heap.size + 1 + 1) #[.int .i64 3, .int .i64 2, .slice none 0 0]).cell? ⟨w.heap.size, 0 + 1, none⟩ = some (.int .i64 k) := h1r.cell 1
    have x2 : ((((w.alloc (.cells #[.int .i64 f, .int .i64 k, .slice A n c] 67)).alloc (.cells #[.int .i64 0, .int .i64 0, .slice none 0 0] 56)).alloc (.cells #[.int .i64 0, .int .i64 0, .slice none 0 0] 56)).setRow (w.heap.size + 1 + 1) #[.int .i64 3, .int .i64 2, .slice none 0 0]).cell? ⟨w.heap.size, 0 + 2, none⟩ = some (.slice A n c) := h1r.cell 2
    have X0 := Lib.hid x0
    have X1 := Lib.hid x1
    have X2 := Lib.hid x2
    have HF := Lib.hid h1f
    have HO := Lib.hid h1o
    have HBW := Lib.hid h1b
    have HC := Lib.hid (HBs.out _ h1b h1b.size)
    clear x0 x1 x2 h1f h1r h1o h1b HBr1 HBo1 HB1 HBs
    go_wp2_with (first | (refine f_store (o := ⟨_, .store 56 _ _, _, _, _, _⟩) rfl _ _ rfl (w.heap.size + 1 + 1) 3 2 none 0 0 rfl rfl 56 _ HBf.out rfl ?_) | (refine raw_fetch rfl _ rfl w.heap.size 0 f k A n c rfl X0.out X1.out X2.out ?_))
    refine HC.out.mono ?_
    generalize ((((w.alloc (.cells #[.int .i64 f, .int .i64 k, .slice A n c] 67)).alloc (.cells #[.int .i64 0, .int .i64 0, .slice none 0 0] 56)).alloc (.cells #[.int .i64 0, .int .i64 0, .slice none 0 0] 56)).setRow (w.heap.size + 1 + 1) #[.int .i64 3, .int .i64 2, .slice none 0 0]) = w1 at *
    rintro e w2 hbo
    obtain ⟨Ad, nd, cd, ee, rfl, hod, hB2⟩ := bytesOf_shape hbo
    have h2f := HF.out.below hB2 HF.out.lt
    have h2o := HO.out.below hB2 HO.out.lt
    have c2 : w2.cell? ⟨w.heap.size + 1 + 1, 2, none⟩ = some (.slice none 0 0) := h2f.cell 2
    have f2 : w2.frozen? ⟨w.heap.size + 1 + 1, 2, none⟩ = false := h2f.frozen 2
    have h3f : Blk (w2.setCell ⟨w.heap.size + 1 + 1, 2, none⟩ (.slice Ad nd cd)) (w.heap.size + 1 + 1) 56 #[.int .i64 3, .int .i64 2, .slice Ad nd cd] := h2f.set_ 2 _
    have HR3 := Lib.hid (Blk.range (cs := [.int .i64 3, .int .i64 2, .slice Ad nd cd]) h3f)
    have HO3 : Hid (Blk (w2.setCell ⟨w.heap.size + 1 + 1, 2, none⟩ (.slice Ad nd cd)) (w.heap.size + 1) 56 #[.int .i64 0, .int .i64 0, .slice none 0 0]) := Lib.hid (h2o.far (p := ⟨w.heap.size + 1 + 1, 2, none⟩) (by simp) _)
    have hB3 : Below w.heap.size w (w2.setCell ⟨w.heap.size + 1 + 1, 2, none⟩ (.slice Ad nd cd)) := (HBW.out.trans (hB2.mono HBW.out.size)).setCell (by simp; omega) _
    have hod3 : OwnB w.heap.size (w2.setCell ⟨w.heap.size + 1 + 1, 2, none⟩ (.slice Ad nd cd)) (.slice Ad nd cd) (fdata (f, k, v)) := (hod.low HBW.out.size).grow_cell (p := ⟨w.heap.size + 1 + 1, 2, none⟩) h2f (by decide)
    have HE : Hid (FaultOf w (f, k, v) false (.returned (.agg #[.int .i64 3, .int .i64 2, .slice Ad nd cd])) ((w2.setCell ⟨w.heap.size + 1 + 1, 2, none⟩ (.slice Ad nd cd)).setRow (w.heap.size + 1) #[.int .i64 3, .int .i64 2, .slice Ad nd cd])) := Lib.hid ⟨Ad, nd, cd, rfl, hod3.grow_row HO3.out (by decide), hB3.trans (below_setRow _ _ _ (by omega))⟩
    clear hbo hod hB2 h2f h2o h3f hB3 hod3
    go_wp2_with (first | (refine f_fetch rfl _ rfl (w.heap.size + 1 + 1) 0 3 2 Ad nd cd rfl HR3.out ?_) | (refine f_store rfl _ _ rfl (w.heap.size + 1) 3 2 Ad nd cd rfl rfl 56 _ HO3.out rfl ?_))
    try simp only [Exit.inBlock, Exit.then]
    exact bodyPost_ret (results_cell_row rfl _ _ (w.heap.size + 1) 56 _ (0, 0) _ rfl (Blk.setRow HO3.out _) Tryz.underlying56 rfl fsz) rfl HE.out
  | true =>
    have h1f : Blk ((((w.alloc (.cells #[.int .i64 f, .int .i64 k, .slice A n c] 67)).alloc (.cells #[.int .i64 0, .int .i64 0, .slice none 0 0] 56)).alloc (.cells #[.int .i64 0, .int .i64 0, .slice none 0 0] 56)).setRow (w.heap.size + 1 + 1) #[.int .i64 3, .int .i64 2, .slice none 0 0]) (w.heap.size + 1 + 1) 56 #[.int .i64 3, .int .i64 2, .slice none 0 0] := Blk.setRow HBf.out _
    have h1r : Blk ((((w.alloc (.cells #[.int .i64 f, .int .i64 k, .slice A n c] 67)).alloc (.cells #[.int .i64 0, .int .i64 0, .slice none 0 0] 56)).alloc (.cells #[.int .i64 0, .int .i64 0, .slice none 0 0] 56)).setRow (w.heap.size + 1 + 1) #[.int .i64 3, .int .i64 2, .slice none 0 0]) w.heap.size 67 #[.int .i64 f, .int .i64 k, .slice A n c] := HBr1.out.row_other (by omega) _
    have h1o : Blk ((((w.alloc (.cells #[.int .i64 f, .int .i64 k, .slice A n c] 67)).alloc (.cells #[.int .i64 0, .int .i64 0, .slice none 0 0] 56)).alloc (.cells #[.int .i64 0, .int .i64 0, .slice none 0 0] 56)).setRow (w.heap.size + 1 + 1) #[.int .i64 3, .int .i64 2, .slice none 0 0]) (w.heap.size + 1) 56 #[.int .i64 0, .int .i64 0, .slice none 0 0] := HBo1.out.row_other (by omega) _
    have h1b : Below w.heap.size w ((((w.alloc (.cells #[.int .i64 f, .int .i64 k, .slice A n c] 67)).alloc (.cells #[.int .i64 0, .int .i64 0, .slice none 0 0] 56)).alloc (.cells #[.int .i64 0, .int .i64 0, .slice none 0 0] 56)).setRow (w.heap.size + 1 + 1) #[.int .i64 3, .int .i64 2, .slice none 0 0]) := HB1.out.trans (below_setRow _ _ _ (by omega))
    have c1 : ((((w.alloc (.cells #[.int .i64 f, .int .i64 k, .slice A n c] 67)).alloc (.cells #[.int .i64 0, .int .i64 0, .slice none 0 0] 56)).alloc (.cells #[.int .i64 0, .int .i64 0, .slice none 0 0] 56)).setRow (w.heap.size + 1 + 1) #[.int .i64 3, .int .i64 2, .slice none 0 0]).cell? ⟨w.heap.size + 1 + 1, 1, none⟩ = some (.int .i64 2) := h1f.cell 1
    have f1 : ((((w.alloc (.cells #[.int .i64 f, .int .i64 k, .slice A n c] 67)).alloc (.cells #[.int .i64 0, .int .i64 0, .slice none 0 0] 56)).alloc (.cells #[.int .i64 0, .int .i64 0, .slice none 0 0] 56)).setRow (w.heap.size + 1 + 1) #[.int .i64 3, .int .i64 2, .slice none 0 0]).frozen? ⟨w.heap.size + 1 + 1, 1, none⟩ = false := h1f.frozen 1
    have h2f : Blk (((((w.alloc (.cells #[.int .i64 f, .int .i64 k, .slice A n c] 67)).alloc (.cells #[.int .i64 0, .int .i64 0, .slice none 0 0] 56)).alloc (.cells #[.int .i64 0, .int .i64 0, .slice none 0 0] 56)).setRow (w.heap.size + 1 + 1) #[.int .i64 3, .int .i64 2, .slice none 0 0]).setCell ⟨w.heap.size + 1 + 1, 1, none⟩ (.int .i64 4)) (w.heap.size + 1 + 1) 56 #[.int .i64 3, .int .i64 4, .slice none 0 0] := h1f.set_ 1 _
    have h2r : Blk (((((w.alloc (.cells #[.int .i64 f, .int .i64 k, .slice A n c] 67)).alloc (.cells #[.int .i64 0, .int .i64 0, .slice none 0 0] 56)).alloc (.cells #[.int .i64 0, .int .i64 0, .slice none 0 0] 56)).setRow (w.heap.size + 1 + 1) #[.int .i64 3, .int .i64 2, .slice none 0 0]).setCell ⟨w.heap.size + 1 + 1, 1, none⟩ (.int .i64 4)) w.heap.size 67 #[.int .i64 f, .int .i64 k, .slice A n c] := h1r.far (p := ⟨w.heap.size + 1 + 1, 1, none⟩) (by simp; omega) _
    have h2o : Blk (((((w.alloc (.cells #[.int .i64 f, .int .i64 k, .slice A n c] 67)).alloc (.cells #[.int .i64 0, .int .i64 0, .slice none 0 0] 56)).alloc (.cells #[.int .i64 0, .int .i64 0, .slice none 0 0] 56)).setRow (w.heap.size + 1 + 1) #[.int .i64 3, .int .i64 2, .slice none 0 0]).setCell ⟨w.heap.size + 1 + 1, 1, none⟩ (.int .i64 4)) (w.heap.size + 1) 56 #[.int .i64 0, .int .i64 0, .slice none 0 0] := h1o.far (p := ⟨w.heap.size + 1 + 1, 1, none⟩) (by simp) _
    have h2b : Below w.heap.size w (((((w.alloc (.cells #[.int .i64 f, .int .i64 k, .slice A n c] 67)).alloc (.cells #[.int .i64 0, .int .i64 0, .slice none 0 0] 56)).alloc (.cells #[.int .i64 0, .int .i64 0, .slice none 0 0] 56)).setRow (w.heap.size + 1 + 1) #[.int .i64 3, .int .i64 2, .slice none 0 0]).setCell ⟨w.heap.size + 1 + 1, 1, none⟩ (.int .i64 4)) := h1b.setCell (by simp; omega) _
    have x0 : (((((w.alloc (.cells #[.int .i64 f, .int .i64 k, .slice A n c] 67)).alloc (.cells #[.int .i64 0, .int .i64 0, .slice none 0 0] 56)).alloc (.cells #[.int .i64 0, .int .i64 0, .slice none 0 0] 56)).setRow (w.heap.size + 1 + 1) #[.int .i64 3, .int .i64 2, .slice none 0 0]).setCell ⟨w.heap.size + 1 + 1, 1, none⟩ (.int .i64 4)).cell? ⟨w.heap.size, 0, none⟩ = some (.int .i64 f) := h2r.cell 0
    have x1 : (((((w.alloc (.cells #[.int .i64 f, .int .i64 k, .slice A n c] 67)).alloc (.cells #[.int .i64 0, .int .i64 0, .slice none 0 0] 56)).alloc (.cells #[.int .i64 0, .int .i64 0, .slice none 0 0] 56)).setRow (w.heap.size + 1 + 1) #[.int .i64 3, .int .i64 2, .slice none 0 0]).setCell ⟨w.heap.size + 1 + 1, 1, none⟩ (.int .i64 4)).cell? ⟨w.heap.size, 0 + 1, none⟩ = some (.int .i64 k) := h2r.cell 1
    have x2 : (((((w.alloc (.cells #[.int .i64 f, .int .i64 k, .slice A n c] 67)).alloc (.cells #[.int .i64 0, .int .i64 0, .slice none 0 0] 56)).alloc (.cells #[.int .i64 0, .int .i64 0, .slice none 0 0] 56)).setRow (w.heap.size + 1 + 1) #[.int .i64 3, .int .i64 2, .slice none 0 0]).setCell ⟨w.heap.size + 1 + 1, 1, none⟩ (.int .i64 4)).cell? ⟨w.heap.size, 0 + 2, none⟩ = some (.slice A n c) := h2r.cell 2
    have X0 := Lib.hid x0
    have X1 := Lib.hid x1
    have X2 := Lib.hid x2
    have HF := Lib.hid h2f
    have HO := Lib.hid h2o
    have HBW := Lib.hid h2b
    have HC := Lib.hid (HBs.out _ h2b h2b.size)
    clear x0 x1 x2 h1f h1r h1o h1b h2f h2r h2o h2b HBr1 HBo1 HB1 HBs
    go_wp2_with (first | (refine f_store (o := ⟨_, .store 56 _ _, _, _, _, _⟩) rfl _ _ rfl (w.heap.size + 1 + 1) 3 2 none 0 0 rfl rfl 56 _ HBf.out rfl ?_) | (refine raw_fetch rfl _ rfl w.heap.size 0 f k A n c rfl X0.out X1.out X2.out ?_))
    refine HC.out.mono ?_
    generalize (((((w.alloc (.cells #[.int .i64 f, .int .i64 k, .slice A n c] 67)).alloc (.cells #[.int .i64 0, .int .i64 0, .slice none 0 0] 56)).alloc (.cells #[.int .i64 0, .int .i64 0, .slice none 0 0] 56)).setRow (w.heap.size + 1 + 1) #[.int .i64 3, .int .i64 2, .slice none 0 0]).setCell ⟨w.heap.size + 1 + 1, 1, none⟩ (.int .i64 4)) = w1 at *
    rintro e w2 hbo
    obtain ⟨Ad, nd, cd, ee, rfl, hod, hB2⟩ := bytesOf_shape hbo
    have h2f := HF.out.below hB2 HF.out.lt
    have h2o := HO.out.below hB2 HO.out.lt
    have c2 : w2.cell? ⟨w.heap.size + 1 + 1, 2, none⟩ = some (.slice none 0 0) := h2f.cell 2
    have f2 : w2.frozen? ⟨w.heap.size + 1 + 1, 2, none⟩ = false := h2f.frozen 2
    have h3f : Blk (w2.setCell ⟨w.heap.size + 1 + 1, 2, none⟩ (.slice Ad nd cd)) (w.heap.size + 1 + 1) 56 #[.int .i64 3, .int .i64 4, .slice Ad nd cd] := h2f.set_ 2 _
    have HR3 := Lib.hid (Blk.range (cs := [.int .i64 3, .int .i64 4, .slice Ad nd cd]) h3f)
    have HO3 : Hid (Blk (w2.setCell ⟨w.heap.size + 1 + 1, 2, none⟩ (.slice Ad nd cd)) (w.heap.size + 1) 56 #[.int .i64 0, .int .i64 0, .slice none 0 0]) := Lib.hid (h2o.far (p := ⟨w.heap.size + 1 + 1, 2, none⟩) (by simp) _)
    have hB3 : Below w.heap.size w (w2.setCell ⟨w.heap.size + 1 + 1, 2, none⟩ (.slice Ad nd cd)) := (HBW.out.trans (hB2.mono HBW.out.size)).setCell (by simp; omega) _
    have hod3 : OwnB w.heap.size (w2.setCell ⟨w.heap.size + 1 + 1, 2, none⟩ (.slice Ad nd cd)) (.slice Ad nd cd) (fdata (f, k, v)) := (hod.low HBW.out.size).grow_cell (p := ⟨w.heap.size + 1 + 1, 2, none⟩) h2f (by decide)
    have HE : Hid (FaultOf w (f, k, v) true (.returned (.agg #[.int .i64 3, .int .i64 4, .slice Ad nd cd])) ((w2.setCell ⟨w.heap.size + 1 + 1, 2, none⟩ (.slice Ad nd cd)).setRow (w.heap.size + 1) #[.int .i64 3, .int .i64 4, .slice Ad nd cd])) := Lib.hid ⟨Ad, nd, cd, rfl, hod3.grow_row HO3.out (by decide), hB3.trans (below_setRow _ _ _ (by omega))⟩
    clear hbo hod hB2 h2f h2o h3f hB3 hod3
    go_wp2_with (first | (refine f_fetch rfl _ rfl (w.heap.size + 1 + 1) 0 3 4 Ad nd cd rfl HR3.out ?_) | (refine f_store rfl _ _ rfl (w.heap.size + 1) 3 4 Ad nd cd rfl rfl 56 _ HO3.out rfl ?_))
    try simp only [Exit.inBlock, Exit.then]
    exact bodyPost_ret (results_cell_row rfl _ _ (w.heap.size + 1) 56 _ (0, 0) _ rfl (Blk.setRow HO3.out _) Tryz.underlying56 rfl fsz) rfl HE.out

def Rst (w : World) (g : Nat) (sub : Int) (data : List Int) : Prop := w.cell? ⟨g, 27, none⟩ = some (.int .i64 3) ∧ ∃ A n c, w.rangeAt g 28 [.int .i64 3, .int .i64 sub, .slice A n c] ∧ OwnB (g + 1) w (.slice A n c) data
theorem IsR.rst {w : World} {g : Nat} {a : Att} {c : Int} {sn : Nat → Bool} (h : IsR w g a c sn) (h3 : w.cell? ⟨g, 27, none⟩ = some (.int .i64 3)) {sub : Int} {A : Option Addr} {n cp : Nat} {data : List Int} (hd : OwnB (g + 1) w (.slice A n cp) data) : Rst (w.setCells g 28 [.int .i64 3, .int .i64 sub, .slice A n cp]) g sub data := by
  have hg : w.grownBy (w.setCells g 28 [.int .i64 3, .int .i64 sub, .slice A n cp]) (some g) := only_setCells (.inl rfl) _ _ _ (only_refl w _)
  refine ⟨(World.cell?_setCells_out g _ _ _ _ (fun _ _ => .inl (by show 27 < 28; omega))).trans h3, A, n, cp, World.rangeAt_setCells_same w g 28 _ h.flt, ?_⟩
  exact hd.keep fun i c hi hl _ => hg.block i (Array.getElem?_eq_some_iff.1 hi).1 (fun e => by injection e with e; omega)
def Snd (w : World) (g : Nat) (a : Att) (c : Int) (sn : Nat → Bool) (k : Int) (e : Ending) (w' : World) : Prop :=
  e = .returned (.tuple #[]) ∧ w.grownBy w' (some g) ∧ if k = 14 ∨ k = 15 then Rst w' g 1 [] else IsR w' g a (max c 1) sn

set_option maxHeartbeats 1000000 in
theorem readSecond_is (w : World) (g : Nat) (a : Att) (c : Int) (sn : Nat → Bool) (k : Int) (h : IsR w g a c sn) (h0 : 0 ≤ c) (h2 : c ≤ 2) :
    Calls Tryz.prog 169 #[.pointer (some ⟨g, 0, none⟩), .int .i64 k] w (Snd w g a c sn k) := by
  have HH := Lib.hid h
  have c27 := h.cls
  have f27 := h.fz 27
  have h3 := h.putCls 3
  have HE1 : Hid (k = 14 ∨ k = 15 → Snd w g a c sn k (.returned (.tuple #[])) ((w.setCell ⟨g, 27, none⟩ (.int .i64 3)).setCells g 28 [.int .i64 3, .int .i64 1, .slice none 0 0])) := Lib.hid fun hk => ⟨rfl, only_setCells (.inl rfl) _ _ _ (only_setCell (only_refl w _) (.inl rfl) _), by rw [if_pos hk]; exact h3.rst h3.cls (OwnB.nil_ _ _)⟩
  have HE2 : Hid (¬ (k = 14 ∨ k = 15) → ∀ c', c' = max c 1 → Snd w g a c sn k (.returned (.tuple #[])) (w.setCell ⟨g, 27, none⟩ (.int .i64 c'))) := Lib.hid fun hk c' hc => ⟨rfl, only_setCell (only_refl w _) (.inl rfl) _, by rw [if_neg hk, ← hc]; exact h.putCls _⟩
  have HT := Lib.hid h3.flt
  clear h h3
  by_cases h14 : k = 14
  · subst h14
    have HE := Lib.hid (HE1.out (.inl rfl))
    clear HE1 HE2
    go_enter Tryz.func169, Tryz.ntmps169
    go_wp2_with (refine f_mid rfl _ _ rfl g 28 3 1 none 0 0 rfl rfl HT.out ?_)
    go_end0
    exact HE.out
  · have e14 : (k == 14) = false := by simpa using h14
    by_cases h15 : k = 15
    · subst h15
      have HE := Lib.hid (HE1.out (.inr rfl))
      clear HE1 HE2
      go_enter Tryz.func169, Tryz.ntmps169
      go_wp2_with (refine f_mid rfl _ _ rfl g 28 3 1 none 0 0 rfl rfl HT.out ?_)
      go_end0
      exact HE.out
    · have e15 : (k == 15) = false := by simpa using h15
      have HE := Lib.hid (HE2.out (by omega))
      clear HE1 HE2
      have hc : c = 0 ∨ c = 1 ∨ c = 2 := by omega
      rcases hc with rfl | rfl | rfl
      all_goals
        go_enter Tryz.func169, Tryz.ntmps169
        go_wp2
        go_end0
        exact HE.out _ (by omega)
end Go.Proofs.YtdgoeibfggjbmaaGreatDoor
