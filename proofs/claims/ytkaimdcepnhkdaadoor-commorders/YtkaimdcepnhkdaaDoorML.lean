/-
  Put together: ComO ComP ComY.
-/
import Derived.Test.YtkaimdcepnhkdaaDoorMK
import Derived.Test.YtkaimdcepnhkdaaDoorMD
import Derived.Maps.AppendAt
import Derived.Maps.OwnSet
import Derived.DeepKeys4
import Derived.DeepKeys5
import Derived.WalkKit
import Derived.ProofKit
import Derived.OpenShut
import Derived.ChangeOld
import Derived.SizedLaws
import Derived.Deep.Slices
import Derived.Deep.Fields
import Derived.ChangeSame
namespace Go.Proofs.YtkaimdcepnhkdaaDoor
open Go.RowKit
set_option linter.unusedSimpArgs false
set_option linter.unusedVariables false

/-- The cells of a list of communities. -/
def u8ss (ls : List (List Int)) : List Value := ls.flatMap u8s
def All8 (ls : List (List Int)) : Prop := ∀ l ∈ ls, l.length = 8 ∧ Oct l
theorem All8.nil_ : All8 [] := fun l h => by cases h
theorem All8.app {a b : List (List Int)} (ha : All8 a) (hb : All8 b) : All8 (a ++ b) := fun l h => (List.mem_append.1 h).elim (ha l) (hb l)
theorem All8.at_ {ls : List (List Int)} (h : All8 ls) (i : Nat) (hi : i < ls.length) : ls[i].length = 8 ∧ Oct ls[i] := h _ (List.getElem_mem hi)
theorem u8ss_len : ∀ (ls : List (List Int)), All8 ls → (u8ss ls).length = ls.length * 8
  | [], _ => rfl
  | l :: ls, h => by
    have h1 := (h l List.mem_cons_self).1
    have h2 := u8ss_len ls (fun x hx => h x (List.mem_cons_of_mem _ hx))
    unfold u8ss at *
    rw [List.flatMap_cons, List.length_append, h2]
    simp [h1]
    omega
theorem u8ss_get : ∀ (ls : List (List Int)), All8 ls → ∀ (i j : Nat) (hi : i < ls.length), j < 8 → (u8ss ls)[i * 8 + j]? = (u8s ls[i])[j]?
  | l :: ls, h, 0, j, hi, hj => by
    have h1 := (h l List.mem_cons_self).1
    unfold u8ss
    rw [List.flatMap_cons, List.getElem?_append_left (by simp [h1]; omega)]
    simp
  | l :: ls, h, i + 1, j, hi, hj => by
    have h1 := (h l List.mem_cons_self).1
    have h2 := u8ss_get ls (fun x hx => h x (List.mem_cons_of_mem _ hx)) i j (by simpa using hi) hj
    unfold u8ss at *
    have hl : (u8s l).length = 8 := by simp [h1]
    rw [List.flatMap_cons, List.getElem?_append_right (by rw [hl]; omega), hl, show (i + 1) * 8 + j - 8 = i * 8 + j by omega, h2]
    simp
theorem u8ss_app (a b : List (List Int)) : u8ss (a ++ b) = u8ss a ++ u8ss b := by simp [u8ss]

/-- A slice of communities that reads as ls. -/
structure RdC (w : World) (B : Nat) (A : Option Addr) (n : Nat) (ls : List (List Int)) : Prop where
  len : ls.length = n
  ok : All8 ls
  at_ : 0 < n → ∃ b off, A = some ⟨b, off, none⟩ ∧ b < B ∧ ∀ i (h : i < ls.length), w.rangeAt b (off + i * 8) (u8s ls[i])
theorem RdC.below {w w' : World} {B n : Nat} {A : Option Addr} {ls : List (List Int)} (h : RdC w B A n ls) (hb : Below B w w') : RdC w' B A n ls :=
  ⟨h.len, h.ok, fun hn => by
    obtain ⟨b, off, e, hlt, hc⟩ := h.at_ hn
    exact ⟨b, off, e, hlt, fun i hi => range_below (hc i hi) hb hlt⟩⟩
theorem RdC.mono {w : World} {B B' n : Nat} {A : Option Addr} {ls : List (List Int)} (h : RdC w B A n ls) (hb : B ≤ B') : RdC w B' A n ls :=
  ⟨h.len, h.ok, fun hn => by
    obtain ⟨b, off, e, hlt, hc⟩ := h.at_ hn
    exact ⟨b, off, e, Nat.lt_of_lt_of_le hlt hb, hc⟩⟩
/-- A row of one's own. -/
structure OwnC (lo : Nat) (w : World) (v : Value) (ls : List (List Int)) : Prop where
  own : w.ownsRow lo 52 8 v ls.length (u8ss ls)
  ok : All8 ls
theorem OwnC.rd {lo : Nat} {w : World} {v : Value} {ls : List (List Int)} (h : OwnC lo w v ls) : ∃ A c, v = .slice A ls.length c ∧ RdC w w.heap.size A ls.length ls := by
  rcases h.own.2 with ⟨rfl, hn⟩ | ⟨g, cap, cur, rfl, hb, hg, hnc, hcm, hcs, hx⟩
  · exact ⟨none, 0, by rw [hn], ⟨rfl, h.ok, fun hp => by omega⟩⟩
  · refine ⟨_, cap, rfl, ⟨rfl, h.ok, fun _ => ⟨g, 0, rfl, (Array.getElem?_eq_some_iff.1 hg).1, fun i hi j u hu => ?_⟩⟩⟩
    have hj : j < 8 := by
      have h1 := (List.getElem?_eq_some_iff.1 hu).1
      rw [u8s, List.length_map, (h.ok.at_ i hi).1] at h1
      exact h1
    have h1 := u8ss_get ls h.ok i j hi hj
    rw [hu, ← hx, List.getElem?_take, if_pos (by omega)] at h1
    rw [Nat.zero_add]
    simp only [World.cell?, hg]
    rw [← Array.getElem?_toList]
    exact h1
theorem OwnC.below {lo : Nat} {w w' : World} {v : Value} {ls : List (List Int)} (h : OwnC lo w v ls) (hb : Below w.heap.size w w') : OwnC lo w' v ls := by
  refine ⟨⟨h.own.1, ?_⟩, h.ok⟩
  rcases h.own.2 with hn | ⟨g, cap, cur, hv, hbase, hg, hr⟩
  · exact Or.inl hn
  · exact Or.inr ⟨g, cap, cur, hv, hbase, (hb.block g (Array.getElem?_eq_some_iff.1 hg).1).trans hg, hr⟩
theorem fold8 (y : List Int) (hy : y.length = 8) : List.foldl (fun (cs : Array Value) (x : Value × Nat) => cs.setIfInBounds x.snd x.fst) #[Value.int .u8 0, Value.int .u8 0, Value.int .u8 0, Value.int .u8 0, Value.int .u8 0, Value.int .u8 0, Value.int .u8 0, Value.int .u8 0] (u8s y).zipIdx = (u8s y).toArray := by
  obtain ⟨a, b, c, d, e, f, g, h, rfl⟩ : ∃ a b c d e f g h, y = [a, b, c, d, e, f, g, h] := by
    match y, hy with
    | [a, b, c, d, e, f, g, h], _ => exact ⟨a, b, c, d, e, f, g, h, rfl⟩
  clear hy
  kernel_rfl
theorem info_comm : (Tryd.prog.info? 52).map (fun i => (i.zero, i.size, i.bytes)) = some (some (.agg zc8), 8, 8) := by kernel_rfl
theorem app_comm {ops : Array Oper} {rest : List Oper} {o : Oper} {a : Act} {Q : Exit → Act → World → Prop} (hgd : o.guard = none) (s x : Operand)
    (ho : o.op = .call { callee := .builtin .append, args := #[s, x], argTypes := #[69, 69] }) {lo : Nat} {w : World} {v : Value} {ls : List (List Int)} (h : OwnC lo w v ls) (hlo : lo ≤ w.heap.size) (hlen : ls.length ≤ 1000000)
    (l : List Int) (hl : l.length = 8) (ol : Oct l) (hs : a.eval s = v) (hx : a.eval x = .slice (some ⟨w.heap.size, 0, none⟩) 1 1)
    (hk : ∀ v' w', OwnC lo w' v' (ls ++ [l]) → Below lo w w' → wpList Tryd.prog ops Q rest (a.put o.dst v') w') :
    wpList Tryd.prog ops Q (o :: rest) a (w.alloc (.cells (u8s l).toArray 52)) := by
  obtain ⟨i, hi, hz0, hz1, hz2⟩ := info_parts info_comm
  have hB := Blk.new w 52 (u8s l).toArray
  refine wpList_append_own_at _ hgd s x 69 ho lo 52 i _ 8 8 Tryd.underlying69 hi hz0 hz1 hz2 rfl (by decide) v ls.length (u8ss ls) hs (h.own.alloc _) ⟨w.heap.size, 0, none⟩ 1 1 (u8s l) hx (by simp [hl]) ?_ ?_ (by unfold maxLen; omega) (by omega) (by simp; omega) ?_
  · intro j u hu
    rw [show ((⟨w.heap.size, 0, none⟩ : Addr).add j) = ⟨w.heap.size, j, none⟩ from by unfold Addr.add; split <;> simp_all, hB.cell]
    simpa using hu
  · exact u8s_one1 l
  · intro v' w' hown hgr _ _
    have hg2 : w.grownBy w' v.ownBlock := ⟨hgr.os, hgr.tape, hgr.output, Nat.le_trans (by simp) hgr.size, fun j hj hne => (hgr.block j (by simp; omega) hne).trans (Below.heap_alloc _ _ _ hj)⟩
    have hbel : Below lo w w' := (Below.refl lo w).grown hg2 hlo (fun i e => (h.own.lt i e).1)
    refine hk v' w' ⟨?_, h.ok.app (fun y hy => by cases List.mem_singleton.1 hy; exact ⟨hl, ol⟩)⟩ hbel
    rw [u8ss_app, show u8ss [l] = u8s l by simp [u8ss]]
    simpa using hown

set_option maxHeartbeats 1000000 in
set_option maxRecDepth 100000 in
theorem in_is (w : World) (A : Option Addr) (n c : Nat) (ls : List (List Int)) (x : List Int) (hr : RdC w w.heap.size A n ls) (hn : n ≤ 1000000) (hx : x.length = 8) (ox : Oct x) :
    Calls Tryd.prog 67 #[.slice A n c, .agg (u8s x).toArray] w fun e w' => e = .returned (.bool (decide (x ∈ ls))) ∧ Below w.heap.size w w' := by
  have HX := Lib.hid (Blk.new w 52 (u8s x).toArray)
  have HL := Lib.hid ((Below.refl w.heap.size w).alloc (Nat.le_refl _) (.cells (u8s x).toArray 52))
  have HR := Lib.hid hr
  have hlen := hr.len
  clear hr
  go_enter Tryd.func67, Tryd.ntmps67
  go_wp2
  go_loopw [6, 9] (fun _ i wr => ∃ m : Nat, m ≤ n ∧ i = .int .i64 m ∧ Blk wr w.heap.size 52 (u8s x).toArray ∧ Below w.heap.size w wr ∧ x ∉ ls.take m) (fun _ i _ => n - (intOf i).toNat)
  case atStart => exact ⟨0, Nat.zero_le _, rfl, HX.out, HL.out, by simp⟩
  case round =>
    obtain ⟨m, hm, rfl, hb, hw, hno⟩ := hrel
    have HNo := Lib.hid hno
    have HW := Lib.hid hw
    clear hno HX HL
    by_cases hlt : m < n
    · obtain ⟨b, off, rfl, hbl, hcell⟩ := HR.out.at_ (by omega)
      have hml : m < ls.length := by omega
      have ok := HR.out.ok.at_ m hml
      have HC := Lib.hid (range_below (hcell m hml) hw hbl)
      have HM := Lib.hid (List.take_succ_eq_append_getElem hml)
      clear hcell
      generalize ls[m] = y at *
      obtain ⟨b1, s0, s1⟩ := new_comm hw y
      have HN := Lib.hid (Blk.new wr 52 zc8)
      have HB1 := Lib.hid b1
      have HB2 := Lib.hid (hb.below s1 hb.lt)
      have HS := Lib.hid s0
      clear b1 s0 s1 hw hb
      by_cases he : y = x
      · subst he
        have hq := comm_eq y hx ox
        go_wp2_with (first
          | (refine comm_store rfl _ _ rfl wr.heap.size y ok.1 rfl rfl 52 zc8 HN.out rfl ?_)
          | (refine comm_fetch rfl _ rfl b (off + m * 8) y ok.1 rfl HC.out ?_)
          | (refine comm_fetch rfl _ rfl wr.heap.size 0 y ok.1 rfl HB1.out.range ?_)
          | (refine comm_fetch rfl _ rfl w.heap.size 0 y hx rfl HB2.out.range ?_))
        go_ret
        refine ⟨?_, HS.out⟩
        have hin : y ∈ ls := List.mem_of_mem_take (i := m + 1) (by rw [HM.out]; simp)
        simp [hin]
      · have hq := comm_eql y x ok.1 hx ok.2 ox false (by simpa using he)
        go_wp2_with (first
          | (refine comm_store rfl _ _ rfl wr.heap.size y ok.1 rfl rfl 52 zc8 HN.out rfl ?_)
          | (refine comm_fetch rfl _ rfl b (off + m * 8) y ok.1 rfl HC.out ?_)
          | (refine comm_fetch rfl _ rfl wr.heap.size 0 y ok.1 rfl HB1.out.range ?_)
          | (refine comm_fetch rfl _ rfl w.heap.size 0 x hx rfl HB2.out.range ?_))
        refine ⟨⟨m + 1, by omega, by go_num, HB2.out, HS.out, ?_⟩, by simp [intOf]; omega⟩
        rw [HM.out]
        intro h
        rcases List.mem_append.1 h with h | h
        · exact HNo.out h
        · exact he (List.mem_singleton.1 h).symm
    · obtain rfl : m = n := by omega
      go_wp2
      go_ret
      refine ⟨?_, HW.out⟩
      have := HNo.out
      rw [← hlen, List.take_length] at this
      simp [this]

/-- A target. -/
def isT (l : List Int) : Bool := decide ((kf (hd l)).1 = 1)
theorem isT_rd (l : List Int) : isT l = decide ((rdF l).kind = 1) := by
  have e : (rdF l).kind = (kf (hd l)).1 := by
    unfold rdF kf
    repeat' split
    all_goals first | rfl | omega
  unfold isT
  rw [e]
set_option maxHeartbeats 1000000 in
set_option maxRecDepth 100000 in
theorem tg_is (w : World) (A : Option Addr) (n c : Nat) (ls : List (List Int)) (hr : RdC w w.heap.size A n ls) (hn : n ≤ 1000000) :
    Calls Tryd.prog 58 #[.slice A n c] w fun e w' => ∃ v, e = .returned v ∧ OwnC w.heap.size w' v (ls.filter isT) ∧ Below w.heap.size w w' := by
  have HR := Lib.hid hr
  have hlen := hr.len
  clear hr
  go_enter Tryd.func58, Tryd.ntmps58
  go_wp2
  go_loopw [3, 5, 8] (fun v _ i wr => ∃ m : Nat, m ≤ n ∧ i = .int .i64 m ∧ OwnC w.heap.size wr v ((ls.take m).filter isT) ∧ Below w.heap.size w wr) (fun _ _ i _ => n - (intOf i).toNat)
  case atStart => exact ⟨0, Nat.zero_le _, rfl, ⟨World.ownsRow_nil _ _ _ _, All8.nil_⟩, Below.refl _ _⟩
  case round =>
    obtain ⟨m, hm, rfl, ho, hw⟩ := hrel
    by_cases hlt : m < n
    · obtain ⟨b, off, rfl, hbl, hcell⟩ := HR.out.at_ (by omega)
      have hml : m < ls.length := by omega
      have ok := HR.out.ok.at_ m hml
      have HC := Lib.hid (range_below (hcell m hml) hw hbl)
      have HM := Lib.hid (List.take_succ_eq_append_getElem hml)
      have HLen : Hid (((ls.take m).filter isT).length ≤ 1000000) := Lib.hid (Nat.le_trans (List.length_filter_le _ _) (by rw [List.length_take]; omega))
      clear hcell
      generalize ls[m] = y at *
      obtain ⟨b1, s0, s1⟩ := new_comm hw y
      have HN := Lib.hid (Blk.new wr 52 zc8)
      have HB1 := Lib.hid b1
      have HO := Lib.hid (ho.below s1)
      have HS := Lib.hid s0
      clear b1 s0 s1 hw ho
      go_wp2_with (first
        | (refine comm_store rfl _ _ rfl wr.heap.size y ok.1 rfl rfl 52 zc8 HN.out rfl ?_)
        | (refine comm_fetch rfl _ rfl b (off + m * 8) y ok.1 rfl HC.out ?_)
        | (refine comm_fetch rfl _ rfl wr.heap.size 0 y ok.1 rfl HB1.out.range ?_))
      refine (io_is _ y 1 ok.1 ok.2).mono ?_
      rintro e w1 ⟨rfl, hB⟩
      have HB2 := Lib.hid (HB1.out.below hB HB1.out.lt)
      have HO2 := Lib.hid (HO.out.below hB)
      have HS2 := Lib.hid (HS.out.trans (hB.mono HS.out.size))
      clear hB HB1 HO HS HN HC
      by_cases ht : (kf (hd y)).1 = 1
      · have hT : decide ((kf (hd y)).1 = 1) = true := by simpa using ht
        rw [hT]
        have HT : Hid (isT y = true) := Lib.hid hT
        clear hT ht
        have hf8 := fold8 y ok.1
        go_wp2_with (first
          | (refine comm_fetch rfl _ rfl wr.heap.size 0 y ok.1 rfl HB2.out.range ?_)
          | (at_builtin; refine app_comm rfl _ _ rfl HO2.out HS2.out.size HLen.out y ok.1 ok.2 rfl rfl ?_))
        intro v' w2 ho2 hb2
        have HO3 := Lib.hid ho2
        have HS3 := Lib.hid (HS2.out.trans hb2)
        clear ho2 hb2 hf8
        go_wp2
        refine ⟨⟨m + 1, by omega, by go_num, ?_, HS3.out⟩, by simp [intOf]; omega⟩
        rw [HM.out, List.filter_append]
        simpa [HT.out] using HO3.out
      · have hT : decide ((kf (hd y)).1 = 1) = false := by simpa using ht
        rw [hT]
        have HT : Hid (isT y = false) := Lib.hid hT
        clear hT ht
        go_wp2
        refine ⟨⟨m + 1, by omega, by go_num, ?_, HS2.out⟩, by simp [intOf]; omega⟩
        rw [HM.out, List.filter_append]
        simpa [HT.out] using HO2.out
    · obtain rfl : m = n := by omega
      rw [← hlen, List.take_length] at ho
      have HO := Lib.hid ho
      have HW := Lib.hid hw
      clear ho hw
      go_wp2
      go_ret
      exact ⟨_, rfl, HO.out, HW.out⟩
end Go.Proofs.YtkaimdcepnhkdaaDoor
namespace Go.Proofs.YtkaimdcepnhkdaaDoor
open Go.RowKit Go.Maps
set_option linter.unusedSimpArgs false
set_option linter.unusedVariables false

theorem law8 : Keyed Tryd.prog 52 := Keyed.of_law (deep_law_gate (by kernel_rfl) (Nat.le_of_ble_eq_true (by kernel_rfl)) (Nat.le_of_ble_eq_true (by kernel_rfl)) (by kernel_rfl) (by kernel_rfl))
/-- What a community reads as among a map's keys. -/
def k8 (l : List Int) : Lit := .string (keyBytes (l.map (Lit.int .u8)))
theorem key8 (l : List Int) (hl : l.length = 8) (ho : Oct l) : keyOf Tryd.prog 52 (.agg (u8s l).toArray) = some (k8 l) := by
  unfold keyOf
  rw [Tryd.underlying52]
  have hk : Tryd.prog.keyType 52 = true := by kernel_rfl
  have hf : (Value.agg (u8s l).toArray).formed Tryd.prog 52 = true := by
    have hct : Tryd.prog.cellsOf 52 = 8 := by kernel_rfl
    simp [Value.formed, Tryd.underlying52, hct, hl]
  obtain ⟨d, hd⟩ : ∃ d, Tryd.prog.types.size + 1 = d + 2 := ⟨Tryd.prog.types.size - 1, by kernel_rfl⟩
  have hL := keyLits_u8s (P := Tryd.prog) d (t := 52) (e := 5) (n := 8) Tryd.underlying52 Tryd.underlying5 (by kernel_rfl) (by kernel_rfl) l hl ho
  rw [← hd] at hL
  simp only [hk, hf, Bool.and_self, if_true]
  rw [show (Value.agg (u8s l).toArray).cells.toList = u8s l by simp [Value.cells], hL]
  rfl
theorem k8_inj {l l' : List Int} (hl : l.length = 8) (ho : Oct l) (hl' : l'.length = 8) (ho' : Oct l') (h : k8 l = k8 l') : l = l' := by
  have h1 := key8 l hl ho
  have h2 := key8 l' hl' ho'
  rw [← h] at h2
  have e := law8.inj h1 h2
  have e2 : u8s l = u8s l' := by
    have := Value.agg.inj e
    simpa using congrArg Array.toList this
  have e3 := congrArg (List.map fun v : Value => match v with | .int _ n => n | _ => 0) e2
  simpa [u8s, List.map_map, Function.comp_def] using e3
theorem same8 (l l' : List Int) (hl : l.length = 8) (ho : Oct l) (hl' : l'.length = 8) (ho' : Oct l') : (k8 l).sameKey (k8 l') = decide (l = l') := by
  by_cases h : l = l'
  · subst h
    simp [k8, Lit.sameKey]
  · have hk : k8 l ≠ k8 l' := fun e => h (k8_inj hl ho hl' ho' e)
    have hb : keyBytes (l.map (Lit.int .u8)) ≠ keyBytes (l'.map (Lit.int .u8)) := fun e => hk (by unfold k8; rw [e])
    simp [k8, Lit.sameKey, h, hb]
/-- The set of a list. -/
abbrev st8 (ls : List (List Int)) : DataW Unit := setOf (.agg []) (ls.map k8)
theorem has8 (ls : List (List Int)) (hls : All8 ls) (x : List Int) (hx : x.length = 8) (ox : Oct x) : Maps.has (st8 ls) (k8 x) = decide (x ∈ ls) := by
  unfold st8
  rw [has_setOf _ _ _ (fun y hy => by
    obtain ⟨l, hl, rfl⟩ := List.mem_map.1 hy
    exact law8.key (key8 l (hls l hl).1 (hls l hl).2))]
  rw [List.any_map]
  have : ∀ (l : List (List Int)), All8 l → (l.any ((fun y => y.sameKey (k8 x)) ∘ k8)) = decide (x ∈ l) := by
    intro l
    induction l with
    | nil => intro _; rfl
    | cons a l ih =>
      intro h
      rw [List.any_cons, ih (fun y hy => h y (List.mem_cons_of_mem _ hy))]
      show ((k8 a).sameKey (k8 x) || _) = _
      rw [same8 a x (h a List.mem_cons_self).1 (h a List.mem_cons_self).2 hx ox]
      by_cases h1 : a = x
      · subst h1; simp
      · have h2 : ¬ x = a := fun e => h1 e.symm
        simp [h1, h2]
  exact this ls hls
theorem zeroU (w : World) : (zeroValue 127).run Tryd.prog w = .ok (.agg #[]) w := by kernel_rfl
/-- Whether a target of a is one of b. -/
def meets (a b : List (List Int)) : Bool := a.any fun c => isT c && decide (c ∈ b)
theorem meets_snoc (a : List (List Int)) (c : List Int) (b : List (List Int)) : meets (a ++ [c]) b = (meets a b || (isT c && decide (c ∈ b))) := by simp [meets]

set_option maxHeartbeats 2000000 in
set_option maxRecDepth 100000 in
theorem meet_is (w : World) (A1 A2 : Option Addr) (n1 n2 c1 c2 : Nat) (la lb : List (List Int)) (ha : RdC w w.heap.size A1 n1 la) (hb : RdC w w.heap.size A2 n2 lb) (h1 : n1 ≤ 1000000) (h2 : n2 ≤ 1000000) :
    Calls Tryd.prog 64 #[.slice A1 n1 c1, .slice A2 n2 c2] w fun e w' => e = .returned (.bool (meets la lb)) ∧ Below w.heap.size w w' := by
  have HA := Lib.hid ha
  have HB := Lib.hid hb
  have hlA := ha.len
  have hlB := hb.len
  clear ha hb
  have hmm := @run_makeMap Tryd.prog
  go_enter Tryd.func64, Tryd.ntmps64
  go_wp2
  go_loopw [7, 15] (fun _ i wr => ∃ m : Nat, m ≤ n2 ∧ i = .int .i64 m ∧ wr.ownsMap Tryd.prog 52 (unitElem (H := Unit)) w.heap.size m (st8 (lb.take m)) ∧ Below w.heap.size w wr) (fun _ i _ => n2 - (intOf i).toNat)
  case atStart => exact ⟨0, Nat.zero_le _, rfl, World.ownsMap_made _ _ _ _, (Below.refl _ _).alloc (Nat.le_refl _) _⟩
  case round =>
    obtain ⟨m, hm, rfl, ho, hw⟩ := hrel
    by_cases hlt : m < n2
    · obtain ⟨b, off, rfl, hbl, hcell⟩ := HB.out.at_ (by omega)
      have hml : m < lb.length := by omega
      have ok := HB.out.ok.at_ m hml
      have HC := Lib.hid (range_below (hcell m hml) hw hbl)
      have HM := Lib.hid (List.take_succ_eq_append_getElem hml)
      clear hcell
      generalize lb[m] = y at *
      obtain ⟨b1, s0, s1⟩ := new_comm hw y
      have HN := Lib.hid (Blk.new wr 52 zc8)
      have HB1 := Lib.hid b1
      have HO := Lib.hid (show ((wr.alloc (.cells zc8 52)).setRow wr.heap.size (u8s y).toArray).ownsMap Tryd.prog 52 (unitElem (H := Unit)) w.heap.size m (st8 (lb.take m)) from by
        obtain ⟨es, clock, hbm, r⟩ := ho
        exact ⟨es, clock, (s1.block _ (Array.getElem?_eq_some_iff.1 hbm).1).trans hbm, r⟩)
      have HS := Lib.hid s0
      have HK := Lib.hid (key8 y ok.1 ok.2)
      clear b1 s0 s1 hw ho
      go_wp2_with (first
        | (refine comm_store rfl _ _ rfl wr.heap.size y ok.1 rfl rfl 52 zc8 HN.out rfl ?_)
        | (refine comm_fetch rfl _ rfl b (off + m * 8) y ok.1 rfl HC.out ?_)
        | (refine comm_fetch rfl _ rfl wr.heap.size 0 y ok.1 rfl HB1.out.range ?_)
        | (at_mapUpdate; refine wpList_mapUpdate_own _ rfl _ _ _ 126 rfl 52 127 law8 Tryd.underlying126 (unitElem (H := Unit)) w.heap.size m _ rfl HO.out (by unfold maxLen; omega) _ _ _ rfl rfl HK.out _ [] unitElem_mk ?_; intro w1 hown1 hgrow1))
      refine ⟨⟨m + 1, by omega, by go_num, ?_, HS.out.grown hgrow1 HS.out.size (fun j hj => by cases hj; exact Nat.le_refl _)⟩, by simp [intOf]; omega⟩
      rw [HM.out]
      show w1.ownsMap Tryd.prog 52 (unitElem (H := Unit)) w.heap.size (m + 1) (setOf (.agg []) ((lb.take m ++ [y]).map k8))
      rw [List.map_append, List.map_singleton, setOf_snoc]
      exact hown1
    · obtain rfl : m = n2 := by omega
      rw [← hlB, List.take_length] at ho
      have HO := Lib.hid ho
      have HW := Lib.hid hw
      clear ho hw
      go_wp2
      generalize hwz : wr = wz at *
      clear hwz
      go_loopw [9, 10, 11, 25] (fun _ _ _ i wr => ∃ k : Nat, k ≤ n1 ∧ i = .int .i64 k ∧ wr.ownsMap Tryd.prog 52 (unitElem (H := Unit)) w.heap.size lb.length (st8 lb) ∧ Below w.heap.size w wr ∧ meets (la.take k) lb = false) (fun _ _ _ i _ => n1 - (intOf i).toNat)
      case atStart => exact ⟨0, Nat.zero_le _, rfl, HO.out, HW.out, rfl⟩
      case round =>
        obtain ⟨k, hk, rfl, ho, hw, hno⟩ := hrel
        have HNo := Lib.hid hno
        clear hno HO HW
        by_cases hlt : k < n1
        · obtain ⟨b, off, rfl, hbl, hcell⟩ := HA.out.at_ (by omega)
          have hml : k < la.length := by omega
          have ok := HA.out.ok.at_ k hml
          have HC := Lib.hid (range_below (hcell k hml) hw hbl)
          have HM := Lib.hid (List.take_succ_eq_append_getElem hml)
          clear hcell
          generalize la[k] = y at *
          obtain ⟨b1, s0, s1⟩ := new_comm hw y
          have HN := Lib.hid (Blk.new wr 52 zc8)
          have HB1 := Lib.hid b1
          have HB2 := Lib.hid (b1.alloc (.cells #[] 127))
          have HO := Lib.hid (show ((wr.alloc (.cells zc8 52)).setRow wr.heap.size (u8s y).toArray).ownsMap Tryd.prog 52 (unitElem (H := Unit)) w.heap.size lb.length (st8 lb) from by
            obtain ⟨es, clock, hbm, r⟩ := ho
            exact ⟨es, clock, (s1.block _ (Array.getElem?_eq_some_iff.1 hbm).1).trans hbm, r⟩)
          have HS := Lib.hid s0
          have HK := Lib.hid (key8 y ok.1 ok.2)
          have HH := Lib.hid (has8 lb HB.out.ok y ok.1 ok.2)
          clear b1 s0 s1 hw ho
          have HS2 := Lib.hid (HS.out.alloc HS.out.size (.cells #[] 127))
          by_cases hin : y ∈ lb
          · have hh : Maps.has (st8 lb) (k8 y) = true := by rw [HH.out]; simpa using hin
            have HI := Lib.hid hin
            clear HH hin
            go_wp2_with (first
              | (refine comm_store rfl _ _ rfl wr.heap.size y ok.1 rfl rfl 52 zc8 HN.out rfl ?_)
              | (refine comm_fetch rfl _ rfl b (off + k * 8) y ok.1 rfl HC.out ?_)
              | (refine comm_fetch rfl _ rfl wr.heap.size 0 y ok.1 rfl HB1.out.range ?_)
              | (refine comm_fetch rfl _ rfl wr.heap.size 0 y ok.1 rfl HB2.out.range ?_)
              | (at_lookup; refine wpList_lookup_own_unit _ rfl _ _ 126 rfl 52 127 law8 Tryd.underlying126 (zeroU _) w.heap.size lb.length _ rfl HO.out _ _ rfl HK.out ?_))
            refine (io_is _ y 1 ok.1 ok.2).mono ?_
            rintro e w3 ⟨rfl, hB⟩
            have HO3 := Lib.hid (show w3.ownsMap Tryd.prog 52 (unitElem (H := Unit)) w.heap.size lb.length (st8 lb) from by
              obtain ⟨es, clock, hbm, r⟩ := HO.out.alloc (.cells #[] 127)
              exact ⟨es, clock, (hB.block _ (Array.getElem?_eq_some_iff.1 hbm).1).trans hbm, r⟩)
            have HS3 := Lib.hid (HS2.out.trans (hB.mono HS2.out.size))
            clear hB HB1 HB2 HO HS HS2 HN HC hh
            by_cases ht : (kf (hd y)).1 = 1
            · have hT : decide ((kf (hd y)).1 = 1) = true := by simpa using ht
              rw [hT]
              have HT : Hid (isT y = true) := Lib.hid hT
              clear hT ht
              go_wp2
              go_ret
              refine ⟨?_, HS3.out⟩
              have hm : meets la lb = true := by
                unfold meets
                rw [List.any_eq_true]
                exact ⟨y, List.mem_of_mem_take (i := k + 1) (by rw [HM.out]; simp), by rw [HT.out]; simpa using HI.out⟩
              rw [hm]
              rfl
            · have hT : decide ((kf (hd y)).1 = 1) = false := by simpa using ht
              rw [hT]
              have HT : Hid (isT y = false) := Lib.hid hT
              clear hT ht
              go_wp2
              refine ⟨⟨k + 1, by omega, by go_num, HO3.out, HS3.out, ?_⟩, by simp [intOf]; omega⟩
              rw [HM.out, meets_snoc, HNo.out, HT.out]
              rfl
          · have hh : Maps.has (st8 lb) (k8 y) = false := by rw [HH.out]; simpa using hin
            have HI := Lib.hid hin
            clear HH hin
            go_wp2_with (first
              | (refine comm_store rfl _ _ rfl wr.heap.size y ok.1 rfl rfl 52 zc8 HN.out rfl ?_)
              | (refine comm_fetch rfl _ rfl b (off + k * 8) y ok.1 rfl HC.out ?_)
              | (refine comm_fetch rfl _ rfl wr.heap.size 0 y ok.1 rfl HB1.out.range ?_)
              | (refine comm_fetch rfl _ rfl wr.heap.size 0 y ok.1 rfl HB2.out.range ?_)
              | (at_lookup; refine wpList_lookup_own_unit _ rfl _ _ 126 rfl 52 127 law8 Tryd.underlying126 (zeroU _) w.heap.size lb.length _ rfl HO.out _ _ rfl HK.out ?_))
            refine ⟨⟨k + 1, by omega, by go_num, HO.out.alloc _, HS2.out, ?_⟩, by simp [intOf]; omega⟩
            rw [HM.out, meets_snoc, HNo.out]
            simp [HI.out]
        · obtain rfl : k = n1 := by omega
          have HW := Lib.hid hw
          clear hw ho
          go_wp2
          go_ret
          refine ⟨?_, HW.out⟩
          have := HNo.out
          rw [← hlA, List.take_length] at this
          rw [this]
          rfl
end Go.Proofs.YtkaimdcepnhkdaaDoor
namespace Go.Proofs.YtkaimdcepnhkdaaDoor
open Go.RowKit Go.ChangeShapes Go.WideShapes Go.Deep
set_option linter.unusedVariables false

section
variable {H : Type} {enc : TypeId × Value → H} {P : Program} {W : World}
theorem lt_of_cell' {w : World} {a : Addr} {v : Value} (h : w.cell? a = some v) : a.block < w.heap.size := by
  rcases Nat.lt_or_ge a.block w.heap.size with h1 | h1
  · exact h1
  · simp [World.cell?, Array.getElem?_eq_none h1] at h
theorem trod_u8s {t e : TypeId} {n fuel : Nat} {cs : List Value} {x : DataW H × List MemPlace} (ht : P.underlying t = some (.array n e)) (he : P.underlying e = some (.int .u8)) (hce : P.cellsOf e = 1) (hct : P.cellsOf t = n)
    (h : DataW.trod enc P W 0 (fun _ => true) true fuel t cs = some x) : ∃ l, cs = u8s l ∧ l.length = n ∧ Oct l := by
  obtain ⟨xs, m, hf, hx, hl, hxl, hat⟩ := DataW.trod_array ht h
  rw [hct] at hl
  have each : ∀ i, i < n → ∃ z : Int, cs[i]? = some (.int .u8 z) ∧ 0 ≤ z ∧ z < 256 := by
    intro i hi
    have h1 := hat i hi
    rw [List.getElem?_eq_getElem (by omega)] at h1
    rw [hce, Nat.mul_one] at h1
    obtain ⟨z, hz, _, hw⟩ := DataW.trod_int he h1
    refine ⟨z, ?_, ?_⟩
    · have h2 : ((cs.drop i).take 1)[0]? = some (.int .u8 z) := by rw [hz]; rfl
      simpa using h2
    · simp [Lit.wf, IntKind.min, IntKind.max, IntKind.signed, IntKind.bits] at hw
      omega
  refine ⟨cs.map fun v => match v with | .int _ z => z | _ => 0, ?_, by simp [hl], ?_⟩
  · apply List.ext_getElem?
    intro i
    rcases Nat.lt_or_ge i n with hi | hi
    · obtain ⟨z, hz, _⟩ := each i hi
      simp [u8s, hz]
    · rw [List.getElem?_eq_none (by omega), List.getElem?_eq_none (by simp [u8s]; omega)]
  · intro z hz
    obtain ⟨v, hv, rfl⟩ := List.mem_map.1 hz
    obtain ⟨i, hi, hiv⟩ := List.mem_iff_getElem.1 hv
    obtain ⟨z, hz, h0, h1⟩ := each i (by omega)
    rw [List.getElem?_eq_getElem hi, hiv] at hz
    cases hz
    exact ⟨h0, h1⟩
theorem open_comms {t e u : TypeId} {a : Option Addr} {len cap : Nat} {d : DataW H} {p : List MemPlace} (ht : P.underlying t = some (.slice e)) (he : P.underlying e = some (.array 8 u)) (hu : P.underlying u = some (.int .u8)) (hcu : P.cellsOf u = 1)
    (hC : P.cellsOf e = 8) (hby : P.bytesOf e = 8)
    (h : DataW.Trod enc P W 0 (fun _ => true) true t (.slice a len cap) d p) {ts : List TypeId} {ds : List (DataW H)} (hsz : (DataW.weightsEach P ts ds).all (· ≤ reachBytes) = true) {j : Nat} (htj : ts[j]? = some t) (hdj : ds[j]? = some d) :
    ∃ ls, RdC W W.heap.size a len ls ∧ len ≤ 140737488351232 := by
  obtain ⟨fuel, hf⟩ := h
  rcases open_slice ht hf with ⟨hcs, _⟩ | ⟨x, l, c, m, n, D, Pl, hcs, _, hl, hm, hmm, hx, hi⟩
  · simp [Value.cells] at hcs
    obtain ⟨rfl, rfl, rfl⟩ := hcs
    exact ⟨[], ⟨rfl, All8.nil_, fun h => absurd h (by omega)⟩, by omega⟩
  · simp [Value.cells] at hcs
    obtain ⟨rfl, rfl, rfl⟩ := hcs
    simp only [if_pos] at hmm
    subst hmm
    simp only [Prod.mk.injEq] at hx
    rw [hx.1] at hdj
    have hb := sized_slice hsz htj hdj ht
    rw [hby] at hb
    simp only [List.length_map, List.length_range, reachBytes] at hb
    have each : ∀ i, i < len → ∃ y : List Int, (y.length = 8 ∧ Oct y) ∧ ∀ k v, (u8s y)[k]? = some v → W.cell? ((x.add (i * 8)).add k) = some v := by
      intro i him
      obtain ⟨cs', hc, ht'⟩ := hi i (by omega)
      rw [hC] at hc
      obtain ⟨y, rfl, hy, oy⟩ := trod_u8s he hu hcu hC ht'
      obtain ⟨_, hl2, hat⟩ := World.cells?_some hc
      refine ⟨y, ⟨hy, oy⟩, fun k v hv => ?_⟩
      have hk := (List.getElem?_eq_some_iff.1 hv).1
      rw [hat k (by omega)]
      exact hv
    have hch : ∃ ys : List (List Int), ys.length = len ∧ ∀ i (h : i < ys.length), (ys[i].length = 8 ∧ Oct ys[i]) ∧ ∀ k v, (u8s ys[i])[k]? = some v → W.cell? ((x.add (i * 8)).add k) = some v := by
      refine ⟨(List.range len).attach.map fun i => Classical.choose (each i.1 (List.mem_range.1 i.2)), by simp, fun i hi' => ?_⟩
      have hlt : i < len := by simpa using hi'
      have h1 := Classical.choose_spec (each i hlt)
      have e1 : ((List.range len).attach.map fun i => Classical.choose (each i.1 (List.mem_range.1 i.2)))[i] = Classical.choose (each i hlt) := by simp
      rw [e1]
      exact h1
    obtain ⟨ys, hyl, hys⟩ := hch
    refine ⟨ys, ⟨hyl, fun y hy => ?_, fun hn => ?_⟩, by omega⟩
    · obtain ⟨i, hi', rfl⟩ := List.mem_iff_getElem.1 hy
      exact (hys i hi').1
    · obtain ⟨b, off, spot⟩ := x
      have h0 := hys 0 (by omega)
      have h0c := h0.2 0 (.int .u8 (ys[0].getD 0 0)) (by
        rw [u8s, List.getElem?_map, List.getElem?_eq_getElem (by omega)]
        simp [List.getD, h0.1.1])
      have hspot : spot = none := by simpa [Addr.add] using World.cell?_spot h0c
      subst hspot
      have ea : ∀ i, (⟨b, off, none⟩ : Addr).add i = ⟨b, off + i, none⟩ := fun i => by unfold Addr.add; split <;> simp_all
      have eb : ∀ i k, (⟨b, off + i, none⟩ : Addr).add k = ⟨b, off + i + k, none⟩ := fun i k => by unfold Addr.add; split <;> simp_all
      refine ⟨b, off, rfl, by simpa [Addr.add] using lt_of_cell' h0c, fun i hi' k v hv => ?_⟩
      have := (hys i hi').2 k v hv
      rw [ea, eb] at this
      exact this
end
end Go.Proofs.YtkaimdcepnhkdaaDoor
