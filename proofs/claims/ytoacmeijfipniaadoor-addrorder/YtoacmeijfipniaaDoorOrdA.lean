/-
  Layer 2 (addr): CompareIp, and its order.
-/
import Derived.Test.YtoacmeijfipniaaDoorAdV
import Derived.Lib.BytesEntry
import Derived.BigQuiet
namespace Go.Proofs.YtoacmeijfipniaaDoor
open Go.RowKit
set_option linter.unusedSimpArgs false
set_option linter.unusedVariables false

theorem ipc_at' (v : Bool) (l : List Int) (i : Nat) (hi : i < l.length) : (ipc v l).toArray[1 + i]? = some (.int .u8 (l.getD i 0)) := by
  rw [Nat.add_comm]; simp [List.getD, hi]
/-- Two lists held against each other, number by number. -/
def cmpI : List Int → List Int → Int
  | [], [] => 0
  | [], _ :: _ => -1
  | _ :: _, [] => 1
  | a :: s, b :: t => if a < b then -1 else if b < a then 1 else cmpI s t
theorem u8_lt (x y : Int) (hx : 0 ≤ x ∧ x < 256) (hy : 0 ≤ y ∧ y < 256) : (x.toNat.toUInt8 < y.toNat.toUInt8) ↔ x < y := by
  rw [UInt8.lt_iff_toNat_lt]
  simp only [Nat.toUInt8_eq, UInt8.toNat_ofNat']
  omega
theorem cmpI_eq : ∀ (xs ys : List Int), Oct xs → Oct ys → Lib.compareBytes (Lib.bytesOf xs) (Lib.bytesOf ys) = cmpI xs ys
  | [], [], _, _ => rfl
  | [], _ :: _, _, _ => rfl
  | _ :: _, [], _, _ => rfl
  | x :: xs, y :: ys, hx, hy => by
    have h1 := u8_lt x y (hx x List.mem_cons_self) (hy y List.mem_cons_self)
    have h2 := u8_lt y x (hy y List.mem_cons_self) (hx x List.mem_cons_self)
    have ih := cmpI_eq xs ys (fun z hz => hx z (List.mem_cons_of_mem _ hz)) (fun z hz => hy z (List.mem_cons_of_mem _ hz))
    show (if x.toNat.toUInt8 < y.toNat.toUInt8 then -1 else if y.toNat.toUInt8 < x.toNat.toUInt8 then 1 else Lib.compareBytes (Lib.bytesOf xs) (Lib.bytesOf ys)) = _
    rw [ih]
    simp only [h1, h2, cmpI]
theorem cmpI_range : ∀ xs ys, cmpI xs ys = -1 ∨ cmpI xs ys = 0 ∨ cmpI xs ys = 1
  | [], [] => .inr (.inl rfl)
  | [], _ :: _ => .inl rfl
  | _ :: _, [] => .inr (.inr rfl)
  | x :: xs, y :: ys => by
    unfold cmpI
    split
    · exact .inl rfl
    · split
      · exact .inr (.inr rfl)
      · exact cmpI_range xs ys
theorem cmpI_swap : ∀ xs ys, cmpI ys xs = - cmpI xs ys
  | [], [] => rfl
  | [], _ :: _ => rfl
  | _ :: _, [] => rfl
  | x :: xs, y :: ys => by
    have := cmpI_swap xs ys
    unfold cmpI
    by_cases h1 : x < y
    · rw [if_pos h1, if_neg (by omega), if_pos h1]; rfl
    · by_cases h2 : y < x
      · rw [if_pos h2, if_neg h1, if_pos h2]
      · rw [if_neg h2, if_neg h1, if_neg h1, if_neg h2]; exact this
theorem cmpI_zero : ∀ xs ys, cmpI xs ys = 0 ↔ xs = ys
  | [], [] => by simp [cmpI]
  | [], _ :: _ => by simp [cmpI]
  | _ :: _, [] => by simp [cmpI]
  | x :: xs, y :: ys => by
    have := cmpI_zero xs ys
    unfold cmpI
    by_cases h1 : x < y
    · rw [if_pos h1]; simp; omega
    · by_cases h2 : y < x
      · rw [if_neg h1, if_pos h2]; simp; omega
      · rw [if_neg h1, if_neg h2, this]
        simp; omega
theorem cmpI_trans : ∀ xs ys zs, cmpI xs ys ≤ 0 → cmpI ys zs ≤ 0 → cmpI xs zs ≤ 0
  | [], [], [], _, _ => by simp [cmpI]
  | [], [], _ :: _, _, _ => by simp [cmpI]
  | [], _ :: _, [], _, _ => by simp [cmpI]
  | [], _ :: _, _ :: _, _, _ => by simp [cmpI]
  | _ :: _, [], _, h, _ => absurd h (by simp [cmpI])
  | _ :: _, _ :: _, [], _, h => absurd h (by simp [cmpI])
  | x :: xs, y :: ys, z :: zs, h1, h2 => by
    have ih := cmpI_trans xs ys zs
    unfold cmpI at h1 h2 ⊢
    by_cases a : x < y
    · by_cases b : y < z
      · rw [if_pos (by omega)]; decide
      · by_cases c : z < y
        · rw [if_neg b, if_pos c] at h2; exact absurd h2 (by decide)
        · rw [if_pos (by omega)]; decide
    · by_cases d : y < x
      · rw [if_neg a, if_pos d] at h1; exact absurd h1 (by decide)
      · rw [if_neg a, if_neg d] at h1
        by_cases b : y < z
        · rw [if_pos (by omega)]; decide
        · by_cases c : z < y
          · rw [if_neg b, if_pos c] at h2; exact absurd h2 (by decide)
          · rw [if_neg b, if_neg c] at h2
            rw [if_neg (by omega), if_neg (by omega)]
            exact ih h1 h2
/-- The order of addresses. -/
def cmpIp (va : Bool) (la : List Int) (vb : Bool) (lb : List Int) : Int := if va = vb then cmpI la lb else if vb then -1 else 1
theorem ord_range (va : Bool) (la : List Int) (vb : Bool) (lb : List Int) : -1 ≤ cmpIp va la vb lb ∧ cmpIp va la vb lb ≤ 1 := by
  unfold cmpIp
  have := cmpI_range la lb
  split
  · omega
  · split <;> omega
theorem ord_swap (va : Bool) (la : List Int) (vb : Bool) (lb : List Int) : cmpIp vb lb va la = - cmpIp va la vb lb := by
  unfold cmpIp
  cases va <;> cases vb <;> simp [cmpI_swap la lb]
theorem ord_zero (va : Bool) (la : List Int) (vb : Bool) (lb : List Int) : cmpIp va la vb lb = 0 ↔ va = vb ∧ la = lb := by
  unfold cmpIp
  cases va <;> cases vb <;> simp [cmpI_zero la lb]
theorem ord_trans (va : Bool) (la : List Int) (vb : Bool) (lb : List Int) (vc : Bool) (lc : List Int) (h1 : cmpIp va la vb lb ≤ 0) (h2 : cmpIp vb lb vc lc ≤ 0) : cmpIp va la vc lc ≤ 0 := by
  unfold cmpIp at *
  cases va <;> cases vb <;> cases vc <;> simp at * <;> exact cmpI_trans la lb lc h1 h2
theorem ord_down (va : Bool) (la : List Int) (vb : Bool) (lb : List Int) (vc : Bool) (lc : List Int) (h1 : 0 ≤ cmpIp va la vb lb) (h2 : 0 ≤ cmpIp vb lb vc lc) : 0 ≤ cmpIp va la vc lc := by
  have e1 := ord_swap va la vb lb
  have e2 := ord_swap vb lb vc lc
  have e3 := ord_swap va la vc lc
  have := ord_trans vc lc vb lb va la (by omega) (by omega)
  omega
theorem cmpI_same : ∀ l, cmpI l l = 0 := fun l => (cmpI_zero l l).2 rfl
theorem ord_four (n k : Int) (hn : 0 ≤ n ∧ n ≤ 4294967295) (hk : 0 ≤ k ∧ k ≤ 4294967295) : cmpIp false (four n) false (four k) < 0 ↔ n < k := by
  unfold cmpIp four
  rw [if_pos rfl]
  simp only [List.cons_append, List.nil_append, cmpI, cmpI_same]
  split
  · constructor <;> intro _ <;> omega
  · split
    · constructor <;> intro _ <;> omega
    · split
      · constructor <;> intro _ <;> omega
      · split
        · constructor <;> intro _ <;> omega
        · split
          · constructor <;> intro _ <;> omega
          · split
            · constructor <;> intro _ <;> omega
            · split
              · constructor <;> intro _ <;> omega
              · split
                · constructor <;> intro _ <;> omega
                · constructor <;> intro _ <;> omega

theorem run_cmp (P : Program) (w : World) (b1 o1 c1 b2 o2 c2 n : Nat) (xs ys : List Int) (hx : xs.length = n) (hy : ys.length = n) (ox : Oct xs) (oy : Oct ys)
    (h1 : ∀ i, i < n → w.cell? ⟨b1, o1 + i, none⟩ = some (.int .u8 (xs.getD i 0))) (h2 : ∀ i, i < n → w.cell? ⟨b2, o2 + i, none⟩ = some (.int .u8 (ys.getD i 0))) :
    (Extern.BytealgCompare.compare #[.slice (some ⟨b1, o1, none⟩) n c1, .slice (some ⟨b2, o2, none⟩) n c2]).run P w = .ok (.int .i64 (cmpI xs ys)) w := by
  have key : ∀ (b o : Nat) (zs : List Int), zs.length = n → (∀ i, i < n → w.cell? ⟨b, o + i, none⟩ = some (.int .u8 (zs.getD i 0))) → (Extern.Bytes.loadBytes ⟨b, o, none⟩ n .empty).run P w = .ok ⟨(Lib.bytesOf zs).toArray⟩ w := by
    intro b o zs hz hc
    have hl := Lib.run_loadBytesX (P := P) w zs ⟨b, o, none⟩ .empty (fun j x hj => by
      have hjl : j < zs.length := (List.getElem?_eq_some_iff.1 hj).1
      have e : (⟨b, o, none⟩ : Addr).add j = ⟨b, o + j, none⟩ := by unfold Addr.add; split <;> simp_all
      rw [e, hc j (by omega), List.getD_eq_getElem?_getD, hj]
      rfl)
    rw [hz] at hl
    have he : (⟨ByteArray.empty.data ++ (Lib.bytesOf zs).toArray⟩ : ByteArray) = ⟨(Lib.bytesOf zs).toArray⟩ := by
      apply ByteArray.ext
      show (#[] : Array UInt8) ++ (Lib.bytesOf zs).toArray = (Lib.bytesOf zs).toArray
      simp
    rw [he] at hl
    exact hl
  change Sem.run P (do pure (goInt (Extern.BytealgCompare.cmp (← Extern.Bytes.bytesOf (.slice (some ⟨b1, o1, none⟩) n c1)) (← Extern.Bytes.bytesOf (.slice (some ⟨b2, o2, none⟩) n c2))))) w = _
  simp only [Extern.Bytes.bytesOf, Sem.run_bind, Sem.run_pure, key b1 o1 xs hx h1, key b2 o2 ys hy h2, Result.andThen]
  rw [Lib.cmp_eq, ← cmpI_eq xs ys ox oy]
  rfl
set_option maxHeartbeats 1000000 in
set_option maxRecDepth 100000 in
theorem bc_is (w : World) (b1 o1 c1 b2 o2 c2 n : Nat) (xs ys : List Int) (hx : xs.length = n) (hy : ys.length = n) (ox : Oct xs) (oy : Oct ys)
    (h1 : ∀ i, i < n → w.cell? ⟨b1, o1 + i, none⟩ = some (.int .u8 (xs.getD i 0))) (h2 : ∀ i, i < n → w.cell? ⟨b2, o2 + i, none⟩ = some (.int .u8 (ys.getD i 0))) :
    Calls Tryd.prog 66 #[.slice (some ⟨b1, o1, none⟩) n c1, .slice (some ⟨b2, o2, none⟩) n c2] w fun e w' => e = .returned (.int .i64 (cmpI xs ys)) ∧ w' = w := by
  have HR := Lib.hid (run_cmp Tryd.prog w b1 o1 c1 b2 o2 c2 n xs ys hx hy ox oy h1 h2)
  clear h1 h2
  go_enter Tryd.func66, Tryd.ntmps66
  go_wp2
  rw [run_callFunc_extern Tryd.func87 (by kernel_rfl) (by kernel_rfl) (by kernel_rfl) (e := Extern.BytealgCompare.compare) (by kernel_rfl), HR.out]
  simp only [Result.andThen]
  rw [Oper.upon_value]
  go_wp2
  go_ret
  exact ⟨rfl, rfl⟩
set_option maxHeartbeats 2000000 in
set_option maxRecDepth 100000 in
theorem cmp_same (w : World) (v : Bool) (la lb : List Int) (ha : la.length = 16) (hb : lb.length = 16) (oa : Oct la) (ob : Oct lb) :
    Calls Tryd.prog 31 #[.agg (ipc v la).toArray, .agg (ipc v lb).toArray] w fun e w' => e = .returned (.int .i64 (cmpI la lb)) ∧ Below w.heap.size w w' := by
  have hA := (Blk.new w 37 (ipc v la).toArray).alloc (.cells (ipc v lb).toArray 37)
  have hB := Blk.new (w.alloc (.cells (ipc v la).toArray 37)) 37 (ipc v lb).toArray
  rw [show (w.alloc (.cells (ipc v la).toArray 37)).heap.size = w.heap.size + 1 by simp] at hB
  have ca : ((w.alloc (.cells (ipc v la).toArray 37)).alloc (.cells (ipc v lb).toArray 37)).cell? ⟨w.heap.size, 0, none⟩ = some (.bool v) := hA.cell 0
  have cb : ((w.alloc (.cells (ipc v la).toArray 37)).alloc (.cells (ipc v lb).toArray 37)).cell? ⟨w.heap.size + 1, 0, none⟩ = some (.bool v) := hB.cell 0
  have HA := Lib.hid hA
  have HB := Lib.hid hB
  clear hA hB
  go_enter Tryd.func31, Tryd.ntmps31
  go_wp2
  clear ca cb
  refine wp_region_held_drew (S := fun w' => Blk w' w.heap.size 37 (ipc v la).toArray ∧ Blk w' (w.heap.size + 1) 37 (ipc v lb).toArray ∧ Below w.heap.size w w') (by kernel_rfl) (⟨HA.out, HB.out, below_drewN (((Below.refl w.heap.size w).alloc (Nat.le_refl _) _).alloc (by simp) _) 1⟩) (fun hS => ?_)
  refine wpAnyH_take (i := 0) (oi := ⟨some 12, _, _, _, _, _⟩) (v := ?_) rfl (by kernel_rfl) (by kernel_rfl) (by kernel_rfl) (fun _ _ _ h => h) (Or.inl ⟨by rfl, ?_⟩) hS ?_
  rotate_left
  · intro wq hq
    first | (go_simp; done) | (go_simp; rfl)
  try simp only [Act.put, List.setIfInBounds_toArray, List.set_cons_zero, List.set_cons_succ]
  refine wpAnyH_take (i := 1) (oi := ⟨some 13, _, _, _, _, _⟩) (v := ?_) rfl (by kernel_rfl) (by kernel_rfl) (by kernel_rfl) (fun _ _ _ h => h) (Or.inl ⟨by rfl, ?_⟩) hS ?_
  rotate_left
  · intro wq hq
    first | (go_simp; done) | (go_simp; rfl)
  try simp only [Act.put, List.setIfInBounds_toArray, List.set_cons_zero, List.set_cons_succ]
  refine wpAnyH_take (i := 2) (oi := ⟨some 14, _, _, _, _, _⟩) (v := ?_) rfl (by kernel_rfl) (by kernel_rfl) (by kernel_rfl) (fun _ _ _ h => h) (Or.inl ⟨by rfl, ?_⟩) hS ?_
  rotate_left
  · intro wq hq
    first | (go_simp; done) | (go_simp; rfl)
  try simp only [Act.put, List.setIfInBounds_toArray, List.set_cons_zero, List.set_cons_succ]
  refine wpAnyH_take (i := 3) (oi := ⟨some 15, _, _, _, _, _⟩) (v := ?_) rfl (by kernel_rfl) (by kernel_rfl) (by kernel_rfl) (fun _ _ _ h => h) (Or.inl ⟨by rfl, ?_⟩) hS ?_
  rotate_left
  · intro wq hq
    first | (go_simp; done) | (go_simp; rfl)
  try simp only [Act.put, List.setIfInBounds_toArray, List.set_cons_zero, List.set_cons_succ]
  refine wpAnyH_ready (rs := [4]) (by kernel_rfl) (by simp) ?_
  refine AllReadyH.cons (o := ⟨some 16, _, _, _, _, _⟩) rfl (fun K hK => ?_) AllReadyH.nil
  rw [if_pos (by rfl)]
  go_wp2_with fail
  refine (bc_is _ w.heap.size 1 16 (w.heap.size + 1) 1 16 16 la lb ha hb oa ob (fun i hi => by rw [hS.1.cell]; exact ipc_at' _ _ _ (by omega)) (fun i hi => by rw [hS.2.1.cell]; exact ipc_at' _ _ _ (by omega))).mono ?_
  rintro e w1 ⟨rfl, rfl⟩
  have hS1 := hS
  refine hK.out _ _ (hS1) (fun hS => ?_)
  clear hK K
  try simp only [Act.put, List.setIfInBounds_toArray, List.set_cons_zero, List.set_cons_succ]
  refine wpAnyH_take (i := 5) (oi := ⟨some 4, _, _, _, _, _⟩) (v := ?_) rfl (by kernel_rfl) (by kernel_rfl) (by kernel_rfl) (fun _ _ _ h => h) (Or.inl ⟨by rfl, ?_⟩) hS ?_
  rotate_left
  · intro wq hq
    first | (go_simp; done) | (go_simp; rfl)
  try simp only [Act.put, List.setIfInBounds_toArray, List.set_cons_zero, List.set_cons_succ]
  refine wpAnyH_done (by kernel_rfl) ?_ _
  go_wp2
  go_ret
  exact ⟨rfl, hS.2.2⟩
set_option maxHeartbeats 2000000 in
set_option maxRecDepth 100000 in
theorem cmp_is (w : World) (va : Bool) (la : List Int) (vb : Bool) (lb : List Int) (ha : la.length = 16) (oa : Oct la) (hb : lb.length = 16) (ob : Oct lb) :
    Calls Tryd.prog 31 #[.agg (ipc va la).toArray, .agg (ipc vb lb).toArray] w fun e w' => e = .returned (.int .i64 (cmpIp va la vb lb)) ∧ Below w.heap.size w w' := by
  by_cases h : va = vb
  · subst h
    have := cmp_same w va la lb ha hb oa ob
    unfold cmpIp
    rw [if_pos rfl]
    exact this
  · have hA := (Blk.new w 37 (ipc va la).toArray).alloc (.cells (ipc vb lb).toArray 37)
    have hB := Blk.new (w.alloc (.cells (ipc va la).toArray 37)) 37 (ipc vb lb).toArray
    rw [show (w.alloc (.cells (ipc va la).toArray 37)).heap.size = w.heap.size + 1 by simp] at hB
    have ca : ((w.alloc (.cells (ipc va la).toArray 37)).alloc (.cells (ipc vb lb).toArray 37)).cell? ⟨w.heap.size, 0, none⟩ = some (.bool va) := hA.cell 0
    have cb : ((w.alloc (.cells (ipc va la).toArray 37)).alloc (.cells (ipc vb lb).toArray 37)).cell? ⟨w.heap.size + 1, 0, none⟩ = some (.bool vb) := hB.cell 0
    have HO : Hid (cmpIp va la vb lb = if vb then -1 else 1) := Lib.hid (by unfold cmpIp; rw [if_neg h])
    have HL : Hid (Below w.heap.size w ((w.alloc (.cells (ipc va la).toArray 37)).alloc (.cells (ipc vb lb).toArray 37))) := Lib.hid (((Below.refl w.heap.size w).alloc (Nat.le_refl _) _).alloc (by simp) _)
    clear hA hB
    generalize cmpIp va la vb lb = out at *
    cases va <;> cases vb
    · exact absurd rfl h
    · clear h
      go_enter Tryd.func31, Tryd.ntmps31
      go_wp2
      go_ret
      exact ⟨by rw [HO.out]; rfl, HL.out⟩
    · clear h
      go_enter Tryd.func31, Tryd.ntmps31
      go_wp2
      go_ret
      exact ⟨by rw [HO.out]; rfl, HL.out⟩
    · exact absurd rfl h
end Go.Proofs.YtoacmeijfipniaaDoor
