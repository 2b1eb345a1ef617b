/-
  Put together: NlY NlZ NlZ2 NlZ3 NlZ4 NlZ5 NlZ0 NlZZ.
-/
import Derived.Test.YtickcfcncpnaiaaMC
import Derived.Laws.MakeOwn
import Derived.Test.YtickcfcncpnaiaaMF
import Derived.Test.YtickcfcncpnaiaaMP
namespace Go.Proofs.Ytickcfcncpnaiaa
open Go.RowKit
set_option maxRecDepth 100000
set_option linter.unusedSimpArgs false
set_option linter.unusedVariables false

def hexN (d : Int) : Int := if d < 10 then 48 + d else 87 + d
theorem hexN_bd (d : Int) (h0 : 0 ≤ d) (h1 : d < 16) : 0 ≤ hexN d ∧ hexN d < 256 := by unfold hexN; split <;> omega
def digsN : ByteArray := ⟨#[48, 49, 50, 51, 52, 53, 54, 55, 56, 57, 97, 98, 99, 100, 101, 102]⟩
theorem hex_atN : ∀ d : Fin 16, ((digsN[d.val]'(by have := d.2; show d.val < 16; omega)).toNat : Int) = hexN d.val := by decide +kernel
theorem and15_N (x : Int) (h0 : 0 ≤ x) (h1 : x < 256) : bits .and .u8 x 15 = x % 16 := by
  obtain ⟨m, rfl⟩ := Int.eq_ofNat_of_zero_le h0
  have h : ∀ m : Fin 256, bits .and .u8 (m.val : Int) 15 = (m.val : Int) % 16 := by decide +kernel
  exact h ⟨m, by omega⟩
/-- Two digits for each byte. -/
def hexS (l : List Int) : List Int := l.flatMap fun b => [hexN (b / 16), hexN (b % 16)]
theorem hexS_len (l : List Int) : (hexS l).length = 2 * l.length := by
  induction l with
  | nil => rfl
  | cons b l ih => simp only [hexS, List.flatMap_cons, List.length_append, List.length_cons, List.length_nil] at ih ⊢; omega
theorem hexS_oct {l : List Int} (h : Oct l) : Oct (hexS l) := fun x hx => by
  obtain ⟨b, hb, hx⟩ := List.mem_flatMap.1 hx
  have := h b hb
  simp only [List.mem_cons, List.mem_nil_iff, or_false] at hx
  rcases hx with rfl | rfl
  · exact hexN_bd _ (by omega) (by omega)
  · exact hexN_bd _ (by omega) (by omega)
theorem hexS_step {l : List Int} {k : Nat} (hk : k < l.length) : hexS (l.take (k + 1)) = hexS (l.take k) ++ [hexN (l.getD k 0 / 16), hexN (l.getD k 0 % 16)] := by
  have e : l.getD k 0 = l[k] := by simp [List.getD, hk]
  rw [e, List.take_succ_eq_append_getElem hk]
  unfold hexS
  rw [List.flatMap_append]
  rfl
theorem set_two (P : List Int) (m : Nat) (x y : Int) : ((P ++ List.replicate (m + 2) 0).set P.length x).set (P.length + 1) y = P ++ [x, y] ++ List.replicate m 0 := by
  rw [List.set_append_right _ _ (Nat.le_refl _), Nat.sub_self, List.replicate_succ, List.replicate_succ, List.set_cons_zero, List.set_append_right _ _ (by omega), show P.length + 1 - P.length = 1 by omega, List.set_cons_succ, List.set_cons_zero]
  simp
set_option maxHeartbeats 1000000 in
theorem hext_is (w : World) (A : Option Addr) (n c : Nat) (l : List Int) (hr : Rd w w.heap.size A n l) (hn : n ≤ 1000) :
    Calls Try.prog 46 #[.slice A n c] w fun e w' => e = .returned (.string (strOfNums (hexS l))) ∧ Below w.heap.size w w' := by
  have HR := Lib.hid hr
  have HO := Lib.hid hr.oct
  have HLen := Lib.hid hr.len
  have hmk := run_make_row' (P := Try.prog) 22 5 (.int .u8 0) 1 Try.underlying22 info_byte rfl .i64 .i64 (2 * n) (by omega) (by omega) w
  have HB0 := Lib.hid (byt_made w (2 * n) 5)
  have HL0 := Lib.hid ((Below.refl w.heap.size w).alloc (Nat.le_refl _) (.cells (madeCells #[.int .u8 0] (2 * n)) 5))
  have m0 : 2 * (n : Int) = ((2 * n : Nat) : Int) := by omega
  have HConv := Lib.hid (fun W (h : Byt W w.heap.size 5 (hexS l)) => run_conv_rd (P := Try.prog) W 22 9 5 Try.underlying22 Try.underlying5 Try.underlying9 (2 * n) (h.rd_all (B := W.heap.size) (hexS_oct HO.out) h.lt))
  have HHL : Hid ((hexS l).length = 2 * n) := Lib.hid (by rw [hexS_len, HLen.out])
  clear hr
  rw [HHL.out] at HConv
  have hn2 : 2 * n ≤ 2000 := by omega
  generalize hn3 : 2 * n = n2 at *
  have HN3 := Lib.hid hn3
  clear hn3
  go_enter Try.func46, Try.ntmps46
  go_wp2
  clear hmk m0
  go_loopw [4, 11] (fun _ i wr => ∃ k : Nat, k ≤ n ∧ i = .int .i64 k ∧ Byt wr w.heap.size 5 (hexS (l.take k) ++ List.replicate (2 * (n - k)) 0) ∧ Below w.heap.size w wr) (fun _ i _ => n - (intOf i).toNat)
  case atStart => exact ⟨0, Nat.zero_le _, rfl, by rw [Nat.sub_zero, HN3.out]; exact HB0.out, HL0.out⟩
  case round =>
    obtain ⟨k, hk, rfl, hB, hL⟩ := hrel
    have HB := Lib.hid hB
    have HL := Lib.hid hL
    clear hB hL HB0 HL0
    by_cases hlt : k < n
    · obtain ⟨b, off, rfl, hb, hcell⟩ := HR.out.at_ (by omega)
      have hkl : k < l.length := by have := HLen.out; omega
      have hcx : wr.cell? ⟨b, off + k, none⟩ = some (.int .u8 (l.getD k 0)) := (HL.out.cell (p := ⟨b, off + k, none⟩) hb).trans (hcell k hlt)
      have hx := HO.out.getD k
      have HStep := Lib.hid (hexS_step hkl)
      have hpl : (hexS (l.take k)).length = 2 * k := by rw [hexS_len, List.length_take]; omega
      obtain ⟨q, hq⟩ : ∃ q, 2 * (n - k) = q + 2 := ⟨2 * (n - k) - 2, by omega⟩
      have hq2 : 2 * (n - (k + 1)) = q := by omega
      rw [hq] at HB
      generalize l.getD k 0 = x at *
      generalize hexS (l.take k) = P at *
      obtain ⟨p, hp⟩ : ∃ p, p = 2 * k := ⟨_, rfl⟩
      rw [← hp] at hpl
      have c0 := HB.out.cell (i := p) (by simp; omega)
      have c1 := HB.out.cell (i := p + 1) (by simp; omega)
      have f0 := HB.out.frozen p
      have f1 := HB.out.frozen (p + 1)
      obtain ⟨d, hd⟩ := Int.eq_ofNat_of_zero_le (show 0 ≤ x / 16 by omega)
      obtain ⟨e, he⟩ := Int.eq_ofNat_of_zero_le (show 0 ≤ x % 16 by omega)
      have hd16 : d < 16 := by omega
      have he16 : e < 16 := by omega
      have hand : bits .and .u8 x 15 = (e : Int) := by rw [and15_N x hx.1 hx.2, he]
      have HXD := Lib.hid (hex_atN ⟨d, hd16⟩)
      have HXE := Lib.hid (hex_atN ⟨e, he16⟩)
      rw [hd, he] at HStep
      have hdI : (d : Int) < 16 := by omega
      have heI : (e : Int) < 16 := by omega
      have m1 : 2 * (k : Int) = (p : Int) := by omega
      have hp0 : (0 : Int) ≤ (p : Int) := by omega
      have hp1 : (p : Int) < (n2 : Int) := by have := HN3.out; omega
      have hp2 : (p : Int) + 1 < (n2 : Int) := by have := HN3.out; omega
      have hk0 : (0 : Int) ≤ (k : Int) := by omega
      have hk1 : (k : Int) < (n : Int) := by omega
      have HSet : Hid (∀ u v : Int, Byt ((wr.setCell ⟨w.heap.size, p, none⟩ (.int .u8 u)).setCell ⟨w.heap.size, p + 1, none⟩ (.int .u8 v)) w.heap.size 5 (P ++ [u, v] ++ List.replicate q 0)) := Lib.hid (fun u v => by
        have h := (HB.out.set_ p u).set_ (p + 1) v
        rw [← hpl, set_two] at h
        rw [← hpl]
        exact h)
      have HLow : Hid (∀ u v, Below w.heap.size w ((wr.setCell ⟨w.heap.size, p, none⟩ u).setCell ⟨w.heap.size, p + 1, none⟩ v)) := Lib.hid (fun u v => (HL.out.setCell (p := ⟨w.heap.size, p, none⟩) (Nat.le_refl _) u).setCell (p := ⟨w.heap.size, p + 1, none⟩) (Nat.le_refl _) v)
      clear hcell hpl hq hp HB
      go_wp2
      refine ⟨⟨k + 1, by omega, by go_num, ?_, HLow.out _ _⟩, by simp [intOf]; omega⟩
      rw [HStep.out, hq2, ← HXD.out, ← HXE.out]
      exact HSet.out _ _
    · obtain rfl : k = n := by omega
      have hb9 := HB.out
      rw [Nat.sub_self, Nat.mul_zero, List.take_of_length_le (by have := HLen.out; omega)] at hb9
      simp only [List.replicate_zero, List.append_nil] at hb9
      have hconv := HConv.out _ hb9
      clear hb9 HConv
      go_wp2
      go_ret
      exact ⟨rfl, HL.out⟩
def FamPost (w : World) (v : Bool) (e : Ending) (w' : World) : Prop := ∃ A c, e = .returned (.slice A 1 c) ∧ Rd w' w'.heap.size A 1 [if v then 1 else 0] ∧ Below w.heap.size w w'
theorem family_is (w : World) (v : Bool) (l : List Int) (hl : l.length = 16) : Calls Try.prog 67 #[.agg (ipc v l).toArray] w (FamPost w v) := by
  have h0 := range_new w 32 (ipc v l)
  have hc : (w.alloc (.cells (ipc v l).toArray 32)).cell? ⟨w.heap.size, 0, none⟩ = some (.bool v) := h0 0 _ rfl
  have HE : Hid (∀ x : Int, 0 ≤ x → x < 256 → ∃ A c, Value.slice (some ⟨w.heap.size + 1, 0, none⟩) 1 1 = .slice A 1 c ∧ Rd ((w.alloc (.cells (ipc v l).toArray 32)).alloc (.cells #[.int .u8 x] 5)) ((w.alloc (.cells (ipc v l).toArray 32)).alloc (.cells #[.int .u8 x] 5)).heap.size A 1 [x] ∧ Below w.heap.size w ((w.alloc (.cells (ipc v l).toArray 32)).alloc (.cells #[.int .u8 x] 5))) := Lib.hid (fun x hx0 hx1 => by
    have hb : Byt ((w.alloc (.cells (ipc v l).toArray 32)).alloc (.cells #[.int .u8 x] 5)) (w.alloc (.cells (ipc v l).toArray 32)).heap.size 5 [x] := Blk.new _ 5 #[.int .u8 x]
    have hs : (w.alloc (.cells (ipc v l).toArray 32)).heap.size = w.heap.size + 1 := by simp
    rw [hs] at hb
    exact ⟨_, _, rfl, hb.rd_all (fun y hy => by rw [List.mem_singleton] at hy; subst hy; exact ⟨hx0, hx1⟩) hb.lt, ((Below.refl _ _).alloc (Nat.le_refl _) _).alloc (by simp) _⟩)
  clear h0
  cases v
  · go_enter Try.func67, Try.ntmps67
    go_wp2
    go_ret
    obtain ⟨A, c, e, h⟩ := HE.out 0 (by omega) (by omega)
    exact ⟨A, c, congrArg Ending.returned e, h⟩
  · go_enter Try.func67, Try.ntmps67
    go_wp2
    go_ret
    obtain ⟨A, c, e, h⟩ := HE.out 1 (by omega) (by omega)
    exact ⟨A, c, congrArg Ending.returned e, h⟩
end Go.Proofs.Ytickcfcncpnaiaa
namespace Go.Proofs.Ytickcfcncpnaiaa
open Go.RowKit
set_option maxRecDepth 100000
set_option linter.unusedSimpArgs false
set_option linter.unusedVariables false

theorem RtAt.sPl {W : World} {g B : Nat} {r : Rt} (h : RtAt W g r) (hr : RtOk r) (hB : g < B) : Rd W B (some ⟨g, 27, none⟩) 16 r.pl := by
  have h1 : W.rangeAt g 27 (u8s r.pl) := fun j v hv => by
    have := (h.rIp hr) (j + 1) v (by simpa using hv)
    rwa [show 26 + (j + 1) = 27 + j by omega] at this
  have := rd_of_range h1 hr.opl hB
  rwa [hr.pl] at this
/-- The bytes of a route's key. -/
def keyR (r : Rt) : List Int := [r.k % 256] ++ (r.rd ++ (
  if r.k = 1 then r.es ++ be 4 r.tg
  else if r.k = 2 then be 4 r.tg ++ (r.mc ++ ([r.pn % 256] ++ r.pl))
  else if r.k = 3 then be 4 r.tg ++ ([r.pn % 256] ++ r.pl)
  else if r.k = 4 then r.es ++ ([r.pn % 256] ++ r.pl)
  else if r.k = 5 then be 4 r.tg ++ ([r.pn % 256] ++ ([if r.v6 then 1 else 0] ++ r.pl))
  else []))
structure KyA (w W : World) (r : Rt) : Prop where
  src : RtAt W w.heap.size r
  low : Below w.heap.size w W
structure KyB (w W : World) (r : Rt) (A3 : Option Addr) : Prop extends KyA w W r where
  r3 : Rd W W.heap.size A3 9 ([r.k % 256] ++ r.rd)
structure KyC (w W : World) (r : Rt) (A3 A5 : Option Addr) : Prop extends KyB w W r A3 where
  r5 : Rd W W.heap.size A5 4 (be 4 r.tg)
structure KyD (w W : World) (r : Rt) (A3 A5 A6 : Option Addr) : Prop extends KyC w W r A3 A5 where
  r6 : Rd W W.heap.size A6 1 [r.pn % 256]
section
variable {w W W' : World} {r : Rt} {A3 A5 A6 : Option Addr}
theorem KyA.below (h : KyA w W r) (hB : Below W.heap.size W W') : KyA w W' r := ⟨h.src.below hB h.src.lt, h.low.trans (hB.mono h.low.size)⟩
theorem KyB.below (h : KyB w W r A3) (hB : Below W.heap.size W W') : KyB w W' r A3 := ⟨h.toKyA.below hB, (h.r3.below hB).more hB.size⟩
theorem KyC.below (h : KyC w W r A3 A5) (hB : Below W.heap.size W W') : KyC w W' r A3 A5 := ⟨h.toKyB.below hB, (h.r5.below hB).more hB.size⟩
theorem KyD.below (h : KyD w W r A3 A5 A6) (hB : Below W.heap.size W W') : KyD w W' r A3 A5 A6 := ⟨h.toKyC.below hB, (h.r6.below hB).more hB.size⟩
end
def KeyPost (w : World) (r : Rt) (e : Ending) (w' : World) : Prop := ∃ v, e = .returned v ∧ OwnB w.heap.size w' v (keyR r) ∧ Below w.heap.size w w'
set_option maxHeartbeats 4000000 in
set_option maxRecDepth 100000 in
theorem key_1 (w : World) (r : Rt) (hr : RtOk r) (hk : r.k = 1) : Calls Try.prog 47 #[.agg (rtc r).toArray] w (KeyPost w r) := by
  have HR := Lib.hid hr
  have HA := Lib.hid (show KyA w ((w.alloc (.cells (rtc r).toArray 36)).drew) r from ⟨(RtAt.new w r hr 36).keep rfl, below_drewN ((Below.refl w.heap.size w).alloc (Nat.le_refl _) _) 1⟩)
  have HN4 : Hid (∀ W, Calls Try.prog 49 #[.int .u32 r.tg, .int .i64 4] W fun e W' => ∃ A c, e = .returned (.slice A 4 c) ∧ Rd W' W'.heap.size A 4 (be 4 r.tg) ∧ Below W.heap.size W W') := Lib.hid (fun W => (numb_is W r.tg 4 hr.tg (by omega) (by omega) (be4_fit hr.tg)).mono (by
    rintro e W' ⟨A, c, rfl, _, h2, h3⟩
    exact ⟨A, c, rfl, h2, h3⟩))
  have hs8 : ∀ W, (Instr.sliceAt 24 (.pointer (some ⟨w.heap.size, 1, none⟩)) none none none).run Try.prog W = .ok (.slice (some ⟨w.heap.size, 1, none⟩) 8 8) W := fun W => by go_simp
  have hs10 : ∀ W, (Instr.sliceAt 26 (.pointer (some ⟨w.heap.size, 9, none⟩)) none none none).run Try.prog W = .ok (.slice (some ⟨w.heap.size, 9, none⟩) 10 10) W := fun W => by go_simp
  have hs6 : ∀ W, (Instr.sliceAt 29 (.pointer (some ⟨w.heap.size, 20, none⟩)) none none none).run Try.prog W = .ok (.slice (some ⟨w.heap.size, 20, none⟩) 6 6) W := fun W => by go_simp
  have hs16 : ∀ W, (Instr.sliceAt 30 (.pointer (some ⟨w.heap.size, 27, none⟩)) none none none).run Try.prog W = .ok (.slice (some ⟨w.heap.size, 27, none⟩) 16 16) W := fun W => by go_simp
  have HF : Hid (([([r.k % 256] ++ r.rd), r.es, be 4 r.tg] : List (List Int)).flatten = keyR r) := Lib.hid (by unfold keyR; rw [if_pos hk]; simp)
  have HLen : Hid ((keyR r).length ≤ 140737488355328) := Lib.hid (by rw [← HF.out]; simp [be_len, hr.rd, hr.es, hr.mc, hr.pl] <;> omega)
  have e1 : (r.k == 1) = true := by rw [beq_iff_eq]; omega
  clear hr hk
  go_enter Try.func47, Try.ntmps47
  go_wp2
  refine wp_region_held_drew (S := fun W => KyA w W r) (by kernel_rfl) (HA.out) (fun hS => ?_)
  refine wpAnyH_take (i := 0) (oi := ⟨some 8, _, _, _, _, _⟩) (v := ?_) rfl (by kernel_rfl) (by kernel_rfl) (by kernel_rfl) (fun _ _ _ h => h) (Or.inl ⟨by rfl, ?_⟩) hS ?_
  rotate_left
  · intro wq hq
    first | (go_simp; done) | (go_simp; rfl)
  try simp only [Act.put, List.setIfInBounds_toArray, List.set_cons_zero, List.set_cons_succ]
  refine wpAnyH_take (i := 1) (oi := ⟨some 9, _, _, _, _, _⟩) (v := ?_) rfl (by kernel_rfl) (by kernel_rfl) (by kernel_rfl) (fun _ _ _ h => h) (Or.inl ⟨by rfl, ?_⟩) hS ?_
  rotate_left
  · intro wq hq
    have hc := hq.src.cK
    first | (go_simp; done) | (go_simp; rfl)
  try simp only [Act.put, List.setIfInBounds_toArray, List.set_cons_zero, List.set_cons_succ]
  refine wpAnyH_take (i := 2) (oi := ⟨some 10, _, _, _, _, _⟩) (v := ?_) rfl (by kernel_rfl) (by kernel_rfl) (by kernel_rfl) (fun _ _ _ h => h) (Or.inl ⟨by rfl, ?_⟩) hS ?_
  rotate_left
  · intro wq hq
    first | (go_simp; done) | (go_simp; rfl)
  try simp only [Act.put, List.setIfInBounds_toArray, List.set_cons_zero, List.set_cons_succ]
  refine wpAnyH_take (i := 4) (oi := ⟨some 12, _, _, _, _, _⟩) (v := ?_) rfl (by kernel_rfl) (by kernel_rfl) (by kernel_rfl) (fun _ _ _ h => h) (Or.inl ⟨by rfl, ?_⟩) hS ?_
  rotate_left
  · intro wq hq
    first | (go_simp; done) | (go_simp; rfl)
  try simp only [Act.put, List.setIfInBounds_toArray, List.set_cons_zero, List.set_cons_succ]
  refine wpAnyH_take (i := 5) (oi := ⟨some 13, _, _, _, _, _⟩) (v := ?_) rfl (by kernel_rfl) (by kernel_rfl) (by kernel_rfl) (fun _ _ _ h => h) (Or.inl ⟨by rfl, ?_⟩) hS ?_
  rotate_left
  · intro wq hq
    first | (go_simp; done) | (go_simp; rfl)
  try simp only [Act.put, List.setIfInBounds_toArray, List.set_cons_zero, List.set_cons_succ]
  generalize (w.alloc (.cells (rtc r).toArray 36)).drew = W1 at *
  refine wpAnyH_ready (rs := [3]) (by kernel_rfl) (by simp) ?_
  refine AllReadyH.cons (o := ⟨some 11, _, _, _, _, _⟩) rfl (fun K hK => ?_) AllReadyH.nil
  rw [if_pos (by rfl)]
  go_wp2
  have h1 := byt1_rd W1 (r.k % 256) (Int.emod_nonneg _ (by decide)) (Int.emod_lt_of_pos _ (by decide))
  have hS2 := hS.below (below_one W1 (.cells #[.int .u8 (r.k % 256)] 5))
  refine hK.out _ _ (hS2) (fun hS => ?_)
  clear hK K
  try simp only [Act.put, List.setIfInBounds_toArray, List.set_cons_zero, List.set_cons_succ]
  refine wpAnyH_ready (rs := [6]) (by kernel_rfl) (by simp) ?_
  refine AllReadyH.cons (o := ⟨some 14, _, _, _, _, _⟩) rfl (fun K hK => ?_) AllReadyH.nil
  rw [if_pos (by rfl)]
  go_wp2
  have HL : Hid (RdL ((W1.alloc (.cells #[.int .u8 (r.k % 256)] 5)).alloc (.cells #[.slice (some ⟨W1.heap.size, 0, none⟩) 1 1, .slice (some ⟨w.heap.size, 1, none⟩) 8 8] 22)) ((W1.alloc (.cells #[.int .u8 (r.k % 256)] 5)).alloc (.cells #[.slice (some ⟨W1.heap.size, 0, none⟩) 1 1, .slice (some ⟨w.heap.size, 1, none⟩) 8 8] 22)).heap.size (some ⟨W1.heap.size + 1, 0, none⟩) 2 [[r.k % 256], r.rd]) := Lib.hid (rdl_new_at (W := W1.alloc (.cells #[.int .u8 (r.k % 256)] 5)) (vs := [(some ⟨W1.heap.size, 0, none⟩, 1, 1), (some ⟨w.heap.size, 1, none⟩, 8, 8)]) (ls := [[r.k % 256], r.rd]) ⟨h1, hS2.src.sRd HR.out hS2.src.lt, trivial⟩ 22 _ rfl _ (by simp))
  have hS3 := hS2.below (below_one _ (.cells #[.slice (some ⟨W1.heap.size, 0, none⟩) 1 1, .slice (some ⟨w.heap.size, 1, none⟩) 8 8] 22))
  refine hK.out _ _ (hS3) (fun hS => ?_)
  clear hK K
  try simp only [Act.put, List.setIfInBounds_toArray, List.set_cons_zero, List.set_cons_succ]
  refine wpAnyH_ready (rs := [7]) (by kernel_rfl) (by simp) ?_
  refine AllReadyH.cons (o := ⟨some 15, _, _, _, _, _⟩) rfl (fun K hK => ?_) AllReadyH.nil
  rw [if_pos (by rfl)]
  go_wp2_with fail
  refine (concat_is _ _ 2 2 _ HL.out (by omega) (by simp [HR.out.rd])).mono ?_
  rintro e W2 ⟨v, rfl, hO, hB⟩
  have hS4 := hS3.below hB
  refine hK.out _ _ (hS4) (fun hS => ?_)
  clear hK K
  try simp only [Act.put, List.setIfInBounds_toArray, List.set_cons_zero, List.set_cons_succ]
  refine wpAnyH_take (i := 8) (oi := ⟨some 3, _, _, _, _, _⟩) (v := ?_) rfl (by kernel_rfl) (by kernel_rfl) (by kernel_rfl) (fun _ _ _ h => h) (Or.inl ⟨by rfl, ?_⟩) hS ?_
  rotate_left
  · intro wq hq
    first | (go_simp; done) | (go_simp; rfl)
  try simp only [Act.put, List.setIfInBounds_toArray, List.set_cons_zero, List.set_cons_succ]
  refine wpAnyH_done (by kernel_rfl) ?_ _
  have hfl : ([[r.k % 256], r.rd] : List (List Int)).flatten = [r.k % 256] ++ r.rd := by simp
  rw [hfl] at hO
  obtain ⟨A3, c3, hv, hc3, hR3, _⟩ := hO.at_
  have h9 : ([r.k % 256] ++ r.rd).length = 9 := by simp [HR.out.rd]
  rw [h9] at hv hR3 hc3
  subst hv
  have HB3 := Lib.hid (show KyB w W2.drew r A3 from (KyB.mk hS4 hR3).below (below_drew W2))
  clear hS hS2 hS3 hS4 hB hO hR3 h1 HL hfl h9 HA hs8
  go_wp2_with fail
  refine wp_region_held_drew (S := fun W => KyB w W r A3) (by kernel_rfl) (HB3.out) (fun hS => ?_)
  refine wpAnyH_take (i := 0) (oi := ⟨some 16, _, _, _, _, _⟩) (v := ?_) rfl (by kernel_rfl) (by kernel_rfl) (by kernel_rfl) (fun _ _ _ h => h) (Or.inl ⟨by rfl, ?_⟩) hS ?_
  rotate_left
  · intro wq hq
    first | (go_simp; done) | (go_simp; rfl)
  try simp only [Act.put, List.setIfInBounds_toArray, List.set_cons_zero, List.set_cons_succ]
  refine wpAnyH_take (i := 1) (oi := ⟨some 17, _, _, _, _, _⟩) (v := ?_) rfl (by kernel_rfl) (by kernel_rfl) (by kernel_rfl) (fun _ _ _ h => h) (Or.inl ⟨by rfl, ?_⟩) hS ?_
  rotate_left
  · intro wq hq
    first | (go_simp; done) | (go_simp; rfl)
  try simp only [Act.put, List.setIfInBounds_toArray, List.set_cons_zero, List.set_cons_succ]
  refine wpAnyH_take (i := 2) (oi := ⟨some 18, _, _, _, _, _⟩) (v := ?_) rfl (by kernel_rfl) (by kernel_rfl) (by kernel_rfl) (fun _ _ _ h => h) (Or.inl ⟨by rfl, ?_⟩) hS ?_
  rotate_left
  · intro wq hq
    first | (go_simp; done) | (go_simp; rfl)
  try simp only [Act.put, List.setIfInBounds_toArray, List.set_cons_zero, List.set_cons_succ]
  refine wpAnyH_take (i := 3) (oi := ⟨some 19, _, _, _, _, _⟩) (v := ?_) rfl (by kernel_rfl) (by kernel_rfl) (by kernel_rfl) (fun _ _ _ h => h) (Or.inl ⟨by rfl, ?_⟩) hS ?_
  rotate_left
  · intro wq hq
    have hc := hq.src.cTg HR.out
    first | (go_simp; done) | (go_simp; rfl)
  try simp only [Act.put, List.setIfInBounds_toArray, List.set_cons_zero, List.set_cons_succ]
  refine wpAnyH_ready (rs := [4]) (by kernel_rfl) (by simp) ?_
  refine AllReadyH.cons (o := ⟨some 20, _, _, _, _, _⟩) rfl (fun K hK => ?_) AllReadyH.nil
  rw [if_pos (by rfl)]
  go_wp2_with fail
  refine (HN4.out _).mono ?_
  rintro e W3 ⟨A5, c5, rfl, hr5, hB5⟩
  have hS5 := hS.below hB5
  refine hK.out _ _ (hS5) (fun hS => ?_)
  clear hK K
  try simp only [Act.put, List.setIfInBounds_toArray, List.set_cons_zero, List.set_cons_succ]
  refine wpAnyH_take (i := 5) (oi := ⟨some 4, _, _, _, _, _⟩) (v := ?_) rfl (by kernel_rfl) (by kernel_rfl) (by kernel_rfl) (fun _ _ _ h => h) (Or.inl ⟨by rfl, ?_⟩) hS ?_
  rotate_left
  · intro wq hq
    first | (go_simp; done) | (go_simp; rfl)
  try simp only [Act.put, List.setIfInBounds_toArray, List.set_cons_zero, List.set_cons_succ]
  refine wpAnyH_take (i := 6) (oi := ⟨some 5, _, _, _, _, _⟩) (v := ?_) rfl (by kernel_rfl) (by kernel_rfl) (by kernel_rfl) (fun _ _ _ h => h) (Or.inl ⟨by rfl, ?_⟩) hS ?_
  rotate_left
  · intro wq hq
    first | (go_simp; done) | (go_simp; rfl)
  try simp only [Act.put, List.setIfInBounds_toArray, List.set_cons_zero, List.set_cons_succ]
  refine wpAnyH_done (by kernel_rfl) ?_ _
  have HC := Lib.hid (show KyC w W3.drew r A3 A5 from (KyC.mk hS5 hr5).below (below_drew W3))
  clear hS hS5 hB5 hr5 HB3 hs10
  go_wp2_with fail
  refine wp_region_held_drew (S := fun W => KyC w W r A3 A5) (by kernel_rfl) (HC.out) (fun hS => ?_)
  refine wpAnyH_take (i := 0) (oi := ⟨some 21, _, _, _, _, _⟩) (v := ?_) rfl (by kernel_rfl) (by kernel_rfl) (by kernel_rfl) (fun _ _ _ h => h) (Or.inl ⟨by rfl, ?_⟩) hS ?_
  rotate_left
  · intro wq hq
    first | (go_simp; done) | (go_simp; rfl)
  try simp only [Act.put, List.setIfInBounds_toArray, List.set_cons_zero, List.set_cons_succ]
  refine wpAnyH_take (i := 1) (oi := ⟨some 22, _, _, _, _, _⟩) (v := ?_) rfl (by kernel_rfl) (by kernel_rfl) (by kernel_rfl) (fun _ _ _ h => h) (Or.inl ⟨by rfl, ?_⟩) hS ?_
  rotate_left
  · intro wq hq
    first | (go_simp; done) | (go_simp; rfl)
  try simp only [Act.put, List.setIfInBounds_toArray, List.set_cons_zero, List.set_cons_succ]
  refine wpAnyH_take (i := 2) (oi := ⟨some 23, _, _, _, _, _⟩) (v := ?_) rfl (by kernel_rfl) (by kernel_rfl) (by kernel_rfl) (fun _ _ _ h => h) (Or.inl ⟨by rfl, ?_⟩) hS ?_
  rotate_left
  · intro wq hq
    have hc := hq.src.cPn HR.out
    first | (go_simp; done) | (go_simp; rfl)
  try simp only [Act.put, List.setIfInBounds_toArray, List.set_cons_zero, List.set_cons_succ]
  refine wpAnyH_take (i := 3) (oi := ⟨some 24, _, _, _, _, _⟩) (v := ?_) rfl (by kernel_rfl) (by kernel_rfl) (by kernel_rfl) (fun _ _ _ h => h) (Or.inl ⟨by rfl, ?_⟩) hS ?_
  rotate_left
  · intro wq hq
    first | (go_simp; done) | (go_simp; rfl)
  try simp only [Act.put, List.setIfInBounds_toArray, List.set_cons_zero, List.set_cons_succ]
  refine wpAnyH_take (i := 5) (oi := ⟨some 26, _, _, _, _, _⟩) (v := ?_) rfl (by kernel_rfl) (by kernel_rfl) (by kernel_rfl) (fun _ _ _ h => h) (Or.inl ⟨by rfl, ?_⟩) hS ?_
  rotate_left
  · intro wq hq
    first | (go_simp; done) | (go_simp; rfl)
  try simp only [Act.put, List.setIfInBounds_toArray, List.set_cons_zero, List.set_cons_succ]
  refine wpAnyH_take (i := 6) (oi := ⟨some 27, _, _, _, _, _⟩) (v := ?_) rfl (by kernel_rfl) (by kernel_rfl) (by kernel_rfl) (fun _ _ _ h => h) (Or.inl ⟨by rfl, ?_⟩) hS ?_
  rotate_left
  · intro wq hq
    first | (go_simp; done) | (go_simp; rfl)
  try simp only [Act.put, List.setIfInBounds_toArray, List.set_cons_zero, List.set_cons_succ]
  refine wpAnyH_take (i := 7) (oi := ⟨some 28, _, _, _, _, _⟩) (v := ?_) rfl (by kernel_rfl) (by kernel_rfl) (by kernel_rfl) (fun _ _ _ h => h) (Or.inl ⟨by rfl, ?_⟩) hS ?_
  rotate_left
  · intro wq hq
    first | (go_simp; done) | (go_simp; rfl)
  try simp only [Act.put, List.setIfInBounds_toArray, List.set_cons_zero, List.set_cons_succ]
  refine wpAnyH_take (i := 8) (oi := ⟨some 29, _, _, _, _, _⟩) (v := ?_) rfl (by kernel_rfl) (by kernel_rfl) (by kernel_rfl) (fun _ _ _ h => h) (Or.inl ⟨by rfl, ?_⟩) hS ?_
  rotate_left
  · intro wq hq
    first | (go_simp; done) | (go_simp; rfl)
  try simp only [Act.put, List.setIfInBounds_toArray, List.set_cons_zero, List.set_cons_succ]
  generalize hWd : W3.drew = W4 at *
  refine wpAnyH_ready (rs := [4]) (by kernel_rfl) (by simp) ?_
  refine AllReadyH.cons (o := ⟨some 25, _, _, _, _, _⟩) rfl (fun K hK => ?_) AllReadyH.nil
  rw [if_pos (by rfl)]
  go_wp2
  have h1 := byt1_rd W4 (r.pn % 256) (Int.emod_nonneg _ (by decide)) (Int.emod_lt_of_pos _ (by decide))
  have hS6 := hS.below (below_one W4 (.cells #[.int .u8 (r.pn % 256)] 5))
  refine hK.out _ _ (hS6) (fun hS => ?_)
  clear hK K
  try simp only [Act.put, List.setIfInBounds_toArray, List.set_cons_zero, List.set_cons_succ]
  refine wpAnyH_take (i := 9) (oi := ⟨some 6, _, _, _, _, _⟩) (v := ?_) rfl (by kernel_rfl) (by kernel_rfl) (by kernel_rfl) (fun _ _ _ h => h) (Or.inl ⟨by rfl, ?_⟩) hS ?_
  rotate_left
  · intro wq hq
    first | (go_simp; done) | (go_simp; rfl)
  try simp only [Act.put, List.setIfInBounds_toArray, List.set_cons_zero, List.set_cons_succ]
  refine wpAnyH_take (i := 10) (oi := ⟨some 7, _, _, _, _, _⟩) (v := ?_) rfl (by kernel_rfl) (by kernel_rfl) (by kernel_rfl) (fun _ _ _ h => h) (Or.inl ⟨by rfl, ?_⟩) hS ?_
  rotate_left
  · intro wq hq
    first | (go_simp; done) | (go_simp; rfl)
  try simp only [Act.put, List.setIfInBounds_toArray, List.set_cons_zero, List.set_cons_succ]
  refine wpAnyH_done (by kernel_rfl) ?_ _
  obtain ⟨A6, c6, hA6⟩ : ∃ A6 c6, Value.slice (some ⟨W4.heap.size, 0, none⟩) 1 1 = .slice A6 1 c6 ∧ A6 = some ⟨W4.heap.size, 0, none⟩ := ⟨_, _, rfl, rfl⟩
  have HD0 := Lib.hid (show KyD w (W4.alloc (.cells #[.int .u8 (r.pn % 256)] 5)) r A3 A5 A6 from ⟨hS6, by rw [hA6.2]; exact h1⟩)
  have hA6' := hA6.1
  clear hS hS6 h1 HC hA6 hs16 hWd
  try rw [hA6']
  clear hA6'
  have HD := HD0
  generalize W4.alloc (.cells #[.int .u8 (r.pn % 256)] 5) = W5 at *
  have cK := HD.out.src.cK
  have HL : Hid (RdL (W5.alloc (.cells #[.slice A3 9 c3, .slice (some ⟨w.heap.size, 9, none⟩) 10 10, .slice A5 4 c5] 22)) (W5.alloc (.cells #[.slice A3 9 c3, .slice (some ⟨w.heap.size, 9, none⟩) 10 10, .slice A5 4 c5] 22)).heap.size (some ⟨W5.heap.size, 0, none⟩) 3 [([r.k % 256] ++ r.rd), r.es, be 4 r.tg]) := Lib.hid (rdl_new_at (W := W5) (vs := [(A3, 9, c3), (some ⟨w.heap.size, 9, none⟩, 10, 10), (A5, 4, c5)]) (ls := [([r.k % 256] ++ r.rd), r.es, be 4 r.tg]) ⟨HD.out.r3, HD.out.src.sEs HR.out HD.out.src.lt, HD.out.r5, trivial⟩ 22 _ rfl _ rfl)
  have HLow := Lib.hid HD.out.low
  clear HD
  go_wp2_with fail
  refine (concat_is _ _ 3 3 _ HL.out (by omega) (by rw [HF.out]; exact HLen.out)).mono ?_
  rintro e W9 ⟨v, rfl, hO, hB9⟩
  have HEnd := Lib.hid (show OwnB w.heap.size W9 v (keyR r) ∧ Below w.heap.size w W9 from ⟨by rw [← HF.out]; exact hO.low (by have := HLow.out.size; simp; omega), (HLow.out.trans ((below_one W5 _).mono HLow.out.size)).trans (hB9.mono (by have := HLow.out.size; simp; omega))⟩)
  clear hO hB9
  go_wp2
  go_ret
  exact ⟨v, rfl, HEnd.out.1, HEnd.out.2⟩
end Go.Proofs.Ytickcfcncpnaiaa
namespace Go.Proofs.Ytickcfcncpnaiaa
open Go.RowKit
set_option maxRecDepth 100000
set_option linter.unusedSimpArgs false
set_option linter.unusedVariables false

set_option maxHeartbeats 4000000 in
set_option maxRecDepth 100000 in
theorem key_2 (w : World) (r : Rt) (hr : RtOk r) (hk : r.k = 2) : Calls Try.prog 47 #[.agg (rtc r).toArray] w (KeyPost w r) := by
  have HR := Lib.hid hr
  have HA := Lib.hid (show KyA w ((w.alloc (.cells (rtc r).toArray 36)).drew) r from ⟨(RtAt.new w r hr 36).keep rfl, below_drewN ((Below.refl w.heap.size w).alloc (Nat.le_refl _) _) 1⟩)
  have HN4 : Hid (∀ W, Calls Try.prog 49 #[.int .u32 r.tg, .int .i64 4] W fun e W' => ∃ A c, e = .returned (.slice A 4 c) ∧ Rd W' W'.heap.size A 4 (be 4 r.tg) ∧ Below W.heap.size W W') := Lib.hid (fun W => (numb_is W r.tg 4 hr.tg (by omega) (by omega) (be4_fit hr.tg)).mono (by
    rintro e W' ⟨A, c, rfl, _, h2, h3⟩
    exact ⟨A, c, rfl, h2, h3⟩))
  have hs8 : ∀ W, (Instr.sliceAt 24 (.pointer (some ⟨w.heap.size, 1, none⟩)) none none none).run Try.prog W = .ok (.slice (some ⟨w.heap.size, 1, none⟩) 8 8) W := fun W => by go_simp
  have hs10 : ∀ W, (Instr.sliceAt 26 (.pointer (some ⟨w.heap.size, 9, none⟩)) none none none).run Try.prog W = .ok (.slice (some ⟨w.heap.size, 9, none⟩) 10 10) W := fun W => by go_simp
  have hs6 : ∀ W, (Instr.sliceAt 29 (.pointer (some ⟨w.heap.size, 20, none⟩)) none none none).run Try.prog W = .ok (.slice (some ⟨w.heap.size, 20, none⟩) 6 6) W := fun W => by go_simp
  have hs16 : ∀ W, (Instr.sliceAt 30 (.pointer (some ⟨w.heap.size, 27, none⟩)) none none none).run Try.prog W = .ok (.slice (some ⟨w.heap.size, 27, none⟩) 16 16) W := fun W => by go_simp
  have HF : Hid (([([r.k % 256] ++ r.rd), be 4 r.tg, r.mc, [r.pn % 256], r.pl] : List (List Int)).flatten = keyR r) := Lib.hid (by unfold keyR; rw [if_neg (by omega)]; rw [if_pos hk]; simp)
  have HLen : Hid ((keyR r).length ≤ 140737488355328) := Lib.hid (by rw [← HF.out]; simp [be_len, hr.rd, hr.es, hr.mc, hr.pl] <;> omega)
  have e1 : (r.k == 1) = false := by rw [beq_eq_false_iff_ne]; omega
  have e2 : (r.k == 2) = true := by rw [beq_iff_eq]; omega
  clear hr hk
  go_enter Try.func47, Try.ntmps47
  go_wp2
  refine wp_region_held_drew (S := fun W => KyA w W r) (by kernel_rfl) (HA.out) (fun hS => ?_)
  refine wpAnyH_take (i := 0) (oi := ⟨some 8, _, _, _, _, _⟩) (v := ?_) rfl (by kernel_rfl) (by kernel_rfl) (by kernel_rfl) (fun _ _ _ h => h) (Or.inl ⟨by rfl, ?_⟩) hS ?_
  rotate_left
  · intro wq hq
    first | (go_simp; done) | (go_simp; rfl)
  try simp only [Act.put, List.setIfInBounds_toArray, List.set_cons_zero, List.set_cons_succ]
  refine wpAnyH_take (i := 1) (oi := ⟨some 9, _, _, _, _, _⟩) (v := ?_) rfl (by kernel_rfl) (by kernel_rfl) (by kernel_rfl) (fun _ _ _ h => h) (Or.inl ⟨by rfl, ?_⟩) hS ?_
  rotate_left
  · intro wq hq
    have hc := hq.src.cK
    first | (go_simp; done) | (go_simp; rfl)
  try simp only [Act.put, List.setIfInBounds_toArray, List.set_cons_zero, List.set_cons_succ]
  refine wpAnyH_take (i := 2) (oi := ⟨some 10, _, _, _, _, _⟩) (v := ?_) rfl (by kernel_rfl) (by kernel_rfl) (by kernel_rfl) (fun _ _ _ h => h) (Or.inl ⟨by rfl, ?_⟩) hS ?_
  rotate_left
  · intro wq hq
    first | (go_simp; done) | (go_simp; rfl)
  try simp only [Act.put, List.setIfInBounds_toArray, List.set_cons_zero, List.set_cons_succ]
  refine wpAnyH_take (i := 4) (oi := ⟨some 12, _, _, _, _, _⟩) (v := ?_) rfl (by kernel_rfl) (by kernel_rfl) (by kernel_rfl) (fun _ _ _ h => h) (Or.inl ⟨by rfl, ?_⟩) hS ?_
  rotate_left
  · intro wq hq
    first | (go_simp; done) | (go_simp; rfl)
  try simp only [Act.put, List.setIfInBounds_toArray, List.set_cons_zero, List.set_cons_succ]
  refine wpAnyH_take (i := 5) (oi := ⟨some 13, _, _, _, _, _⟩) (v := ?_) rfl (by kernel_rfl) (by kernel_rfl) (by kernel_rfl) (fun _ _ _ h => h) (Or.inl ⟨by rfl, ?_⟩) hS ?_
  rotate_left
  · intro wq hq
    first | (go_simp; done) | (go_simp; rfl)
  try simp only [Act.put, List.setIfInBounds_toArray, List.set_cons_zero, List.set_cons_succ]
  generalize (w.alloc (.cells (rtc r).toArray 36)).drew = W1 at *
  refine wpAnyH_ready (rs := [3]) (by kernel_rfl) (by simp) ?_
  refine AllReadyH.cons (o := ⟨some 11, _, _, _, _, _⟩) rfl (fun K hK => ?_) AllReadyH.nil
  rw [if_pos (by rfl)]
  go_wp2
  have h1 := byt1_rd W1 (r.k % 256) (Int.emod_nonneg _ (by decide)) (Int.emod_lt_of_pos _ (by decide))
  have hS2 := hS.below (below_one W1 (.cells #[.int .u8 (r.k % 256)] 5))
  refine hK.out _ _ (hS2) (fun hS => ?_)
  clear hK K
  try simp only [Act.put, List.setIfInBounds_toArray, List.set_cons_zero, List.set_cons_succ]
  refine wpAnyH_ready (rs := [6]) (by kernel_rfl) (by simp) ?_
  refine AllReadyH.cons (o := ⟨some 14, _, _, _, _, _⟩) rfl (fun K hK => ?_) AllReadyH.nil
  rw [if_pos (by rfl)]
  go_wp2
  have HL : Hid (RdL ((W1.alloc (.cells #[.int .u8 (r.k % 256)] 5)).alloc (.cells #[.slice (some ⟨W1.heap.size, 0, none⟩) 1 1, .slice (some ⟨w.heap.size, 1, none⟩) 8 8] 22)) ((W1.alloc (.cells #[.int .u8 (r.k % 256)] 5)).alloc (.cells #[.slice (some ⟨W1.heap.size, 0, none⟩) 1 1, .slice (some ⟨w.heap.size, 1, none⟩) 8 8] 22)).heap.size (some ⟨W1.heap.size + 1, 0, none⟩) 2 [[r.k % 256], r.rd]) := Lib.hid (rdl_new_at (W := W1.alloc (.cells #[.int .u8 (r.k % 256)] 5)) (vs := [(some ⟨W1.heap.size, 0, none⟩, 1, 1), (some ⟨w.heap.size, 1, none⟩, 8, 8)]) (ls := [[r.k % 256], r.rd]) ⟨h1, hS2.src.sRd HR.out hS2.src.lt, trivial⟩ 22 _ rfl _ (by simp))
  have hS3 := hS2.below (below_one _ (.cells #[.slice (some ⟨W1.heap.size, 0, none⟩) 1 1, .slice (some ⟨w.heap.size, 1, none⟩) 8 8] 22))
  refine hK.out _ _ (hS3) (fun hS => ?_)
  clear hK K
  try simp only [Act.put, List.setIfInBounds_toArray, List.set_cons_zero, List.set_cons_succ]
  refine wpAnyH_ready (rs := [7]) (by kernel_rfl) (by simp) ?_
  refine AllReadyH.cons (o := ⟨some 15, _, _, _, _, _⟩) rfl (fun K hK => ?_) AllReadyH.nil
  rw [if_pos (by rfl)]
  go_wp2_with fail
  refine (concat_is _ _ 2 2 _ HL.out (by omega) (by simp [HR.out.rd])).mono ?_
  rintro e W2 ⟨v, rfl, hO, hB⟩
  have hS4 := hS3.below hB
  refine hK.out _ _ (hS4) (fun hS => ?_)
  clear hK K
  try simp only [Act.put, List.setIfInBounds_toArray, List.set_cons_zero, List.set_cons_succ]
  refine wpAnyH_take (i := 8) (oi := ⟨some 3, _, _, _, _, _⟩) (v := ?_) rfl (by kernel_rfl) (by kernel_rfl) (by kernel_rfl) (fun _ _ _ h => h) (Or.inl ⟨by rfl, ?_⟩) hS ?_
  rotate_left
  · intro wq hq
    first | (go_simp; done) | (go_simp; rfl)
  try simp only [Act.put, List.setIfInBounds_toArray, List.set_cons_zero, List.set_cons_succ]
  refine wpAnyH_done (by kernel_rfl) ?_ _
  have hfl : ([[r.k % 256], r.rd] : List (List Int)).flatten = [r.k % 256] ++ r.rd := by simp
  rw [hfl] at hO
  obtain ⟨A3, c3, hv, hc3, hR3, _⟩ := hO.at_
  have h9 : ([r.k % 256] ++ r.rd).length = 9 := by simp [HR.out.rd]
  rw [h9] at hv hR3 hc3
  subst hv
  have HB3 := Lib.hid (show KyB w W2.drew r A3 from (KyB.mk hS4 hR3).below (below_drew W2))
  clear hS hS2 hS3 hS4 hB hO hR3 h1 HL hfl h9 HA hs8
  go_wp2_with fail
  refine wp_region_held_drew (S := fun W => KyB w W r A3) (by kernel_rfl) (HB3.out) (fun hS => ?_)
  refine wpAnyH_take (i := 0) (oi := ⟨some 16, _, _, _, _, _⟩) (v := ?_) rfl (by kernel_rfl) (by kernel_rfl) (by kernel_rfl) (fun _ _ _ h => h) (Or.inl ⟨by rfl, ?_⟩) hS ?_
  rotate_left
  · intro wq hq
    first | (go_simp; done) | (go_simp; rfl)
  try simp only [Act.put, List.setIfInBounds_toArray, List.set_cons_zero, List.set_cons_succ]
  refine wpAnyH_take (i := 1) (oi := ⟨some 17, _, _, _, _, _⟩) (v := ?_) rfl (by kernel_rfl) (by kernel_rfl) (by kernel_rfl) (fun _ _ _ h => h) (Or.inl ⟨by rfl, ?_⟩) hS ?_
  rotate_left
  · intro wq hq
    first | (go_simp; done) | (go_simp; rfl)
  try simp only [Act.put, List.setIfInBounds_toArray, List.set_cons_zero, List.set_cons_succ]
  refine wpAnyH_take (i := 2) (oi := ⟨some 18, _, _, _, _, _⟩) (v := ?_) rfl (by kernel_rfl) (by kernel_rfl) (by kernel_rfl) (fun _ _ _ h => h) (Or.inl ⟨by rfl, ?_⟩) hS ?_
  rotate_left
  · intro wq hq
    first | (go_simp; done) | (go_simp; rfl)
  try simp only [Act.put, List.setIfInBounds_toArray, List.set_cons_zero, List.set_cons_succ]
  refine wpAnyH_take (i := 3) (oi := ⟨some 19, _, _, _, _, _⟩) (v := ?_) rfl (by kernel_rfl) (by kernel_rfl) (by kernel_rfl) (fun _ _ _ h => h) (Or.inl ⟨by rfl, ?_⟩) hS ?_
  rotate_left
  · intro wq hq
    have hc := hq.src.cTg HR.out
    first | (go_simp; done) | (go_simp; rfl)
  try simp only [Act.put, List.setIfInBounds_toArray, List.set_cons_zero, List.set_cons_succ]
  refine wpAnyH_ready (rs := [4]) (by kernel_rfl) (by simp) ?_
  refine AllReadyH.cons (o := ⟨some 20, _, _, _, _, _⟩) rfl (fun K hK => ?_) AllReadyH.nil
  rw [if_pos (by rfl)]
  go_wp2_with fail
  refine (HN4.out _).mono ?_
  rintro e W3 ⟨A5, c5, rfl, hr5, hB5⟩
  have hS5 := hS.below hB5
  refine hK.out _ _ (hS5) (fun hS => ?_)
  clear hK K
  try simp only [Act.put, List.setIfInBounds_toArray, List.set_cons_zero, List.set_cons_succ]
  refine wpAnyH_take (i := 5) (oi := ⟨some 4, _, _, _, _, _⟩) (v := ?_) rfl (by kernel_rfl) (by kernel_rfl) (by kernel_rfl) (fun _ _ _ h => h) (Or.inl ⟨by rfl, ?_⟩) hS ?_
  rotate_left
  · intro wq hq
    first | (go_simp; done) | (go_simp; rfl)
  try simp only [Act.put, List.setIfInBounds_toArray, List.set_cons_zero, List.set_cons_succ]
  refine wpAnyH_take (i := 6) (oi := ⟨some 5, _, _, _, _, _⟩) (v := ?_) rfl (by kernel_rfl) (by kernel_rfl) (by kernel_rfl) (fun _ _ _ h => h) (Or.inl ⟨by rfl, ?_⟩) hS ?_
  rotate_left
  · intro wq hq
    first | (go_simp; done) | (go_simp; rfl)
  try simp only [Act.put, List.setIfInBounds_toArray, List.set_cons_zero, List.set_cons_succ]
  refine wpAnyH_done (by kernel_rfl) ?_ _
  have HC := Lib.hid (show KyC w W3.drew r A3 A5 from (KyC.mk hS5 hr5).below (below_drew W3))
  clear hS hS5 hB5 hr5 HB3 hs10
  go_wp2_with fail
  refine wp_region_held_drew (S := fun W => KyC w W r A3 A5) (by kernel_rfl) (HC.out) (fun hS => ?_)
  refine wpAnyH_take (i := 0) (oi := ⟨some 21, _, _, _, _, _⟩) (v := ?_) rfl (by kernel_rfl) (by kernel_rfl) (by kernel_rfl) (fun _ _ _ h => h) (Or.inl ⟨by rfl, ?_⟩) hS ?_
  rotate_left
  · intro wq hq
    first | (go_simp; done) | (go_simp; rfl)
  try simp only [Act.put, List.setIfInBounds_toArray, List.set_cons_zero, List.set_cons_succ]
  refine wpAnyH_take (i := 1) (oi := ⟨some 22, _, _, _, _, _⟩) (v := ?_) rfl (by kernel_rfl) (by kernel_rfl) (by kernel_rfl) (fun _ _ _ h => h) (Or.inl ⟨by rfl, ?_⟩) hS ?_
  rotate_left
  · intro wq hq
    first | (go_simp; done) | (go_simp; rfl)
  try simp only [Act.put, List.setIfInBounds_toArray, List.set_cons_zero, List.set_cons_succ]
  refine wpAnyH_take (i := 2) (oi := ⟨some 23, _, _, _, _, _⟩) (v := ?_) rfl (by kernel_rfl) (by kernel_rfl) (by kernel_rfl) (fun _ _ _ h => h) (Or.inl ⟨by rfl, ?_⟩) hS ?_
  rotate_left
  · intro wq hq
    have hc := hq.src.cPn HR.out
    first | (go_simp; done) | (go_simp; rfl)
  try simp only [Act.put, List.setIfInBounds_toArray, List.set_cons_zero, List.set_cons_succ]
  refine wpAnyH_take (i := 3) (oi := ⟨some 24, _, _, _, _, _⟩) (v := ?_) rfl (by kernel_rfl) (by kernel_rfl) (by kernel_rfl) (fun _ _ _ h => h) (Or.inl ⟨by rfl, ?_⟩) hS ?_
  rotate_left
  · intro wq hq
    first | (go_simp; done) | (go_simp; rfl)
  try simp only [Act.put, List.setIfInBounds_toArray, List.set_cons_zero, List.set_cons_succ]
  refine wpAnyH_take (i := 5) (oi := ⟨some 26, _, _, _, _, _⟩) (v := ?_) rfl (by kernel_rfl) (by kernel_rfl) (by kernel_rfl) (fun _ _ _ h => h) (Or.inl ⟨by rfl, ?_⟩) hS ?_
  rotate_left
  · intro wq hq
    first | (go_simp; done) | (go_simp; rfl)
  try simp only [Act.put, List.setIfInBounds_toArray, List.set_cons_zero, List.set_cons_succ]
  refine wpAnyH_take (i := 6) (oi := ⟨some 27, _, _, _, _, _⟩) (v := ?_) rfl (by kernel_rfl) (by kernel_rfl) (by kernel_rfl) (fun _ _ _ h => h) (Or.inl ⟨by rfl, ?_⟩) hS ?_
  rotate_left
  · intro wq hq
    first | (go_simp; done) | (go_simp; rfl)
  try simp only [Act.put, List.setIfInBounds_toArray, List.set_cons_zero, List.set_cons_succ]
  refine wpAnyH_take (i := 7) (oi := ⟨some 28, _, _, _, _, _⟩) (v := ?_) rfl (by kernel_rfl) (by kernel_rfl) (by kernel_rfl) (fun _ _ _ h => h) (Or.inl ⟨by rfl, ?_⟩) hS ?_
  rotate_left
  · intro wq hq
    first | (go_simp; done) | (go_simp; rfl)
  try simp only [Act.put, List.setIfInBounds_toArray, List.set_cons_zero, List.set_cons_succ]
  refine wpAnyH_take (i := 8) (oi := ⟨some 29, _, _, _, _, _⟩) (v := ?_) rfl (by kernel_rfl) (by kernel_rfl) (by kernel_rfl) (fun _ _ _ h => h) (Or.inl ⟨by rfl, ?_⟩) hS ?_
  rotate_left
  · intro wq hq
    first | (go_simp; done) | (go_simp; rfl)
  try simp only [Act.put, List.setIfInBounds_toArray, List.set_cons_zero, List.set_cons_succ]
  generalize hWd : W3.drew = W4 at *
  refine wpAnyH_ready (rs := [4]) (by kernel_rfl) (by simp) ?_
  refine AllReadyH.cons (o := ⟨some 25, _, _, _, _, _⟩) rfl (fun K hK => ?_) AllReadyH.nil
  rw [if_pos (by rfl)]
  go_wp2
  have h1 := byt1_rd W4 (r.pn % 256) (Int.emod_nonneg _ (by decide)) (Int.emod_lt_of_pos _ (by decide))
  have hS6 := hS.below (below_one W4 (.cells #[.int .u8 (r.pn % 256)] 5))
  refine hK.out _ _ (hS6) (fun hS => ?_)
  clear hK K
  try simp only [Act.put, List.setIfInBounds_toArray, List.set_cons_zero, List.set_cons_succ]
  refine wpAnyH_take (i := 9) (oi := ⟨some 6, _, _, _, _, _⟩) (v := ?_) rfl (by kernel_rfl) (by kernel_rfl) (by kernel_rfl) (fun _ _ _ h => h) (Or.inl ⟨by rfl, ?_⟩) hS ?_
  rotate_left
  · intro wq hq
    first | (go_simp; done) | (go_simp; rfl)
  try simp only [Act.put, List.setIfInBounds_toArray, List.set_cons_zero, List.set_cons_succ]
  refine wpAnyH_take (i := 10) (oi := ⟨some 7, _, _, _, _, _⟩) (v := ?_) rfl (by kernel_rfl) (by kernel_rfl) (by kernel_rfl) (fun _ _ _ h => h) (Or.inl ⟨by rfl, ?_⟩) hS ?_
  rotate_left
  · intro wq hq
    first | (go_simp; done) | (go_simp; rfl)
  try simp only [Act.put, List.setIfInBounds_toArray, List.set_cons_zero, List.set_cons_succ]
  refine wpAnyH_done (by kernel_rfl) ?_ _
  obtain ⟨A6, c6, hA6⟩ : ∃ A6 c6, Value.slice (some ⟨W4.heap.size, 0, none⟩) 1 1 = .slice A6 1 c6 ∧ A6 = some ⟨W4.heap.size, 0, none⟩ := ⟨_, _, rfl, rfl⟩
  have HD0 := Lib.hid (show KyD w (W4.alloc (.cells #[.int .u8 (r.pn % 256)] 5)) r A3 A5 A6 from ⟨hS6, by rw [hA6.2]; exact h1⟩)
  have hA6' := hA6.1
  clear hS hS6 h1 HC hA6 hs16 hWd
  try rw [hA6']
  clear hA6'
  have HD := HD0
  generalize W4.alloc (.cells #[.int .u8 (r.pn % 256)] 5) = W5 at *
  have cK := HD.out.src.cK
  have HL : Hid (RdL (W5.alloc (.cells #[.slice A3 9 c3, .slice A5 4 c5, .slice (some ⟨w.heap.size, 20, none⟩) 6 6, .slice A6 1 c6, .slice (some ⟨w.heap.size, 27, none⟩) 16 16] 22)) (W5.alloc (.cells #[.slice A3 9 c3, .slice A5 4 c5, .slice (some ⟨w.heap.size, 20, none⟩) 6 6, .slice A6 1 c6, .slice (some ⟨w.heap.size, 27, none⟩) 16 16] 22)).heap.size (some ⟨W5.heap.size, 0, none⟩) 5 [([r.k % 256] ++ r.rd), be 4 r.tg, r.mc, [r.pn % 256], r.pl]) := Lib.hid (rdl_new_at (W := W5) (vs := [(A3, 9, c3), (A5, 4, c5), (some ⟨w.heap.size, 20, none⟩, 6, 6), (A6, 1, c6), (some ⟨w.heap.size, 27, none⟩, 16, 16)]) (ls := [([r.k % 256] ++ r.rd), be 4 r.tg, r.mc, [r.pn % 256], r.pl]) ⟨HD.out.r3, HD.out.r5, HD.out.src.sMc HR.out HD.out.src.lt, HD.out.r6, HD.out.src.sPl HR.out HD.out.src.lt, trivial⟩ 22 _ rfl _ rfl)
  have HLow := Lib.hid HD.out.low
  clear HD
  go_wp2_with fail
  refine (concat_is _ _ 5 5 _ HL.out (by omega) (by rw [HF.out]; exact HLen.out)).mono ?_
  rintro e W9 ⟨v, rfl, hO, hB9⟩
  have HEnd := Lib.hid (show OwnB w.heap.size W9 v (keyR r) ∧ Below w.heap.size w W9 from ⟨by rw [← HF.out]; exact hO.low (by have := HLow.out.size; simp; omega), (HLow.out.trans ((below_one W5 _).mono HLow.out.size)).trans (hB9.mono (by have := HLow.out.size; simp; omega))⟩)
  clear hO hB9
  go_wp2
  go_ret
  exact ⟨v, rfl, HEnd.out.1, HEnd.out.2⟩
end Go.Proofs.Ytickcfcncpnaiaa
namespace Go.Proofs.Ytickcfcncpnaiaa
open Go.RowKit
set_option maxRecDepth 100000
set_option linter.unusedSimpArgs false
set_option linter.unusedVariables false

set_option maxHeartbeats 4000000 in
set_option maxRecDepth 100000 in
theorem key_3 (w : World) (r : Rt) (hr : RtOk r) (hk : r.k = 3) : Calls Try.prog 47 #[.agg (rtc r).toArray] w (KeyPost w r) := by
  have HR := Lib.hid hr
  have HA := Lib.hid (show KyA w ((w.alloc (.cells (rtc r).toArray 36)).drew) r from ⟨(RtAt.new w r hr 36).keep rfl, below_drewN ((Below.refl w.heap.size w).alloc (Nat.le_refl _) _) 1⟩)
  have HN4 : Hid (∀ W, Calls Try.prog 49 #[.int .u32 r.tg, .int .i64 4] W fun e W' => ∃ A c, e = .returned (.slice A 4 c) ∧ Rd W' W'.heap.size A 4 (be 4 r.tg) ∧ Below W.heap.size W W') := Lib.hid (fun W => (numb_is W r.tg 4 hr.tg (by omega) (by omega) (be4_fit hr.tg)).mono (by
    rintro e W' ⟨A, c, rfl, _, h2, h3⟩
    exact ⟨A, c, rfl, h2, h3⟩))
  have hs8 : ∀ W, (Instr.sliceAt 24 (.pointer (some ⟨w.heap.size, 1, none⟩)) none none none).run Try.prog W = .ok (.slice (some ⟨w.heap.size, 1, none⟩) 8 8) W := fun W => by go_simp
  have hs10 : ∀ W, (Instr.sliceAt 26 (.pointer (some ⟨w.heap.size, 9, none⟩)) none none none).run Try.prog W = .ok (.slice (some ⟨w.heap.size, 9, none⟩) 10 10) W := fun W => by go_simp
  have hs6 : ∀ W, (Instr.sliceAt 29 (.pointer (some ⟨w.heap.size, 20, none⟩)) none none none).run Try.prog W = .ok (.slice (some ⟨w.heap.size, 20, none⟩) 6 6) W := fun W => by go_simp
  have hs16 : ∀ W, (Instr.sliceAt 30 (.pointer (some ⟨w.heap.size, 27, none⟩)) none none none).run Try.prog W = .ok (.slice (some ⟨w.heap.size, 27, none⟩) 16 16) W := fun W => by go_simp
  have HF : Hid (([([r.k % 256] ++ r.rd), be 4 r.tg, [r.pn % 256], r.pl] : List (List Int)).flatten = keyR r) := Lib.hid (by unfold keyR; rw [if_neg (by omega)]; rw [if_neg (by omega)]; rw [if_pos hk]; simp)
  have HLen : Hid ((keyR r).length ≤ 140737488355328) := Lib.hid (by rw [← HF.out]; simp [be_len, hr.rd, hr.es, hr.mc, hr.pl] <;> omega)
  have e1 : (r.k == 1) = false := by rw [beq_eq_false_iff_ne]; omega
  have e2 : (r.k == 2) = false := by rw [beq_eq_false_iff_ne]; omega
  have e3 : (r.k == 3) = true := by rw [beq_iff_eq]; omega
  clear hr hk
  go_enter Try.func47, Try.ntmps47
  go_wp2
  refine wp_region_held_drew (S := fun W => KyA w W r) (by kernel_rfl) (HA.out) (fun hS => ?_)
  refine wpAnyH_take (i := 0) (oi := ⟨some 8, _, _, _, _, _⟩) (v := ?_) rfl (by kernel_rfl) (by kernel_rfl) (by kernel_rfl) (fun _ _ _ h => h) (Or.inl ⟨by rfl, ?_⟩) hS ?_
  rotate_left
  · intro wq hq
    first | (go_simp; done) | (go_simp; rfl)
  try simp only [Act.put, List.setIfInBounds_toArray, List.set_cons_zero, List.set_cons_succ]
  refine wpAnyH_take (i := 1) (oi := ⟨some 9, _, _, _, _, _⟩) (v := ?_) rfl (by kernel_rfl) (by kernel_rfl) (by kernel_rfl) (fun _ _ _ h => h) (Or.inl ⟨by rfl, ?_⟩) hS ?_
  rotate_left
  · intro wq hq
    have hc := hq.src.cK
    first | (go_simp; done) | (go_simp; rfl)
  try simp only [Act.put, List.setIfInBounds_toArray, List.set_cons_zero, List.set_cons_succ]
  refine wpAnyH_take (i := 2) (oi := ⟨some 10, _, _, _, _, _⟩) (v := ?_) rfl (by kernel_rfl) (by kernel_rfl) (by kernel_rfl) (fun _ _ _ h => h) (Or.inl ⟨by rfl, ?_⟩) hS ?_
  rotate_left
  · intro wq hq
    first | (go_simp; done) | (go_simp; rfl)
  try simp only [Act.put, List.setIfInBounds_toArray, List.set_cons_zero, List.set_cons_succ]
  refine wpAnyH_take (i := 4) (oi := ⟨some 12, _, _, _, _, _⟩) (v := ?_) rfl (by kernel_rfl) (by kernel_rfl) (by kernel_rfl) (fun _ _ _ h => h) (Or.inl ⟨by rfl, ?_⟩) hS ?_
  rotate_left
  · intro wq hq
    first | (go_simp; done) | (go_simp; rfl)
  try simp only [Act.put, List.setIfInBounds_toArray, List.set_cons_zero, List.set_cons_succ]
  refine wpAnyH_take (i := 5) (oi := ⟨some 13, _, _, _, _, _⟩) (v := ?_) rfl (by kernel_rfl) (by kernel_rfl) (by kernel_rfl) (fun _ _ _ h => h) (Or.inl ⟨by rfl, ?_⟩) hS ?_
  rotate_left
  · intro wq hq
    first | (go_simp; done) | (go_simp; rfl)
  try simp only [Act.put, List.setIfInBounds_toArray, List.set_cons_zero, List.set_cons_succ]
  generalize (w.alloc (.cells (rtc r).toArray 36)).drew = W1 at *
  refine wpAnyH_ready (rs := [3]) (by kernel_rfl) (by simp) ?_
  refine AllReadyH.cons (o := ⟨some 11, _, _, _, _, _⟩) rfl (fun K hK => ?_) AllReadyH.nil
  rw [if_pos (by rfl)]
  go_wp2
  have h1 := byt1_rd W1 (r.k % 256) (Int.emod_nonneg _ (by decide)) (Int.emod_lt_of_pos _ (by decide))
  have hS2 := hS.below (below_one W1 (.cells #[.int .u8 (r.k % 256)] 5))
  refine hK.out _ _ (hS2) (fun hS => ?_)
  clear hK K
  try simp only [Act.put, List.setIfInBounds_toArray, List.set_cons_zero, List.set_cons_succ]
  refine wpAnyH_ready (rs := [6]) (by kernel_rfl) (by simp) ?_
  refine AllReadyH.cons (o := ⟨some 14, _, _, _, _, _⟩) rfl (fun K hK => ?_) AllReadyH.nil
  rw [if_pos (by rfl)]
  go_wp2
  have HL : Hid (RdL ((W1.alloc (.cells #[.int .u8 (r.k % 256)] 5)).alloc (.cells #[.slice (some ⟨W1.heap.size, 0, none⟩) 1 1, .slice (some ⟨w.heap.size, 1, none⟩) 8 8] 22)) ((W1.alloc (.cells #[.int .u8 (r.k % 256)] 5)).alloc (.cells #[.slice (some ⟨W1.heap.size, 0, none⟩) 1 1, .slice (some ⟨w.heap.size, 1, none⟩) 8 8] 22)).heap.size (some ⟨W1.heap.size + 1, 0, none⟩) 2 [[r.k % 256], r.rd]) := Lib.hid (rdl_new_at (W := W1.alloc (.cells #[.int .u8 (r.k % 256)] 5)) (vs := [(some ⟨W1.heap.size, 0, none⟩, 1, 1), (some ⟨w.heap.size, 1, none⟩, 8, 8)]) (ls := [[r.k % 256], r.rd]) ⟨h1, hS2.src.sRd HR.out hS2.src.lt, trivial⟩ 22 _ rfl _ (by simp))
  have hS3 := hS2.below (below_one _ (.cells #[.slice (some ⟨W1.heap.size, 0, none⟩) 1 1, .slice (some ⟨w.heap.size, 1, none⟩) 8 8] 22))
  refine hK.out _ _ (hS3) (fun hS => ?_)
  clear hK K
  try simp only [Act.put, List.setIfInBounds_toArray, List.set_cons_zero, List.set_cons_succ]
  refine wpAnyH_ready (rs := [7]) (by kernel_rfl) (by simp) ?_
  refine AllReadyH.cons (o := ⟨some 15, _, _, _, _, _⟩) rfl (fun K hK => ?_) AllReadyH.nil
  rw [if_pos (by rfl)]
  go_wp2_with fail
  refine (concat_is _ _ 2 2 _ HL.out (by omega) (by simp [HR.out.rd])).mono ?_
  rintro e W2 ⟨v, rfl, hO, hB⟩
  have hS4 := hS3.below hB
  refine hK.out _ _ (hS4) (fun hS => ?_)
  clear hK K
  try simp only [Act.put, List.setIfInBounds_toArray, List.set_cons_zero, List.set_cons_succ]
  refine wpAnyH_take (i := 8) (oi := ⟨some 3, _, _, _, _, _⟩) (v := ?_) rfl (by kernel_rfl) (by kernel_rfl) (by kernel_rfl) (fun _ _ _ h => h) (Or.inl ⟨by rfl, ?_⟩) hS ?_
  rotate_left
  · intro wq hq
    first | (go_simp; done) | (go_simp; rfl)
  try simp only [Act.put, List.setIfInBounds_toArray, List.set_cons_zero, List.set_cons_succ]
  refine wpAnyH_done (by kernel_rfl) ?_ _
  have hfl : ([[r.k % 256], r.rd] : List (List Int)).flatten = [r.k % 256] ++ r.rd := by simp
  rw [hfl] at hO
  obtain ⟨A3, c3, hv, hc3, hR3, _⟩ := hO.at_
  have h9 : ([r.k % 256] ++ r.rd).length = 9 := by simp [HR.out.rd]
  rw [h9] at hv hR3 hc3
  subst hv
  have HB3 := Lib.hid (show KyB w W2.drew r A3 from (KyB.mk hS4 hR3).below (below_drew W2))
  clear hS hS2 hS3 hS4 hB hO hR3 h1 HL hfl h9 HA hs8
  go_wp2_with fail
  refine wp_region_held_drew (S := fun W => KyB w W r A3) (by kernel_rfl) (HB3.out) (fun hS => ?_)
  refine wpAnyH_take (i := 0) (oi := ⟨some 16, _, _, _, _, _⟩) (v := ?_) rfl (by kernel_rfl) (by kernel_rfl) (by kernel_rfl) (fun _ _ _ h => h) (Or.inl ⟨by rfl, ?_⟩) hS ?_
  rotate_left
  · intro wq hq
    first | (go_simp; done) | (go_simp; rfl)
  try simp only [Act.put, List.setIfInBounds_toArray, List.set_cons_zero, List.set_cons_succ]
  refine wpAnyH_take (i := 1) (oi := ⟨some 17, _, _, _, _, _⟩) (v := ?_) rfl (by kernel_rfl) (by kernel_rfl) (by kernel_rfl) (fun _ _ _ h => h) (Or.inl ⟨by rfl, ?_⟩) hS ?_
  rotate_left
  · intro wq hq
    first | (go_simp; done) | (go_simp; rfl)
  try simp only [Act.put, List.setIfInBounds_toArray, List.set_cons_zero, List.set_cons_succ]
  refine wpAnyH_take (i := 2) (oi := ⟨some 18, _, _, _, _, _⟩) (v := ?_) rfl (by kernel_rfl) (by kernel_rfl) (by kernel_rfl) (fun _ _ _ h => h) (Or.inl ⟨by rfl, ?_⟩) hS ?_
  rotate_left
  · intro wq hq
    first | (go_simp; done) | (go_simp; rfl)
  try simp only [Act.put, List.setIfInBounds_toArray, List.set_cons_zero, List.set_cons_succ]
  refine wpAnyH_take (i := 3) (oi := ⟨some 19, _, _, _, _, _⟩) (v := ?_) rfl (by kernel_rfl) (by kernel_rfl) (by kernel_rfl) (fun _ _ _ h => h) (Or.inl ⟨by rfl, ?_⟩) hS ?_
  rotate_left
  · intro wq hq
    have hc := hq.src.cTg HR.out
    first | (go_simp; done) | (go_simp; rfl)
  try simp only [Act.put, List.setIfInBounds_toArray, List.set_cons_zero, List.set_cons_succ]
  refine wpAnyH_ready (rs := [4]) (by kernel_rfl) (by simp) ?_
  refine AllReadyH.cons (o := ⟨some 20, _, _, _, _, _⟩) rfl (fun K hK => ?_) AllReadyH.nil
  rw [if_pos (by rfl)]
  go_wp2_with fail
  refine (HN4.out _).mono ?_
  rintro e W3 ⟨A5, c5, rfl, hr5, hB5⟩
  have hS5 := hS.below hB5
  refine hK.out _ _ (hS5) (fun hS => ?_)
  clear hK K
  try simp only [Act.put, List.setIfInBounds_toArray, List.set_cons_zero, List.set_cons_succ]
  refine wpAnyH_take (i := 5) (oi := ⟨some 4, _, _, _, _, _⟩) (v := ?_) rfl (by kernel_rfl) (by kernel_rfl) (by kernel_rfl) (fun _ _ _ h => h) (Or.inl ⟨by rfl, ?_⟩) hS ?_
  rotate_left
  · intro wq hq
    first | (go_simp; done) | (go_simp; rfl)
  try simp only [Act.put, List.setIfInBounds_toArray, List.set_cons_zero, List.set_cons_succ]
  refine wpAnyH_take (i := 6) (oi := ⟨some 5, _, _, _, _, _⟩) (v := ?_) rfl (by kernel_rfl) (by kernel_rfl) (by kernel_rfl) (fun _ _ _ h => h) (Or.inl ⟨by rfl, ?_⟩) hS ?_
  rotate_left
  · intro wq hq
    first | (go_simp; done) | (go_simp; rfl)
  try simp only [Act.put, List.setIfInBounds_toArray, List.set_cons_zero, List.set_cons_succ]
  refine wpAnyH_done (by kernel_rfl) ?_ _
  have HC := Lib.hid (show KyC w W3.drew r A3 A5 from (KyC.mk hS5 hr5).below (below_drew W3))
  clear hS hS5 hB5 hr5 HB3 hs10
  go_wp2_with fail
  refine wp_region_held_drew (S := fun W => KyC w W r A3 A5) (by kernel_rfl) (HC.out) (fun hS => ?_)
  refine wpAnyH_take (i := 0) (oi := ⟨some 21, _, _, _, _, _⟩) (v := ?_) rfl (by kernel_rfl) (by kernel_rfl) (by kernel_rfl) (fun _ _ _ h => h) (Or.inl ⟨by rfl, ?_⟩) hS ?_
  rotate_left
  · intro wq hq
    first | (go_simp; done) | (go_simp; rfl)
  try simp only [Act.put, List.setIfInBounds_toArray, List.set_cons_zero, List.set_cons_succ]
  refine wpAnyH_take (i := 1) (oi := ⟨some 22, _, _, _, _, _⟩) (v := ?_) rfl (by kernel_rfl) (by kernel_rfl) (by kernel_rfl) (fun _ _ _ h => h) (Or.inl ⟨by rfl, ?_⟩) hS ?_
  rotate_left
  · intro wq hq
    first | (go_simp; done) | (go_simp; rfl)
  try simp only [Act.put, List.setIfInBounds_toArray, List.set_cons_zero, List.set_cons_succ]
  refine wpAnyH_take (i := 2) (oi := ⟨some 23, _, _, _, _, _⟩) (v := ?_) rfl (by kernel_rfl) (by kernel_rfl) (by kernel_rfl) (fun _ _ _ h => h) (Or.inl ⟨by rfl, ?_⟩) hS ?_
  rotate_left
  · intro wq hq
    have hc := hq.src.cPn HR.out
    first | (go_simp; done) | (go_simp; rfl)
  try simp only [Act.put, List.setIfInBounds_toArray, List.set_cons_zero, List.set_cons_succ]
  refine wpAnyH_take (i := 3) (oi := ⟨some 24, _, _, _, _, _⟩) (v := ?_) rfl (by kernel_rfl) (by kernel_rfl) (by kernel_rfl) (fun _ _ _ h => h) (Or.inl ⟨by rfl, ?_⟩) hS ?_
  rotate_left
  · intro wq hq
    first | (go_simp; done) | (go_simp; rfl)
  try simp only [Act.put, List.setIfInBounds_toArray, List.set_cons_zero, List.set_cons_succ]
  refine wpAnyH_take (i := 5) (oi := ⟨some 26, _, _, _, _, _⟩) (v := ?_) rfl (by kernel_rfl) (by kernel_rfl) (by kernel_rfl) (fun _ _ _ h => h) (Or.inl ⟨by rfl, ?_⟩) hS ?_
  rotate_left
  · intro wq hq
    first | (go_simp; done) | (go_simp; rfl)
  try simp only [Act.put, List.setIfInBounds_toArray, List.set_cons_zero, List.set_cons_succ]
  refine wpAnyH_take (i := 6) (oi := ⟨some 27, _, _, _, _, _⟩) (v := ?_) rfl (by kernel_rfl) (by kernel_rfl) (by kernel_rfl) (fun _ _ _ h => h) (Or.inl ⟨by rfl, ?_⟩) hS ?_
  rotate_left
  · intro wq hq
    first | (go_simp; done) | (go_simp; rfl)
  try simp only [Act.put, List.setIfInBounds_toArray, List.set_cons_zero, List.set_cons_succ]
  refine wpAnyH_take (i := 7) (oi := ⟨some 28, _, _, _, _, _⟩) (v := ?_) rfl (by kernel_rfl) (by kernel_rfl) (by kernel_rfl) (fun _ _ _ h => h) (Or.inl ⟨by rfl, ?_⟩) hS ?_
  rotate_left
  · intro wq hq
    first | (go_simp; done) | (go_simp; rfl)
  try simp only [Act.put, List.setIfInBounds_toArray, List.set_cons_zero, List.set_cons_succ]
  refine wpAnyH_take (i := 8) (oi := ⟨some 29, _, _, _, _, _⟩) (v := ?_) rfl (by kernel_rfl) (by kernel_rfl) (by kernel_rfl) (fun _ _ _ h => h) (Or.inl ⟨by rfl, ?_⟩) hS ?_
  rotate_left
  · intro wq hq
    first | (go_simp; done) | (go_simp; rfl)
  try simp only [Act.put, List.setIfInBounds_toArray, List.set_cons_zero, List.set_cons_succ]
  generalize hWd : W3.drew = W4 at *
  refine wpAnyH_ready (rs := [4]) (by kernel_rfl) (by simp) ?_
  refine AllReadyH.cons (o := ⟨some 25, _, _, _, _, _⟩) rfl (fun K hK => ?_) AllReadyH.nil
  rw [if_pos (by rfl)]
  go_wp2
  have h1 := byt1_rd W4 (r.pn % 256) (Int.emod_nonneg _ (by decide)) (Int.emod_lt_of_pos _ (by decide))
  have hS6 := hS.below (below_one W4 (.cells #[.int .u8 (r.pn % 256)] 5))
  refine hK.out _ _ (hS6) (fun hS => ?_)
  clear hK K
  try simp only [Act.put, List.setIfInBounds_toArray, List.set_cons_zero, List.set_cons_succ]
  refine wpAnyH_take (i := 9) (oi := ⟨some 6, _, _, _, _, _⟩) (v := ?_) rfl (by kernel_rfl) (by kernel_rfl) (by kernel_rfl) (fun _ _ _ h => h) (Or.inl ⟨by rfl, ?_⟩) hS ?_
  rotate_left
  · intro wq hq
    first | (go_simp; done) | (go_simp; rfl)
  try simp only [Act.put, List.setIfInBounds_toArray, List.set_cons_zero, List.set_cons_succ]
  refine wpAnyH_take (i := 10) (oi := ⟨some 7, _, _, _, _, _⟩) (v := ?_) rfl (by kernel_rfl) (by kernel_rfl) (by kernel_rfl) (fun _ _ _ h => h) (Or.inl ⟨by rfl, ?_⟩) hS ?_
  rotate_left
  · intro wq hq
    first | (go_simp; done) | (go_simp; rfl)
  try simp only [Act.put, List.setIfInBounds_toArray, List.set_cons_zero, List.set_cons_succ]
  refine wpAnyH_done (by kernel_rfl) ?_ _
  obtain ⟨A6, c6, hA6⟩ : ∃ A6 c6, Value.slice (some ⟨W4.heap.size, 0, none⟩) 1 1 = .slice A6 1 c6 ∧ A6 = some ⟨W4.heap.size, 0, none⟩ := ⟨_, _, rfl, rfl⟩
  have HD0 := Lib.hid (show KyD w (W4.alloc (.cells #[.int .u8 (r.pn % 256)] 5)) r A3 A5 A6 from ⟨hS6, by rw [hA6.2]; exact h1⟩)
  have hA6' := hA6.1
  clear hS hS6 h1 HC hA6 hs16 hWd
  try rw [hA6']
  clear hA6'
  have HD := HD0
  generalize W4.alloc (.cells #[.int .u8 (r.pn % 256)] 5) = W5 at *
  have cK := HD.out.src.cK
  have HL : Hid (RdL (W5.alloc (.cells #[.slice A3 9 c3, .slice A5 4 c5, .slice A6 1 c6, .slice (some ⟨w.heap.size, 27, none⟩) 16 16] 22)) (W5.alloc (.cells #[.slice A3 9 c3, .slice A5 4 c5, .slice A6 1 c6, .slice (some ⟨w.heap.size, 27, none⟩) 16 16] 22)).heap.size (some ⟨W5.heap.size, 0, none⟩) 4 [([r.k % 256] ++ r.rd), be 4 r.tg, [r.pn % 256], r.pl]) := Lib.hid (rdl_new_at (W := W5) (vs := [(A3, 9, c3), (A5, 4, c5), (A6, 1, c6), (some ⟨w.heap.size, 27, none⟩, 16, 16)]) (ls := [([r.k % 256] ++ r.rd), be 4 r.tg, [r.pn % 256], r.pl]) ⟨HD.out.r3, HD.out.r5, HD.out.r6, HD.out.src.sPl HR.out HD.out.src.lt, trivial⟩ 22 _ rfl _ rfl)
  have HLow := Lib.hid HD.out.low
  clear HD
  go_wp2_with fail
  refine (concat_is _ _ 4 4 _ HL.out (by omega) (by rw [HF.out]; exact HLen.out)).mono ?_
  rintro e W9 ⟨v, rfl, hO, hB9⟩
  have HEnd := Lib.hid (show OwnB w.heap.size W9 v (keyR r) ∧ Below w.heap.size w W9 from ⟨by rw [← HF.out]; exact hO.low (by have := HLow.out.size; simp; omega), (HLow.out.trans ((below_one W5 _).mono HLow.out.size)).trans (hB9.mono (by have := HLow.out.size; simp; omega))⟩)
  clear hO hB9
  go_wp2
  go_ret
  exact ⟨v, rfl, HEnd.out.1, HEnd.out.2⟩
end Go.Proofs.Ytickcfcncpnaiaa
namespace Go.Proofs.Ytickcfcncpnaiaa
open Go.RowKit
set_option maxRecDepth 100000
set_option linter.unusedSimpArgs false
set_option linter.unusedVariables false

set_option maxHeartbeats 4000000 in
set_option maxRecDepth 100000 in
theorem key_4 (w : World) (r : Rt) (hr : RtOk r) (hk : r.k = 4) : Calls Try.prog 47 #[.agg (rtc r).toArray] w (KeyPost w r) := by
  have HR := Lib.hid hr
  have HA := Lib.hid (show KyA w ((w.alloc (.cells (rtc r).toArray 36)).drew) r from ⟨(RtAt.new w r hr 36).keep rfl, below_drewN ((Below.refl w.heap.size w).alloc (Nat.le_refl _) _) 1⟩)
  have HN4 : Hid (∀ W, Calls Try.prog 49 #[.int .u32 r.tg, .int .i64 4] W fun e W' => ∃ A c, e = .returned (.slice A 4 c) ∧ Rd W' W'.heap.size A 4 (be 4 r.tg) ∧ Below W.heap.size W W') := Lib.hid (fun W => (numb_is W r.tg 4 hr.tg (by omega) (by omega) (be4_fit hr.tg)).mono (by
    rintro e W' ⟨A, c, rfl, _, h2, h3⟩
    exact ⟨A, c, rfl, h2, h3⟩))
  have hs8 : ∀ W, (Instr.sliceAt 24 (.pointer (some ⟨w.heap.size, 1, none⟩)) none none none).run Try.prog W = .ok (.slice (some ⟨w.heap.size, 1, none⟩) 8 8) W := fun W => by go_simp
  have hs10 : ∀ W, (Instr.sliceAt 26 (.pointer (some ⟨w.heap.size, 9, none⟩)) none none none).run Try.prog W = .ok (.slice (some ⟨w.heap.size, 9, none⟩) 10 10) W := fun W => by go_simp
  have hs6 : ∀ W, (Instr.sliceAt 29 (.pointer (some ⟨w.heap.size, 20, none⟩)) none none none).run Try.prog W = .ok (.slice (some ⟨w.heap.size, 20, none⟩) 6 6) W := fun W => by go_simp
  have hs16 : ∀ W, (Instr.sliceAt 30 (.pointer (some ⟨w.heap.size, 27, none⟩)) none none none).run Try.prog W = .ok (.slice (some ⟨w.heap.size, 27, none⟩) 16 16) W := fun W => by go_simp
  have HF : Hid (([([r.k % 256] ++ r.rd), r.es, [r.pn % 256], r.pl] : List (List Int)).flatten = keyR r) := Lib.hid (by unfold keyR; rw [if_neg (by omega)]; rw [if_neg (by omega)]; rw [if_neg (by omega)]; rw [if_pos hk]; simp)
  have HLen : Hid ((keyR r).length ≤ 140737488355328) := Lib.hid (by rw [← HF.out]; simp [be_len, hr.rd, hr.es, hr.mc, hr.pl] <;> omega)
  have e1 : (r.k == 1) = false := by rw [beq_eq_false_iff_ne]; omega
  have e2 : (r.k == 2) = false := by rw [beq_eq_false_iff_ne]; omega
  have e3 : (r.k == 3) = false := by rw [beq_eq_false_iff_ne]; omega
  have e4 : (r.k == 4) = true := by rw [beq_iff_eq]; omega
  clear hr hk
  go_enter Try.func47, Try.ntmps47
  go_wp2
  refine wp_region_held_drew (S := fun W => KyA w W r) (by kernel_rfl) (HA.out) (fun hS => ?_)
  refine wpAnyH_take (i := 0) (oi := ⟨some 8, _, _, _, _, _⟩) (v := ?_) rfl (by kernel_rfl) (by kernel_rfl) (by kernel_rfl) (fun _ _ _ h => h) (Or.inl ⟨by rfl, ?_⟩) hS ?_
  rotate_left
  · intro wq hq
    first | (go_simp; done) | (go_simp; rfl)
  try simp only [Act.put, List.setIfInBounds_toArray, List.set_cons_zero, List.set_cons_succ]
  refine wpAnyH_take (i := 1) (oi := ⟨some 9, _, _, _, _, _⟩) (v := ?_) rfl (by kernel_rfl) (by kernel_rfl) (by kernel_rfl) (fun _ _ _ h => h) (Or.inl ⟨by rfl, ?_⟩) hS ?_
  rotate_left
  · intro wq hq
    have hc := hq.src.cK
    first | (go_simp; done) | (go_simp; rfl)
  try simp only [Act.put, List.setIfInBounds_toArray, List.set_cons_zero, List.set_cons_succ]
  refine wpAnyH_take (i := 2) (oi := ⟨some 10, _, _, _, _, _⟩) (v := ?_) rfl (by kernel_rfl) (by kernel_rfl) (by kernel_rfl) (fun _ _ _ h => h) (Or.inl ⟨by rfl, ?_⟩) hS ?_
  rotate_left
  · intro wq hq
    first | (go_simp; done) | (go_simp; rfl)
  try simp only [Act.put, List.setIfInBounds_toArray, List.set_cons_zero, List.set_cons_succ]
  refine wpAnyH_take (i := 4) (oi := ⟨some 12, _, _, _, _, _⟩) (v := ?_) rfl (by kernel_rfl) (by kernel_rfl) (by kernel_rfl) (fun _ _ _ h => h) (Or.inl ⟨by rfl, ?_⟩) hS ?_
  rotate_left
  · intro wq hq
    first | (go_simp; done) | (go_simp; rfl)
  try simp only [Act.put, List.setIfInBounds_toArray, List.set_cons_zero, List.set_cons_succ]
  refine wpAnyH_take (i := 5) (oi := ⟨some 13, _, _, _, _, _⟩) (v := ?_) rfl (by kernel_rfl) (by kernel_rfl) (by kernel_rfl) (fun _ _ _ h => h) (Or.inl ⟨by rfl, ?_⟩) hS ?_
  rotate_left
  · intro wq hq
    first | (go_simp; done) | (go_simp; rfl)
  try simp only [Act.put, List.setIfInBounds_toArray, List.set_cons_zero, List.set_cons_succ]
  generalize (w.alloc (.cells (rtc r).toArray 36)).drew = W1 at *
  refine wpAnyH_ready (rs := [3]) (by kernel_rfl) (by simp) ?_
  refine AllReadyH.cons (o := ⟨some 11, _, _, _, _, _⟩) rfl (fun K hK => ?_) AllReadyH.nil
  rw [if_pos (by rfl)]
  go_wp2
  have h1 := byt1_rd W1 (r.k % 256) (Int.emod_nonneg _ (by decide)) (Int.emod_lt_of_pos _ (by decide))
  have hS2 := hS.below (below_one W1 (.cells #[.int .u8 (r.k % 256)] 5))
  refine hK.out _ _ (hS2) (fun hS => ?_)
  clear hK K
  try simp only [Act.put, List.setIfInBounds_toArray, List.set_cons_zero, List.set_cons_succ]
  refine wpAnyH_ready (rs := [6]) (by kernel_rfl) (by simp) ?_
  refine AllReadyH.cons (o := ⟨some 14, _, _, _, _, _⟩) rfl (fun K hK => ?_) AllReadyH.nil
  rw [if_pos (by rfl)]
  go_wp2
  have HL : Hid (RdL ((W1.alloc (.cells #[.int .u8 (r.k % 256)] 5)).alloc (.cells #[.slice (some ⟨W1.heap.size, 0, none⟩) 1 1, .slice (some ⟨w.heap.size, 1, none⟩) 8 8] 22)) ((W1.alloc (.cells #[.int .u8 (r.k % 256)] 5)).alloc (.cells #[.slice (some ⟨W1.heap.size, 0, none⟩) 1 1, .slice (some ⟨w.heap.size, 1, none⟩) 8 8] 22)).heap.size (some ⟨W1.heap.size + 1, 0, none⟩) 2 [[r.k % 256], r.rd]) := Lib.hid (rdl_new_at (W := W1.alloc (.cells #[.int .u8 (r.k % 256)] 5)) (vs := [(some ⟨W1.heap.size, 0, none⟩, 1, 1), (some ⟨w.heap.size, 1, none⟩, 8, 8)]) (ls := [[r.k % 256], r.rd]) ⟨h1, hS2.src.sRd HR.out hS2.src.lt, trivial⟩ 22 _ rfl _ (by simp))
  have hS3 := hS2.below (below_one _ (.cells #[.slice (some ⟨W1.heap.size, 0, none⟩) 1 1, .slice (some ⟨w.heap.size, 1, none⟩) 8 8] 22))
  refine hK.out _ _ (hS3) (fun hS => ?_)
  clear hK K
  try simp only [Act.put, List.setIfInBounds_toArray, List.set_cons_zero, List.set_cons_succ]
  refine wpAnyH_ready (rs := [7]) (by kernel_rfl) (by simp) ?_
  refine AllReadyH.cons (o := ⟨some 15, _, _, _, _, _⟩) rfl (fun K hK => ?_) AllReadyH.nil
  rw [if_pos (by rfl)]
  go_wp2_with fail
  refine (concat_is _ _ 2 2 _ HL.out (by omega) (by simp [HR.out.rd])).mono ?_
  rintro e W2 ⟨v, rfl, hO, hB⟩
  have hS4 := hS3.below hB
  refine hK.out _ _ (hS4) (fun hS => ?_)
  clear hK K
  try simp only [Act.put, List.setIfInBounds_toArray, List.set_cons_zero, List.set_cons_succ]
  refine wpAnyH_take (i := 8) (oi := ⟨some 3, _, _, _, _, _⟩) (v := ?_) rfl (by kernel_rfl) (by kernel_rfl) (by kernel_rfl) (fun _ _ _ h => h) (Or.inl ⟨by rfl, ?_⟩) hS ?_
  rotate_left
  · intro wq hq
    first | (go_simp; done) | (go_simp; rfl)
  try simp only [Act.put, List.setIfInBounds_toArray, List.set_cons_zero, List.set_cons_succ]
  refine wpAnyH_done (by kernel_rfl) ?_ _
  have hfl : ([[r.k % 256], r.rd] : List (List Int)).flatten = [r.k % 256] ++ r.rd := by simp
  rw [hfl] at hO
  obtain ⟨A3, c3, hv, hc3, hR3, _⟩ := hO.at_
  have h9 : ([r.k % 256] ++ r.rd).length = 9 := by simp [HR.out.rd]
  rw [h9] at hv hR3 hc3
  subst hv
  have HB3 := Lib.hid (show KyB w W2.drew r A3 from (KyB.mk hS4 hR3).below (below_drew W2))
  clear hS hS2 hS3 hS4 hB hO hR3 h1 HL hfl h9 HA hs8
  go_wp2_with fail
  refine wp_region_held_drew (S := fun W => KyB w W r A3) (by kernel_rfl) (HB3.out) (fun hS => ?_)
  refine wpAnyH_take (i := 0) (oi := ⟨some 16, _, _, _, _, _⟩) (v := ?_) rfl (by kernel_rfl) (by kernel_rfl) (by kernel_rfl) (fun _ _ _ h => h) (Or.inl ⟨by rfl, ?_⟩) hS ?_
  rotate_left
  · intro wq hq
    first | (go_simp; done) | (go_simp; rfl)
  try simp only [Act.put, List.setIfInBounds_toArray, List.set_cons_zero, List.set_cons_succ]
  refine wpAnyH_take (i := 1) (oi := ⟨some 17, _, _, _, _, _⟩) (v := ?_) rfl (by kernel_rfl) (by kernel_rfl) (by kernel_rfl) (fun _ _ _ h => h) (Or.inl ⟨by rfl, ?_⟩) hS ?_
  rotate_left
  · intro wq hq
    first | (go_simp; done) | (go_simp; rfl)
  try simp only [Act.put, List.setIfInBounds_toArray, List.set_cons_zero, List.set_cons_succ]
  refine wpAnyH_take (i := 2) (oi := ⟨some 18, _, _, _, _, _⟩) (v := ?_) rfl (by kernel_rfl) (by kernel_rfl) (by kernel_rfl) (fun _ _ _ h => h) (Or.inl ⟨by rfl, ?_⟩) hS ?_
  rotate_left
  · intro wq hq
    first | (go_simp; done) | (go_simp; rfl)
  try simp only [Act.put, List.setIfInBounds_toArray, List.set_cons_zero, List.set_cons_succ]
  refine wpAnyH_take (i := 3) (oi := ⟨some 19, _, _, _, _, _⟩) (v := ?_) rfl (by kernel_rfl) (by kernel_rfl) (by kernel_rfl) (fun _ _ _ h => h) (Or.inl ⟨by rfl, ?_⟩) hS ?_
  rotate_left
  · intro wq hq
    have hc := hq.src.cTg HR.out
    first | (go_simp; done) | (go_simp; rfl)
  try simp only [Act.put, List.setIfInBounds_toArray, List.set_cons_zero, List.set_cons_succ]
  refine wpAnyH_ready (rs := [4]) (by kernel_rfl) (by simp) ?_
  refine AllReadyH.cons (o := ⟨some 20, _, _, _, _, _⟩) rfl (fun K hK => ?_) AllReadyH.nil
  rw [if_pos (by rfl)]
  go_wp2_with fail
  refine (HN4.out _).mono ?_
  rintro e W3 ⟨A5, c5, rfl, hr5, hB5⟩
  have hS5 := hS.below hB5
  refine hK.out _ _ (hS5) (fun hS => ?_)
  clear hK K
  try simp only [Act.put, List.setIfInBounds_toArray, List.set_cons_zero, List.set_cons_succ]
  refine wpAnyH_take (i := 5) (oi := ⟨some 4, _, _, _, _, _⟩) (v := ?_) rfl (by kernel_rfl) (by kernel_rfl) (by kernel_rfl) (fun _ _ _ h => h) (Or.inl ⟨by rfl, ?_⟩) hS ?_
  rotate_left
  · intro wq hq
    first | (go_simp; done) | (go_simp; rfl)
  try simp only [Act.put, List.setIfInBounds_toArray, List.set_cons_zero, List.set_cons_succ]
  refine wpAnyH_take (i := 6) (oi := ⟨some 5, _, _, _, _, _⟩) (v := ?_) rfl (by kernel_rfl) (by kernel_rfl) (by kernel_rfl) (fun _ _ _ h => h) (Or.inl ⟨by rfl, ?_⟩) hS ?_
  rotate_left
  · intro wq hq
    first | (go_simp; done) | (go_simp; rfl)
  try simp only [Act.put, List.setIfInBounds_toArray, List.set_cons_zero, List.set_cons_succ]
  refine wpAnyH_done (by kernel_rfl) ?_ _
  have HC := Lib.hid (show KyC w W3.drew r A3 A5 from (KyC.mk hS5 hr5).below (below_drew W3))
  clear hS hS5 hB5 hr5 HB3 hs10
  go_wp2_with fail
  refine wp_region_held_drew (S := fun W => KyC w W r A3 A5) (by kernel_rfl) (HC.out) (fun hS => ?_)
  refine wpAnyH_take (i := 0) (oi := ⟨some 21, _, _, _, _, _⟩) (v := ?_) rfl (by kernel_rfl) (by kernel_rfl) (by kernel_rfl) (fun _ _ _ h => h) (Or.inl ⟨by rfl, ?_⟩) hS ?_
  rotate_left
  · intro wq hq
    first | (go_simp; done) | (go_simp; rfl)
  try simp only [Act.put, List.setIfInBounds_toArray, List.set_cons_zero, List.set_cons_succ]
  refine wpAnyH_take (i := 1) (oi := ⟨some 22, _, _, _, _, _⟩) (v := ?_) rfl (by kernel_rfl) (by kernel_rfl) (by kernel_rfl) (fun _ _ _ h => h) (Or.inl ⟨by rfl, ?_⟩) hS ?_
  rotate_left
  · intro wq hq
    first | (go_simp; done) | (go_simp; rfl)
  try simp only [Act.put, List.setIfInBounds_toArray, List.set_cons_zero, List.set_cons_succ]
  refine wpAnyH_take (i := 2) (oi := ⟨some 23, _, _, _, _, _⟩) (v := ?_) rfl (by kernel_rfl) (by kernel_rfl) (by kernel_rfl) (fun _ _ _ h => h) (Or.inl ⟨by rfl, ?_⟩) hS ?_
  rotate_left
  · intro wq hq
    have hc := hq.src.cPn HR.out
    first | (go_simp; done) | (go_simp; rfl)
  try simp only [Act.put, List.setIfInBounds_toArray, List.set_cons_zero, List.set_cons_succ]
  refine wpAnyH_take (i := 3) (oi := ⟨some 24, _, _, _, _, _⟩) (v := ?_) rfl (by kernel_rfl) (by kernel_rfl) (by kernel_rfl) (fun _ _ _ h => h) (Or.inl ⟨by rfl, ?_⟩) hS ?_
  rotate_left
  · intro wq hq
    first | (go_simp; done) | (go_simp; rfl)
  try simp only [Act.put, List.setIfInBounds_toArray, List.set_cons_zero, List.set_cons_succ]
  refine wpAnyH_take (i := 5) (oi := ⟨some 26, _, _, _, _, _⟩) (v := ?_) rfl (by kernel_rfl) (by kernel_rfl) (by kernel_rfl) (fun _ _ _ h => h) (Or.inl ⟨by rfl, ?_⟩) hS ?_
  rotate_left
  · intro wq hq
    first | (go_simp; done) | (go_simp; rfl)
  try simp only [Act.put, List.setIfInBounds_toArray, List.set_cons_zero, List.set_cons_succ]
  refine wpAnyH_take (i := 6) (oi := ⟨some 27, _, _, _, _, _⟩) (v := ?_) rfl (by kernel_rfl) (by kernel_rfl) (by kernel_rfl) (fun _ _ _ h => h) (Or.inl ⟨by rfl, ?_⟩) hS ?_
  rotate_left
  · intro wq hq
    first | (go_simp; done) | (go_simp; rfl)
  try simp only [Act.put, List.setIfInBounds_toArray, List.set_cons_zero, List.set_cons_succ]
  refine wpAnyH_take (i := 7) (oi := ⟨some 28, _, _, _, _, _⟩) (v := ?_) rfl (by kernel_rfl) (by kernel_rfl) (by kernel_rfl) (fun _ _ _ h => h) (Or.inl ⟨by rfl, ?_⟩) hS ?_
  rotate_left
  · intro wq hq
    first | (go_simp; done) | (go_simp; rfl)
  try simp only [Act.put, List.setIfInBounds_toArray, List.set_cons_zero, List.set_cons_succ]
  refine wpAnyH_take (i := 8) (oi := ⟨some 29, _, _, _, _, _⟩) (v := ?_) rfl (by kernel_rfl) (by kernel_rfl) (by kernel_rfl) (fun _ _ _ h => h) (Or.inl ⟨by rfl, ?_⟩) hS ?_
  rotate_left
  · intro wq hq
    first | (go_simp; done) | (go_simp; rfl)
  try simp only [Act.put, List.setIfInBounds_toArray, List.set_cons_zero, List.set_cons_succ]
  generalize hWd : W3.drew = W4 at *
  refine wpAnyH_ready (rs := [4]) (by kernel_rfl) (by simp) ?_
  refine AllReadyH.cons (o := ⟨some 25, _, _, _, _, _⟩) rfl (fun K hK => ?_) AllReadyH.nil
  rw [if_pos (by rfl)]
  go_wp2
  have h1 := byt1_rd W4 (r.pn % 256) (Int.emod_nonneg _ (by decide)) (Int.emod_lt_of_pos _ (by decide))
  have hS6 := hS.below (below_one W4 (.cells #[.int .u8 (r.pn % 256)] 5))
  refine hK.out _ _ (hS6) (fun hS => ?_)
  clear hK K
  try simp only [Act.put, List.setIfInBounds_toArray, List.set_cons_zero, List.set_cons_succ]
  refine wpAnyH_take (i := 9) (oi := ⟨some 6, _, _, _, _, _⟩) (v := ?_) rfl (by kernel_rfl) (by kernel_rfl) (by kernel_rfl) (fun _ _ _ h => h) (Or.inl ⟨by rfl, ?_⟩) hS ?_
  rotate_left
  · intro wq hq
    first | (go_simp; done) | (go_simp; rfl)
  try simp only [Act.put, List.setIfInBounds_toArray, List.set_cons_zero, List.set_cons_succ]
  refine wpAnyH_take (i := 10) (oi := ⟨some 7, _, _, _, _, _⟩) (v := ?_) rfl (by kernel_rfl) (by kernel_rfl) (by kernel_rfl) (fun _ _ _ h => h) (Or.inl ⟨by rfl, ?_⟩) hS ?_
  rotate_left
  · intro wq hq
    first | (go_simp; done) | (go_simp; rfl)
  try simp only [Act.put, List.setIfInBounds_toArray, List.set_cons_zero, List.set_cons_succ]
  refine wpAnyH_done (by kernel_rfl) ?_ _
  obtain ⟨A6, c6, hA6⟩ : ∃ A6 c6, Value.slice (some ⟨W4.heap.size, 0, none⟩) 1 1 = .slice A6 1 c6 ∧ A6 = some ⟨W4.heap.size, 0, none⟩ := ⟨_, _, rfl, rfl⟩
  have HD0 := Lib.hid (show KyD w (W4.alloc (.cells #[.int .u8 (r.pn % 256)] 5)) r A3 A5 A6 from ⟨hS6, by rw [hA6.2]; exact h1⟩)
  have hA6' := hA6.1
  clear hS hS6 h1 HC hA6 hs16 hWd
  try rw [hA6']
  clear hA6'
  have HD := HD0
  generalize W4.alloc (.cells #[.int .u8 (r.pn % 256)] 5) = W5 at *
  have cK := HD.out.src.cK
  have HL : Hid (RdL (W5.alloc (.cells #[.slice A3 9 c3, .slice (some ⟨w.heap.size, 9, none⟩) 10 10, .slice A6 1 c6, .slice (some ⟨w.heap.size, 27, none⟩) 16 16] 22)) (W5.alloc (.cells #[.slice A3 9 c3, .slice (some ⟨w.heap.size, 9, none⟩) 10 10, .slice A6 1 c6, .slice (some ⟨w.heap.size, 27, none⟩) 16 16] 22)).heap.size (some ⟨W5.heap.size, 0, none⟩) 4 [([r.k % 256] ++ r.rd), r.es, [r.pn % 256], r.pl]) := Lib.hid (rdl_new_at (W := W5) (vs := [(A3, 9, c3), (some ⟨w.heap.size, 9, none⟩, 10, 10), (A6, 1, c6), (some ⟨w.heap.size, 27, none⟩, 16, 16)]) (ls := [([r.k % 256] ++ r.rd), r.es, [r.pn % 256], r.pl]) ⟨HD.out.r3, HD.out.src.sEs HR.out HD.out.src.lt, HD.out.r6, HD.out.src.sPl HR.out HD.out.src.lt, trivial⟩ 22 _ rfl _ rfl)
  have HLow := Lib.hid HD.out.low
  clear HD
  go_wp2_with fail
  refine (concat_is _ _ 4 4 _ HL.out (by omega) (by rw [HF.out]; exact HLen.out)).mono ?_
  rintro e W9 ⟨v, rfl, hO, hB9⟩
  have HEnd := Lib.hid (show OwnB w.heap.size W9 v (keyR r) ∧ Below w.heap.size w W9 from ⟨by rw [← HF.out]; exact hO.low (by have := HLow.out.size; simp; omega), (HLow.out.trans ((below_one W5 _).mono HLow.out.size)).trans (hB9.mono (by have := HLow.out.size; simp; omega))⟩)
  clear hO hB9
  go_wp2
  go_ret
  exact ⟨v, rfl, HEnd.out.1, HEnd.out.2⟩
end Go.Proofs.Ytickcfcncpnaiaa
namespace Go.Proofs.Ytickcfcncpnaiaa
open Go.RowKit
set_option maxRecDepth 100000
set_option linter.unusedSimpArgs false
set_option linter.unusedVariables false

set_option maxHeartbeats 4000000 in
set_option maxRecDepth 100000 in
theorem key_5 (w : World) (r : Rt) (hr : RtOk r) (hk : r.k = 5) : Calls Try.prog 47 #[.agg (rtc r).toArray] w (KeyPost w r) := by
  have HR := Lib.hid hr
  have HA := Lib.hid (show KyA w ((w.alloc (.cells (rtc r).toArray 36)).drew) r from ⟨(RtAt.new w r hr 36).keep rfl, below_drewN ((Below.refl w.heap.size w).alloc (Nat.le_refl _) _) 1⟩)
  have HN4 : Hid (∀ W, Calls Try.prog 49 #[.int .u32 r.tg, .int .i64 4] W fun e W' => ∃ A c, e = .returned (.slice A 4 c) ∧ Rd W' W'.heap.size A 4 (be 4 r.tg) ∧ Below W.heap.size W W') := Lib.hid (fun W => (numb_is W r.tg 4 hr.tg (by omega) (by omega) (be4_fit hr.tg)).mono (by
    rintro e W' ⟨A, c, rfl, _, h2, h3⟩
    exact ⟨A, c, rfl, h2, h3⟩))
  have hs8 : ∀ W, (Instr.sliceAt 24 (.pointer (some ⟨w.heap.size, 1, none⟩)) none none none).run Try.prog W = .ok (.slice (some ⟨w.heap.size, 1, none⟩) 8 8) W := fun W => by go_simp
  have hs10 : ∀ W, (Instr.sliceAt 26 (.pointer (some ⟨w.heap.size, 9, none⟩)) none none none).run Try.prog W = .ok (.slice (some ⟨w.heap.size, 9, none⟩) 10 10) W := fun W => by go_simp
  have hs6 : ∀ W, (Instr.sliceAt 29 (.pointer (some ⟨w.heap.size, 20, none⟩)) none none none).run Try.prog W = .ok (.slice (some ⟨w.heap.size, 20, none⟩) 6 6) W := fun W => by go_simp
  have hs16 : ∀ W, (Instr.sliceAt 30 (.pointer (some ⟨w.heap.size, 27, none⟩)) none none none).run Try.prog W = .ok (.slice (some ⟨w.heap.size, 27, none⟩) 16 16) W := fun W => by go_simp
  have HF : Hid (([([r.k % 256] ++ r.rd), be 4 r.tg, [r.pn % 256], [if r.v6 then 1 else 0], r.pl] : List (List Int)).flatten = keyR r) := Lib.hid (by unfold keyR; simp only [hk]; rw [if_neg (show ¬ (5 : Int) = 1 by decide), if_neg (show ¬ (5 : Int) = 2 by decide), if_neg (show ¬ (5 : Int) = 3 by decide), if_neg (show ¬ (5 : Int) = 4 by decide)]; simp)
  have HLen : Hid ((keyR r).length ≤ 140737488355328) := Lib.hid (by rw [← HF.out]; simp [be_len, hr.rd, hr.es, hr.mc, hr.pl] <;> omega)
  have e1 : (r.k == 1) = false := by rw [beq_eq_false_iff_ne]; omega
  have e2 : (r.k == 2) = false := by rw [beq_eq_false_iff_ne]; omega
  have e3 : (r.k == 3) = false := by rw [beq_eq_false_iff_ne]; omega
  have e4 : (r.k == 4) = false := by rw [beq_eq_false_iff_ne]; omega
  have e5 : (r.k == 5) = true := by rw [beq_iff_eq]; omega
  have HFa := Lib.hid (fun W => family_is W r.v6 r.pl hr.pl)
  clear hr hk
  go_enter Try.func47, Try.ntmps47
  go_wp2
  refine wp_region_held_drew (S := fun W => KyA w W r) (by kernel_rfl) (HA.out) (fun hS => ?_)
  refine wpAnyH_take (i := 0) (oi := ⟨some 8, _, _, _, _, _⟩) (v := ?_) rfl (by kernel_rfl) (by kernel_rfl) (by kernel_rfl) (fun _ _ _ h => h) (Or.inl ⟨by rfl, ?_⟩) hS ?_
  rotate_left
  · intro wq hq
    first | (go_simp; done) | (go_simp; rfl)
  try simp only [Act.put, List.setIfInBounds_toArray, List.set_cons_zero, List.set_cons_succ]
  refine wpAnyH_take (i := 1) (oi := ⟨some 9, _, _, _, _, _⟩) (v := ?_) rfl (by kernel_rfl) (by kernel_rfl) (by kernel_rfl) (fun _ _ _ h => h) (Or.inl ⟨by rfl, ?_⟩) hS ?_
  rotate_left
  · intro wq hq
    have hc := hq.src.cK
    first | (go_simp; done) | (go_simp; rfl)
  try simp only [Act.put, List.setIfInBounds_toArray, List.set_cons_zero, List.set_cons_succ]
  refine wpAnyH_take (i := 2) (oi := ⟨some 10, _, _, _, _, _⟩) (v := ?_) rfl (by kernel_rfl) (by kernel_rfl) (by kernel_rfl) (fun _ _ _ h => h) (Or.inl ⟨by rfl, ?_⟩) hS ?_
  rotate_left
  · intro wq hq
    first | (go_simp; done) | (go_simp; rfl)
  try simp only [Act.put, List.setIfInBounds_toArray, List.set_cons_zero, List.set_cons_succ]
  refine wpAnyH_take (i := 4) (oi := ⟨some 12, _, _, _, _, _⟩) (v := ?_) rfl (by kernel_rfl) (by kernel_rfl) (by kernel_rfl) (fun _ _ _ h => h) (Or.inl ⟨by rfl, ?_⟩) hS ?_
  rotate_left
  · intro wq hq
    first | (go_simp; done) | (go_simp; rfl)
  try simp only [Act.put, List.setIfInBounds_toArray, List.set_cons_zero, List.set_cons_succ]
  refine wpAnyH_take (i := 5) (oi := ⟨some 13, _, _, _, _, _⟩) (v := ?_) rfl (by kernel_rfl) (by kernel_rfl) (by kernel_rfl) (fun _ _ _ h => h) (Or.inl ⟨by rfl, ?_⟩) hS ?_
  rotate_left
  · intro wq hq
    first | (go_simp; done) | (go_simp; rfl)
  try simp only [Act.put, List.setIfInBounds_toArray, List.set_cons_zero, List.set_cons_succ]
  generalize (w.alloc (.cells (rtc r).toArray 36)).drew = W1 at *
  refine wpAnyH_ready (rs := [3]) (by kernel_rfl) (by simp) ?_
  refine AllReadyH.cons (o := ⟨some 11, _, _, _, _, _⟩) rfl (fun K hK => ?_) AllReadyH.nil
  rw [if_pos (by rfl)]
  go_wp2
  have h1 := byt1_rd W1 (r.k % 256) (Int.emod_nonneg _ (by decide)) (Int.emod_lt_of_pos _ (by decide))
  have hS2 := hS.below (below_one W1 (.cells #[.int .u8 (r.k % 256)] 5))
  refine hK.out _ _ (hS2) (fun hS => ?_)
  clear hK K
  try simp only [Act.put, List.setIfInBounds_toArray, List.set_cons_zero, List.set_cons_succ]
  refine wpAnyH_ready (rs := [6]) (by kernel_rfl) (by simp) ?_
  refine AllReadyH.cons (o := ⟨some 14, _, _, _, _, _⟩) rfl (fun K hK => ?_) AllReadyH.nil
  rw [if_pos (by rfl)]
  go_wp2
  have HL : Hid (RdL ((W1.alloc (.cells #[.int .u8 (r.k % 256)] 5)).alloc (.cells #[.slice (some ⟨W1.heap.size, 0, none⟩) 1 1, .slice (some ⟨w.heap.size, 1, none⟩) 8 8] 22)) ((W1.alloc (.cells #[.int .u8 (r.k % 256)] 5)).alloc (.cells #[.slice (some ⟨W1.heap.size, 0, none⟩) 1 1, .slice (some ⟨w.heap.size, 1, none⟩) 8 8] 22)).heap.size (some ⟨W1.heap.size + 1, 0, none⟩) 2 [[r.k % 256], r.rd]) := Lib.hid (rdl_new_at (W := W1.alloc (.cells #[.int .u8 (r.k % 256)] 5)) (vs := [(some ⟨W1.heap.size, 0, none⟩, 1, 1), (some ⟨w.heap.size, 1, none⟩, 8, 8)]) (ls := [[r.k % 256], r.rd]) ⟨h1, hS2.src.sRd HR.out hS2.src.lt, trivial⟩ 22 _ rfl _ (by simp))
  have hS3 := hS2.below (below_one _ (.cells #[.slice (some ⟨W1.heap.size, 0, none⟩) 1 1, .slice (some ⟨w.heap.size, 1, none⟩) 8 8] 22))
  refine hK.out _ _ (hS3) (fun hS => ?_)
  clear hK K
  try simp only [Act.put, List.setIfInBounds_toArray, List.set_cons_zero, List.set_cons_succ]
  refine wpAnyH_ready (rs := [7]) (by kernel_rfl) (by simp) ?_
  refine AllReadyH.cons (o := ⟨some 15, _, _, _, _, _⟩) rfl (fun K hK => ?_) AllReadyH.nil
  rw [if_pos (by rfl)]
  go_wp2_with fail
  refine (concat_is _ _ 2 2 _ HL.out (by omega) (by simp [HR.out.rd])).mono ?_
  rintro e W2 ⟨v, rfl, hO, hB⟩
  have hS4 := hS3.below hB
  refine hK.out _ _ (hS4) (fun hS => ?_)
  clear hK K
  try simp only [Act.put, List.setIfInBounds_toArray, List.set_cons_zero, List.set_cons_succ]
  refine wpAnyH_take (i := 8) (oi := ⟨some 3, _, _, _, _, _⟩) (v := ?_) rfl (by kernel_rfl) (by kernel_rfl) (by kernel_rfl) (fun _ _ _ h => h) (Or.inl ⟨by rfl, ?_⟩) hS ?_
  rotate_left
  · intro wq hq
    first | (go_simp; done) | (go_simp; rfl)
  try simp only [Act.put, List.setIfInBounds_toArray, List.set_cons_zero, List.set_cons_succ]
  refine wpAnyH_done (by kernel_rfl) ?_ _
  have hfl : ([[r.k % 256], r.rd] : List (List Int)).flatten = [r.k % 256] ++ r.rd := by simp
  rw [hfl] at hO
  obtain ⟨A3, c3, hv, hc3, hR3, _⟩ := hO.at_
  have h9 : ([r.k % 256] ++ r.rd).length = 9 := by simp [HR.out.rd]
  rw [h9] at hv hR3 hc3
  subst hv
  have HB3 := Lib.hid (show KyB w W2.drew r A3 from (KyB.mk hS4 hR3).below (below_drew W2))
  clear hS hS2 hS3 hS4 hB hO hR3 h1 HL hfl h9 HA hs8
  go_wp2_with fail
  refine wp_region_held_drew (S := fun W => KyB w W r A3) (by kernel_rfl) (HB3.out) (fun hS => ?_)
  refine wpAnyH_take (i := 0) (oi := ⟨some 16, _, _, _, _, _⟩) (v := ?_) rfl (by kernel_rfl) (by kernel_rfl) (by kernel_rfl) (fun _ _ _ h => h) (Or.inl ⟨by rfl, ?_⟩) hS ?_
  rotate_left
  · intro wq hq
    first | (go_simp; done) | (go_simp; rfl)
  try simp only [Act.put, List.setIfInBounds_toArray, List.set_cons_zero, List.set_cons_succ]
  refine wpAnyH_take (i := 1) (oi := ⟨some 17, _, _, _, _, _⟩) (v := ?_) rfl (by kernel_rfl) (by kernel_rfl) (by kernel_rfl) (fun _ _ _ h => h) (Or.inl ⟨by rfl, ?_⟩) hS ?_
  rotate_left
  · intro wq hq
    first | (go_simp; done) | (go_simp; rfl)
  try simp only [Act.put, List.setIfInBounds_toArray, List.set_cons_zero, List.set_cons_succ]
  refine wpAnyH_take (i := 2) (oi := ⟨some 18, _, _, _, _, _⟩) (v := ?_) rfl (by kernel_rfl) (by kernel_rfl) (by kernel_rfl) (fun _ _ _ h => h) (Or.inl ⟨by rfl, ?_⟩) hS ?_
  rotate_left
  · intro wq hq
    first | (go_simp; done) | (go_simp; rfl)
  try simp only [Act.put, List.setIfInBounds_toArray, List.set_cons_zero, List.set_cons_succ]
  refine wpAnyH_take (i := 3) (oi := ⟨some 19, _, _, _, _, _⟩) (v := ?_) rfl (by kernel_rfl) (by kernel_rfl) (by kernel_rfl) (fun _ _ _ h => h) (Or.inl ⟨by rfl, ?_⟩) hS ?_
  rotate_left
  · intro wq hq
    have hc := hq.src.cTg HR.out
    first | (go_simp; done) | (go_simp; rfl)
  try simp only [Act.put, List.setIfInBounds_toArray, List.set_cons_zero, List.set_cons_succ]
  refine wpAnyH_ready (rs := [4]) (by kernel_rfl) (by simp) ?_
  refine AllReadyH.cons (o := ⟨some 20, _, _, _, _, _⟩) rfl (fun K hK => ?_) AllReadyH.nil
  rw [if_pos (by rfl)]
  go_wp2_with fail
  refine (HN4.out _).mono ?_
  rintro e W3 ⟨A5, c5, rfl, hr5, hB5⟩
  have hS5 := hS.below hB5
  refine hK.out _ _ (hS5) (fun hS => ?_)
  clear hK K
  try simp only [Act.put, List.setIfInBounds_toArray, List.set_cons_zero, List.set_cons_succ]
  refine wpAnyH_take (i := 5) (oi := ⟨some 4, _, _, _, _, _⟩) (v := ?_) rfl (by kernel_rfl) (by kernel_rfl) (by kernel_rfl) (fun _ _ _ h => h) (Or.inl ⟨by rfl, ?_⟩) hS ?_
  rotate_left
  · intro wq hq
    first | (go_simp; done) | (go_simp; rfl)
  try simp only [Act.put, List.setIfInBounds_toArray, List.set_cons_zero, List.set_cons_succ]
  refine wpAnyH_take (i := 6) (oi := ⟨some 5, _, _, _, _, _⟩) (v := ?_) rfl (by kernel_rfl) (by kernel_rfl) (by kernel_rfl) (fun _ _ _ h => h) (Or.inl ⟨by rfl, ?_⟩) hS ?_
  rotate_left
  · intro wq hq
    first | (go_simp; done) | (go_simp; rfl)
  try simp only [Act.put, List.setIfInBounds_toArray, List.set_cons_zero, List.set_cons_succ]
  refine wpAnyH_done (by kernel_rfl) ?_ _
  have HC := Lib.hid (show KyC w W3.drew r A3 A5 from (KyC.mk hS5 hr5).below (below_drew W3))
  clear hS hS5 hB5 hr5 HB3 hs10
  go_wp2_with fail
  refine wp_region_held_drew (S := fun W => KyC w W r A3 A5) (by kernel_rfl) (HC.out) (fun hS => ?_)
  refine wpAnyH_take (i := 0) (oi := ⟨some 21, _, _, _, _, _⟩) (v := ?_) rfl (by kernel_rfl) (by kernel_rfl) (by kernel_rfl) (fun _ _ _ h => h) (Or.inl ⟨by rfl, ?_⟩) hS ?_
  rotate_left
  · intro wq hq
    first | (go_simp; done) | (go_simp; rfl)
  try simp only [Act.put, List.setIfInBounds_toArray, List.set_cons_zero, List.set_cons_succ]
  refine wpAnyH_take (i := 1) (oi := ⟨some 22, _, _, _, _, _⟩) (v := ?_) rfl (by kernel_rfl) (by kernel_rfl) (by kernel_rfl) (fun _ _ _ h => h) (Or.inl ⟨by rfl, ?_⟩) hS ?_
  rotate_left
  · intro wq hq
    first | (go_simp; done) | (go_simp; rfl)
  try simp only [Act.put, List.setIfInBounds_toArray, List.set_cons_zero, List.set_cons_succ]
  refine wpAnyH_take (i := 2) (oi := ⟨some 23, _, _, _, _, _⟩) (v := ?_) rfl (by kernel_rfl) (by kernel_rfl) (by kernel_rfl) (fun _ _ _ h => h) (Or.inl ⟨by rfl, ?_⟩) hS ?_
  rotate_left
  · intro wq hq
    have hc := hq.src.cPn HR.out
    first | (go_simp; done) | (go_simp; rfl)
  try simp only [Act.put, List.setIfInBounds_toArray, List.set_cons_zero, List.set_cons_succ]
  refine wpAnyH_take (i := 3) (oi := ⟨some 24, _, _, _, _, _⟩) (v := ?_) rfl (by kernel_rfl) (by kernel_rfl) (by kernel_rfl) (fun _ _ _ h => h) (Or.inl ⟨by rfl, ?_⟩) hS ?_
  rotate_left
  · intro wq hq
    first | (go_simp; done) | (go_simp; rfl)
  try simp only [Act.put, List.setIfInBounds_toArray, List.set_cons_zero, List.set_cons_succ]
  refine wpAnyH_take (i := 5) (oi := ⟨some 26, _, _, _, _, _⟩) (v := ?_) rfl (by kernel_rfl) (by kernel_rfl) (by kernel_rfl) (fun _ _ _ h => h) (Or.inl ⟨by rfl, ?_⟩) hS ?_
  rotate_left
  · intro wq hq
    first | (go_simp; done) | (go_simp; rfl)
  try simp only [Act.put, List.setIfInBounds_toArray, List.set_cons_zero, List.set_cons_succ]
  refine wpAnyH_take (i := 6) (oi := ⟨some 27, _, _, _, _, _⟩) (v := ?_) rfl (by kernel_rfl) (by kernel_rfl) (by kernel_rfl) (fun _ _ _ h => h) (Or.inl ⟨by rfl, ?_⟩) hS ?_
  rotate_left
  · intro wq hq
    first | (go_simp; done) | (go_simp; rfl)
  try simp only [Act.put, List.setIfInBounds_toArray, List.set_cons_zero, List.set_cons_succ]
  refine wpAnyH_take (i := 7) (oi := ⟨some 28, _, _, _, _, _⟩) (v := ?_) rfl (by kernel_rfl) (by kernel_rfl) (by kernel_rfl) (fun _ _ _ h => h) (Or.inl ⟨by rfl, ?_⟩) hS ?_
  rotate_left
  · intro wq hq
    first | (go_simp; done) | (go_simp; rfl)
  try simp only [Act.put, List.setIfInBounds_toArray, List.set_cons_zero, List.set_cons_succ]
  refine wpAnyH_take (i := 8) (oi := ⟨some 29, _, _, _, _, _⟩) (v := ?_) rfl (by kernel_rfl) (by kernel_rfl) (by kernel_rfl) (fun _ _ _ h => h) (Or.inl ⟨by rfl, ?_⟩) hS ?_
  rotate_left
  · intro wq hq
    first | (go_simp; done) | (go_simp; rfl)
  try simp only [Act.put, List.setIfInBounds_toArray, List.set_cons_zero, List.set_cons_succ]
  generalize hWd : W3.drew = W4 at *
  refine wpAnyH_ready (rs := [4]) (by kernel_rfl) (by simp) ?_
  refine AllReadyH.cons (o := ⟨some 25, _, _, _, _, _⟩) rfl (fun K hK => ?_) AllReadyH.nil
  rw [if_pos (by rfl)]
  go_wp2
  have h1 := byt1_rd W4 (r.pn % 256) (Int.emod_nonneg _ (by decide)) (Int.emod_lt_of_pos _ (by decide))
  have hS6 := hS.below (below_one W4 (.cells #[.int .u8 (r.pn % 256)] 5))
  refine hK.out _ _ (hS6) (fun hS => ?_)
  clear hK K
  try simp only [Act.put, List.setIfInBounds_toArray, List.set_cons_zero, List.set_cons_succ]
  refine wpAnyH_take (i := 9) (oi := ⟨some 6, _, _, _, _, _⟩) (v := ?_) rfl (by kernel_rfl) (by kernel_rfl) (by kernel_rfl) (fun _ _ _ h => h) (Or.inl ⟨by rfl, ?_⟩) hS ?_
  rotate_left
  · intro wq hq
    first | (go_simp; done) | (go_simp; rfl)
  try simp only [Act.put, List.setIfInBounds_toArray, List.set_cons_zero, List.set_cons_succ]
  refine wpAnyH_take (i := 10) (oi := ⟨some 7, _, _, _, _, _⟩) (v := ?_) rfl (by kernel_rfl) (by kernel_rfl) (by kernel_rfl) (fun _ _ _ h => h) (Or.inl ⟨by rfl, ?_⟩) hS ?_
  rotate_left
  · intro wq hq
    first | (go_simp; done) | (go_simp; rfl)
  try simp only [Act.put, List.setIfInBounds_toArray, List.set_cons_zero, List.set_cons_succ]
  refine wpAnyH_done (by kernel_rfl) ?_ _
  obtain ⟨A6, c6, hA6⟩ : ∃ A6 c6, Value.slice (some ⟨W4.heap.size, 0, none⟩) 1 1 = .slice A6 1 c6 ∧ A6 = some ⟨W4.heap.size, 0, none⟩ := ⟨_, _, rfl, rfl⟩
  have HD0 := Lib.hid (show KyD w (W4.alloc (.cells #[.int .u8 (r.pn % 256)] 5)) r A3 A5 A6 from ⟨hS6, by rw [hA6.2]; exact h1⟩)
  have hA6' := hA6.1
  clear hS hS6 h1 HC hA6 hs16 hWd
  try rw [hA6']
  clear hA6'
  have HD := HD0
  generalize W4.alloc (.cells #[.int .u8 (r.pn % 256)] 5) = W5 at *
  have cK := HD.out.src.cK
  go_wp2_with (first | (refine part_fetch rfl 32 _ rfl w.heap.size 26 (ipc r.v6 r.pl) _ rfl (HD.out.src.rIp HR.out) Try.underlying32 rfl (sz_ip HR.out) ?_) | fail)
  refine (HFa.out _).mono ?_
  rintro e W6 ⟨A8, c8, rfl, hr8, hB8⟩
  have HD := Lib.hid (HD.out.below hB8)
  have HG8 := Lib.hid hr8
  clear hr8 hB8 HD0 cK
  have HL : Hid (RdL (W6.alloc (.cells #[.slice A3 9 c3, .slice A5 4 c5, .slice A6 1 c6, .slice A8 1 c8, .slice (some ⟨w.heap.size, 27, none⟩) 16 16] 22)) (W6.alloc (.cells #[.slice A3 9 c3, .slice A5 4 c5, .slice A6 1 c6, .slice A8 1 c8, .slice (some ⟨w.heap.size, 27, none⟩) 16 16] 22)).heap.size (some ⟨W6.heap.size, 0, none⟩) 5 [([r.k % 256] ++ r.rd), be 4 r.tg, [r.pn % 256], [if r.v6 then 1 else 0], r.pl]) := Lib.hid (rdl_new_at (W := W6) (vs := [(A3, 9, c3), (A5, 4, c5), (A6, 1, c6), (A8, 1, c8), (some ⟨w.heap.size, 27, none⟩, 16, 16)]) (ls := [([r.k % 256] ++ r.rd), be 4 r.tg, [r.pn % 256], [if r.v6 then 1 else 0], r.pl]) ⟨HD.out.r3, HD.out.r5, HD.out.r6, HG8.out, HD.out.src.sPl HR.out HD.out.src.lt, trivial⟩ 22 _ rfl _ rfl)
  have HLow := Lib.hid HD.out.low
  clear HD
  go_wp2_with fail
  refine (concat_is _ _ 5 5 _ HL.out (by omega) (by rw [HF.out]; exact HLen.out)).mono ?_
  rintro e W9 ⟨v, rfl, hO, hB9⟩
  have HEnd := Lib.hid (show OwnB w.heap.size W9 v (keyR r) ∧ Below w.heap.size w W9 from ⟨by rw [← HF.out]; exact hO.low (by have := HLow.out.size; simp; omega), (HLow.out.trans ((below_one W6 _).mono HLow.out.size)).trans (hB9.mono (by have := HLow.out.size; simp; omega))⟩)
  clear hO hB9
  go_wp2
  go_ret
  exact ⟨v, rfl, HEnd.out.1, HEnd.out.2⟩
end Go.Proofs.Ytickcfcncpnaiaa
namespace Go.Proofs.Ytickcfcncpnaiaa
open Go.RowKit
set_option maxRecDepth 100000
set_option linter.unusedSimpArgs false
set_option linter.unusedVariables false

set_option maxHeartbeats 4000000 in
set_option maxRecDepth 100000 in
theorem key_o (w : World) (r : Rt) (hr : RtOk r) (hk : ¬ (1 ≤ r.k ∧ r.k ≤ 5)) : Calls Try.prog 47 #[.agg (rtc r).toArray] w (KeyPost w r) := by
  have HR := Lib.hid hr
  have HA := Lib.hid (show KyA w ((w.alloc (.cells (rtc r).toArray 36)).drew) r from ⟨(RtAt.new w r hr 36).keep rfl, below_drewN ((Below.refl w.heap.size w).alloc (Nat.le_refl _) _) 1⟩)
  have HN4 : Hid (∀ W, Calls Try.prog 49 #[.int .u32 r.tg, .int .i64 4] W fun e W' => ∃ A c, e = .returned (.slice A 4 c) ∧ Rd W' W'.heap.size A 4 (be 4 r.tg) ∧ Below W.heap.size W W') := Lib.hid (fun W => (numb_is W r.tg 4 hr.tg (by omega) (by omega) (be4_fit hr.tg)).mono (by
    rintro e W' ⟨A, c, rfl, _, h2, h3⟩
    exact ⟨A, c, rfl, h2, h3⟩))
  have hs8 : ∀ W, (Instr.sliceAt 24 (.pointer (some ⟨w.heap.size, 1, none⟩)) none none none).run Try.prog W = .ok (.slice (some ⟨w.heap.size, 1, none⟩) 8 8) W := fun W => by go_simp
  have hs10 : ∀ W, (Instr.sliceAt 26 (.pointer (some ⟨w.heap.size, 9, none⟩)) none none none).run Try.prog W = .ok (.slice (some ⟨w.heap.size, 9, none⟩) 10 10) W := fun W => by go_simp
  have hs6 : ∀ W, (Instr.sliceAt 29 (.pointer (some ⟨w.heap.size, 20, none⟩)) none none none).run Try.prog W = .ok (.slice (some ⟨w.heap.size, 20, none⟩) 6 6) W := fun W => by go_simp
  have hs16 : ∀ W, (Instr.sliceAt 30 (.pointer (some ⟨w.heap.size, 27, none⟩)) none none none).run Try.prog W = .ok (.slice (some ⟨w.heap.size, 27, none⟩) 16 16) W := fun W => by go_simp
  have HF : Hid ([r.k % 256] ++ r.rd = keyR r) := Lib.hid (by unfold keyR; rw [if_neg (by omega)]; rw [if_neg (by omega)]; rw [if_neg (by omega)]; rw [if_neg (by omega)]; rw [if_neg (by omega)]; simp)
  have e1 : (r.k == 1) = false := by rw [beq_eq_false_iff_ne]; omega
  have e2 : (r.k == 2) = false := by rw [beq_eq_false_iff_ne]; omega
  have e3 : (r.k == 3) = false := by rw [beq_eq_false_iff_ne]; omega
  have e4 : (r.k == 4) = false := by rw [beq_eq_false_iff_ne]; omega
  have e5 : (r.k == 5) = false := by rw [beq_eq_false_iff_ne]; omega
  clear hr hk
  go_enter Try.func47, Try.ntmps47
  go_wp2
  refine wp_region_held_drew (S := fun W => KyA w W r) (by kernel_rfl) (HA.out) (fun hS => ?_)
  refine wpAnyH_take (i := 0) (oi := ⟨some 8, _, _, _, _, _⟩) (v := ?_) rfl (by kernel_rfl) (by kernel_rfl) (by kernel_rfl) (fun _ _ _ h => h) (Or.inl ⟨by rfl, ?_⟩) hS ?_
  rotate_left
  · intro wq hq
    first | (go_simp; done) | (go_simp; rfl)
  try simp only [Act.put, List.setIfInBounds_toArray, List.set_cons_zero, List.set_cons_succ]
  refine wpAnyH_take (i := 1) (oi := ⟨some 9, _, _, _, _, _⟩) (v := ?_) rfl (by kernel_rfl) (by kernel_rfl) (by kernel_rfl) (fun _ _ _ h => h) (Or.inl ⟨by rfl, ?_⟩) hS ?_
  rotate_left
  · intro wq hq
    have hc := hq.src.cK
    first | (go_simp; done) | (go_simp; rfl)
  try simp only [Act.put, List.setIfInBounds_toArray, List.set_cons_zero, List.set_cons_succ]
  refine wpAnyH_take (i := 2) (oi := ⟨some 10, _, _, _, _, _⟩) (v := ?_) rfl (by kernel_rfl) (by kernel_rfl) (by kernel_rfl) (fun _ _ _ h => h) (Or.inl ⟨by rfl, ?_⟩) hS ?_
  rotate_left
  · intro wq hq
    first | (go_simp; done) | (go_simp; rfl)
  try simp only [Act.put, List.setIfInBounds_toArray, List.set_cons_zero, List.set_cons_succ]
  refine wpAnyH_take (i := 4) (oi := ⟨some 12, _, _, _, _, _⟩) (v := ?_) rfl (by kernel_rfl) (by kernel_rfl) (by kernel_rfl) (fun _ _ _ h => h) (Or.inl ⟨by rfl, ?_⟩) hS ?_
  rotate_left
  · intro wq hq
    first | (go_simp; done) | (go_simp; rfl)
  try simp only [Act.put, List.setIfInBounds_toArray, List.set_cons_zero, List.set_cons_succ]
  refine wpAnyH_take (i := 5) (oi := ⟨some 13, _, _, _, _, _⟩) (v := ?_) rfl (by kernel_rfl) (by kernel_rfl) (by kernel_rfl) (fun _ _ _ h => h) (Or.inl ⟨by rfl, ?_⟩) hS ?_
  rotate_left
  · intro wq hq
    first | (go_simp; done) | (go_simp; rfl)
  try simp only [Act.put, List.setIfInBounds_toArray, List.set_cons_zero, List.set_cons_succ]
  generalize (w.alloc (.cells (rtc r).toArray 36)).drew = W1 at *
  refine wpAnyH_ready (rs := [3]) (by kernel_rfl) (by simp) ?_
  refine AllReadyH.cons (o := ⟨some 11, _, _, _, _, _⟩) rfl (fun K hK => ?_) AllReadyH.nil
  rw [if_pos (by rfl)]
  go_wp2
  have h1 := byt1_rd W1 (r.k % 256) (Int.emod_nonneg _ (by decide)) (Int.emod_lt_of_pos _ (by decide))
  have hS2 := hS.below (below_one W1 (.cells #[.int .u8 (r.k % 256)] 5))
  refine hK.out _ _ (hS2) (fun hS => ?_)
  clear hK K
  try simp only [Act.put, List.setIfInBounds_toArray, List.set_cons_zero, List.set_cons_succ]
  refine wpAnyH_ready (rs := [6]) (by kernel_rfl) (by simp) ?_
  refine AllReadyH.cons (o := ⟨some 14, _, _, _, _, _⟩) rfl (fun K hK => ?_) AllReadyH.nil
  rw [if_pos (by rfl)]
  go_wp2
  have HL : Hid (RdL ((W1.alloc (.cells #[.int .u8 (r.k % 256)] 5)).alloc (.cells #[.slice (some ⟨W1.heap.size, 0, none⟩) 1 1, .slice (some ⟨w.heap.size, 1, none⟩) 8 8] 22)) ((W1.alloc (.cells #[.int .u8 (r.k % 256)] 5)).alloc (.cells #[.slice (some ⟨W1.heap.size, 0, none⟩) 1 1, .slice (some ⟨w.heap.size, 1, none⟩) 8 8] 22)).heap.size (some ⟨W1.heap.size + 1, 0, none⟩) 2 [[r.k % 256], r.rd]) := Lib.hid (rdl_new_at (W := W1.alloc (.cells #[.int .u8 (r.k % 256)] 5)) (vs := [(some ⟨W1.heap.size, 0, none⟩, 1, 1), (some ⟨w.heap.size, 1, none⟩, 8, 8)]) (ls := [[r.k % 256], r.rd]) ⟨h1, hS2.src.sRd HR.out hS2.src.lt, trivial⟩ 22 _ rfl _ (by simp))
  have hS3 := hS2.below (below_one _ (.cells #[.slice (some ⟨W1.heap.size, 0, none⟩) 1 1, .slice (some ⟨w.heap.size, 1, none⟩) 8 8] 22))
  refine hK.out _ _ (hS3) (fun hS => ?_)
  clear hK K
  try simp only [Act.put, List.setIfInBounds_toArray, List.set_cons_zero, List.set_cons_succ]
  refine wpAnyH_ready (rs := [7]) (by kernel_rfl) (by simp) ?_
  refine AllReadyH.cons (o := ⟨some 15, _, _, _, _, _⟩) rfl (fun K hK => ?_) AllReadyH.nil
  rw [if_pos (by rfl)]
  go_wp2_with fail
  refine (concat_is _ _ 2 2 _ HL.out (by omega) (by simp [HR.out.rd])).mono ?_
  rintro e W2 ⟨v, rfl, hO, hB⟩
  have hS4 := hS3.below hB
  refine hK.out _ _ (hS4) (fun hS => ?_)
  clear hK K
  try simp only [Act.put, List.setIfInBounds_toArray, List.set_cons_zero, List.set_cons_succ]
  refine wpAnyH_take (i := 8) (oi := ⟨some 3, _, _, _, _, _⟩) (v := ?_) rfl (by kernel_rfl) (by kernel_rfl) (by kernel_rfl) (fun _ _ _ h => h) (Or.inl ⟨by rfl, ?_⟩) hS ?_
  rotate_left
  · intro wq hq
    first | (go_simp; done) | (go_simp; rfl)
  try simp only [Act.put, List.setIfInBounds_toArray, List.set_cons_zero, List.set_cons_succ]
  refine wpAnyH_done (by kernel_rfl) ?_ _
  have hfl : ([[r.k % 256], r.rd] : List (List Int)).flatten = [r.k % 256] ++ r.rd := by simp
  rw [hfl] at hO
  obtain ⟨A3, c3, hv, hc3, hR3, _⟩ := hO.at_
  have h9 : ([r.k % 256] ++ r.rd).length = 9 := by simp [HR.out.rd]
  rw [h9] at hv hR3 hc3
  subst hv
  have HOwn := Lib.hid (hO.low (lo' := w.heap.size) (by have := hS3.low.size; omega))
  have HB3 := Lib.hid (show KyB w W2.drew r A3 from (KyB.mk hS4 hR3).below (below_drew W2))
  clear hS hS2 hS3 hS4 hB hO hR3 h1 HL hfl h9 HA hs8
  go_wp2_with fail
  refine wp_region_held_drew (S := fun W => KyB w W r A3) (by kernel_rfl) (HB3.out) (fun hS => ?_)
  refine wpAnyH_take (i := 0) (oi := ⟨some 16, _, _, _, _, _⟩) (v := ?_) rfl (by kernel_rfl) (by kernel_rfl) (by kernel_rfl) (fun _ _ _ h => h) (Or.inl ⟨by rfl, ?_⟩) hS ?_
  rotate_left
  · intro wq hq
    first | (go_simp; done) | (go_simp; rfl)
  try simp only [Act.put, List.setIfInBounds_toArray, List.set_cons_zero, List.set_cons_succ]
  refine wpAnyH_take (i := 1) (oi := ⟨some 17, _, _, _, _, _⟩) (v := ?_) rfl (by kernel_rfl) (by kernel_rfl) (by kernel_rfl) (fun _ _ _ h => h) (Or.inl ⟨by rfl, ?_⟩) hS ?_
  rotate_left
  · intro wq hq
    first | (go_simp; done) | (go_simp; rfl)
  try simp only [Act.put, List.setIfInBounds_toArray, List.set_cons_zero, List.set_cons_succ]
  refine wpAnyH_take (i := 2) (oi := ⟨some 18, _, _, _, _, _⟩) (v := ?_) rfl (by kernel_rfl) (by kernel_rfl) (by kernel_rfl) (fun _ _ _ h => h) (Or.inl ⟨by rfl, ?_⟩) hS ?_
  rotate_left
  · intro wq hq
    first | (go_simp; done) | (go_simp; rfl)
  try simp only [Act.put, List.setIfInBounds_toArray, List.set_cons_zero, List.set_cons_succ]
  refine wpAnyH_take (i := 3) (oi := ⟨some 19, _, _, _, _, _⟩) (v := ?_) rfl (by kernel_rfl) (by kernel_rfl) (by kernel_rfl) (fun _ _ _ h => h) (Or.inl ⟨by rfl, ?_⟩) hS ?_
  rotate_left
  · intro wq hq
    have hc := hq.src.cTg HR.out
    first | (go_simp; done) | (go_simp; rfl)
  try simp only [Act.put, List.setIfInBounds_toArray, List.set_cons_zero, List.set_cons_succ]
  refine wpAnyH_ready (rs := [4]) (by kernel_rfl) (by simp) ?_
  refine AllReadyH.cons (o := ⟨some 20, _, _, _, _, _⟩) rfl (fun K hK => ?_) AllReadyH.nil
  rw [if_pos (by rfl)]
  go_wp2_with fail
  refine (HN4.out _).mono ?_
  rintro e W3 ⟨A5, c5, rfl, hr5, hB5⟩
  have hS5 := hS.below hB5
  refine hK.out _ _ (hS5) (fun hS => ?_)
  clear hK K
  try simp only [Act.put, List.setIfInBounds_toArray, List.set_cons_zero, List.set_cons_succ]
  refine wpAnyH_take (i := 5) (oi := ⟨some 4, _, _, _, _, _⟩) (v := ?_) rfl (by kernel_rfl) (by kernel_rfl) (by kernel_rfl) (fun _ _ _ h => h) (Or.inl ⟨by rfl, ?_⟩) hS ?_
  rotate_left
  · intro wq hq
    first | (go_simp; done) | (go_simp; rfl)
  try simp only [Act.put, List.setIfInBounds_toArray, List.set_cons_zero, List.set_cons_succ]
  refine wpAnyH_take (i := 6) (oi := ⟨some 5, _, _, _, _, _⟩) (v := ?_) rfl (by kernel_rfl) (by kernel_rfl) (by kernel_rfl) (fun _ _ _ h => h) (Or.inl ⟨by rfl, ?_⟩) hS ?_
  rotate_left
  · intro wq hq
    first | (go_simp; done) | (go_simp; rfl)
  try simp only [Act.put, List.setIfInBounds_toArray, List.set_cons_zero, List.set_cons_succ]
  refine wpAnyH_done (by kernel_rfl) ?_ _
  have HC := Lib.hid (show KyC w W3.drew r A3 A5 from (KyC.mk hS5 hr5).below (below_drew W3))
  have HOwn := Lib.hid (show OwnB w.heap.size W3 _ _ from ⟨own_keep HOwn.out.own fun i c hi _ _ => hB5.block i (Array.getElem?_eq_some_iff.1 hi).1, HOwn.out.oct⟩)
  clear hS hS5 hB5 hr5 HB3 hs10
  go_wp2_with fail
  refine wp_region_held_drew (S := fun W => KyC w W r A3 A5) (by kernel_rfl) (HC.out) (fun hS => ?_)
  refine wpAnyH_take (i := 0) (oi := ⟨some 21, _, _, _, _, _⟩) (v := ?_) rfl (by kernel_rfl) (by kernel_rfl) (by kernel_rfl) (fun _ _ _ h => h) (Or.inl ⟨by rfl, ?_⟩) hS ?_
  rotate_left
  · intro wq hq
    first | (go_simp; done) | (go_simp; rfl)
  try simp only [Act.put, List.setIfInBounds_toArray, List.set_cons_zero, List.set_cons_succ]
  refine wpAnyH_take (i := 1) (oi := ⟨some 22, _, _, _, _, _⟩) (v := ?_) rfl (by kernel_rfl) (by kernel_rfl) (by kernel_rfl) (fun _ _ _ h => h) (Or.inl ⟨by rfl, ?_⟩) hS ?_
  rotate_left
  · intro wq hq
    first | (go_simp; done) | (go_simp; rfl)
  try simp only [Act.put, List.setIfInBounds_toArray, List.set_cons_zero, List.set_cons_succ]
  refine wpAnyH_take (i := 2) (oi := ⟨some 23, _, _, _, _, _⟩) (v := ?_) rfl (by kernel_rfl) (by kernel_rfl) (by kernel_rfl) (fun _ _ _ h => h) (Or.inl ⟨by rfl, ?_⟩) hS ?_
  rotate_left
  · intro wq hq
    have hc := hq.src.cPn HR.out
    first | (go_simp; done) | (go_simp; rfl)
  try simp only [Act.put, List.setIfInBounds_toArray, List.set_cons_zero, List.set_cons_succ]
  refine wpAnyH_take (i := 3) (oi := ⟨some 24, _, _, _, _, _⟩) (v := ?_) rfl (by kernel_rfl) (by kernel_rfl) (by kernel_rfl) (fun _ _ _ h => h) (Or.inl ⟨by rfl, ?_⟩) hS ?_
  rotate_left
  · intro wq hq
    first | (go_simp; done) | (go_simp; rfl)
  try simp only [Act.put, List.setIfInBounds_toArray, List.set_cons_zero, List.set_cons_succ]
  refine wpAnyH_take (i := 5) (oi := ⟨some 26, _, _, _, _, _⟩) (v := ?_) rfl (by kernel_rfl) (by kernel_rfl) (by kernel_rfl) (fun _ _ _ h => h) (Or.inl ⟨by rfl, ?_⟩) hS ?_
  rotate_left
  · intro wq hq
    first | (go_simp; done) | (go_simp; rfl)
  try simp only [Act.put, List.setIfInBounds_toArray, List.set_cons_zero, List.set_cons_succ]
  refine wpAnyH_take (i := 6) (oi := ⟨some 27, _, _, _, _, _⟩) (v := ?_) rfl (by kernel_rfl) (by kernel_rfl) (by kernel_rfl) (fun _ _ _ h => h) (Or.inl ⟨by rfl, ?_⟩) hS ?_
  rotate_left
  · intro wq hq
    first | (go_simp; done) | (go_simp; rfl)
  try simp only [Act.put, List.setIfInBounds_toArray, List.set_cons_zero, List.set_cons_succ]
  refine wpAnyH_take (i := 7) (oi := ⟨some 28, _, _, _, _, _⟩) (v := ?_) rfl (by kernel_rfl) (by kernel_rfl) (by kernel_rfl) (fun _ _ _ h => h) (Or.inl ⟨by rfl, ?_⟩) hS ?_
  rotate_left
  · intro wq hq
    first | (go_simp; done) | (go_simp; rfl)
  try simp only [Act.put, List.setIfInBounds_toArray, List.set_cons_zero, List.set_cons_succ]
  refine wpAnyH_take (i := 8) (oi := ⟨some 29, _, _, _, _, _⟩) (v := ?_) rfl (by kernel_rfl) (by kernel_rfl) (by kernel_rfl) (fun _ _ _ h => h) (Or.inl ⟨by rfl, ?_⟩) hS ?_
  rotate_left
  · intro wq hq
    first | (go_simp; done) | (go_simp; rfl)
  try simp only [Act.put, List.setIfInBounds_toArray, List.set_cons_zero, List.set_cons_succ]
  generalize hWd : W3.drew = W4 at *
  refine wpAnyH_ready (rs := [4]) (by kernel_rfl) (by simp) ?_
  refine AllReadyH.cons (o := ⟨some 25, _, _, _, _, _⟩) rfl (fun K hK => ?_) AllReadyH.nil
  rw [if_pos (by rfl)]
  go_wp2
  have h1 := byt1_rd W4 (r.pn % 256) (Int.emod_nonneg _ (by decide)) (Int.emod_lt_of_pos _ (by decide))
  have hS6 := hS.below (below_one W4 (.cells #[.int .u8 (r.pn % 256)] 5))
  refine hK.out _ _ (hS6) (fun hS => ?_)
  clear hK K
  try simp only [Act.put, List.setIfInBounds_toArray, List.set_cons_zero, List.set_cons_succ]
  refine wpAnyH_take (i := 9) (oi := ⟨some 6, _, _, _, _, _⟩) (v := ?_) rfl (by kernel_rfl) (by kernel_rfl) (by kernel_rfl) (fun _ _ _ h => h) (Or.inl ⟨by rfl, ?_⟩) hS ?_
  rotate_left
  · intro wq hq
    first | (go_simp; done) | (go_simp; rfl)
  try simp only [Act.put, List.setIfInBounds_toArray, List.set_cons_zero, List.set_cons_succ]
  refine wpAnyH_take (i := 10) (oi := ⟨some 7, _, _, _, _, _⟩) (v := ?_) rfl (by kernel_rfl) (by kernel_rfl) (by kernel_rfl) (fun _ _ _ h => h) (Or.inl ⟨by rfl, ?_⟩) hS ?_
  rotate_left
  · intro wq hq
    first | (go_simp; done) | (go_simp; rfl)
  try simp only [Act.put, List.setIfInBounds_toArray, List.set_cons_zero, List.set_cons_succ]
  refine wpAnyH_done (by kernel_rfl) ?_ _
  obtain ⟨A6, c6, hA6⟩ : ∃ A6 c6, Value.slice (some ⟨W4.heap.size, 0, none⟩) 1 1 = .slice A6 1 c6 ∧ A6 = some ⟨W4.heap.size, 0, none⟩ := ⟨_, _, rfl, rfl⟩
  have HD0 := Lib.hid (show KyD w (W4.alloc (.cells #[.int .u8 (r.pn % 256)] 5)) r A3 A5 A6 from ⟨hS6, by rw [hA6.2]; exact h1⟩)
  have HOwn := Lib.hid (show OwnB w.heap.size (W4.alloc (.cells #[.int .u8 (r.pn % 256)] 5)) _ _ from ⟨own_keep HOwn.out.own fun i c hi _ _ => by rw [← hWd]; exact (below_one W3.drew (.cells #[.int .u8 (r.pn % 256)] 5)).block i (Array.getElem?_eq_some_iff.1 hi).1, HOwn.out.oct⟩)
  have hA6' := hA6.1
  clear hS hS6 h1 HC hA6 hs16 hWd
  try rw [hA6']
  clear hA6'
  have HD := HD0
  generalize W4.alloc (.cells #[.int .u8 (r.pn % 256)] 5) = W5 at *
  have cK := HD.out.src.cK
  go_wp2
  go_ret
  exact ⟨_, rfl, by rw [← HF.out]; exact HOwn.out, HD.out.low⟩
end Go.Proofs.Ytickcfcncpnaiaa
namespace Go.Proofs.Ytickcfcncpnaiaa
open Go.RowKit
set_option maxRecDepth 100000
set_option linter.unusedSimpArgs false
set_option linter.unusedVariables false

theorem keyOf_is (w : World) (r : Rt) (hr : RtOk r) : Calls Try.prog 47 #[.agg (rtc r).toArray] w (KeyPost w r) := by
  by_cases h1 : r.k = 1
  · exact key_1 w r hr h1
  by_cases h2 : r.k = 2
  · exact key_2 w r hr h2
  by_cases h3 : r.k = 3
  · exact key_3 w r hr h3
  by_cases h4 : r.k = 4
  · exact key_4 w r hr h4
  by_cases h5 : r.k = 5
  · exact key_5 w r hr h5
  exact key_o w r hr (by omega)
theorem keyR_le {r : Rt} (hr : RtOk r) : (keyR r).length ≤ 100 := by
  unfold keyR
  repeat' split
  all_goals (simp [be_len, hr.rd, hr.es, hr.mc, hr.pl])
set_option maxHeartbeats 400000 in
theorem keyt_is (w : World) (r : Rt) (hr : RtOk r) : Calls Try.prog 18 #[.agg (rtc r).toArray] w fun e w' => e = .returned (.string (strOfNums (hexS (keyR r)))) ∧ Below w.heap.size w w' := by
  have HR := Lib.hid hr
  have H1 := Lib.hid (RtAt.new w r hr 36)
  have HB1 := Lib.hid (below_one w (.cells (rtc r).toArray 36))
  have hle := keyR_le hr
  clear hr
  go_enter Try.func18, Try.ntmps18
  go_wp2_with (first | (refine rt_fetch rfl _ rfl w.heap.size r HR.out rfl H1.out ?_) | fail)
  refine (keyOf_is _ r HR.out).mono ?_
  rintro e w2 ⟨v, rfl, hO, hB⟩
  obtain ⟨A, c, rfl, hc, hRd, _⟩ := hO.at_
  have HRd := Lib.hid hRd
  have HB2 := Lib.hid (HB1.out.trans (hB.mono HB1.out.size))
  clear hO hB hRd
  go_wp2_with fail
  refine (hext_is _ A _ c (keyR r) HRd.out (by omega)).mono ?_
  rintro e w3 ⟨rfl, hB3⟩
  have HB3 := Lib.hid (HB2.out.trans (hB3.mono HB2.out.size))
  clear hB3
  go_wp2
  go_ret
  exact ⟨rfl, HB3.out⟩
end Go.Proofs.Ytickcfcncpnaiaa
