/-
  AddrRds: the walk.
-/
import Derived.Test.YtfapmedlnaikiaaDoorRdsB
import Derived.Test.YtfapmedlnaikiaaDoorRefG
import Derived.Test.YtfapmedlnaikiaaDoorAdV
namespace Go.Proofs.YtfapmedlnaikiaaDoor
open Go.RowKit
set_option linter.unusedSimpArgs false
set_option linter.unusedVariables false

theorem oct8 : Oct (List.replicate 8 0) := fun x hx => by have := (List.mem_replicate.1 hx).2; omega
theorem rdRd_bd {s : ByteArray} {l : List Int} (h : rdRd s = some l) : l.length = 8 ∧ Oct l := by
  unfold rdRd rd2 rd3 at h
  split at h
  · obtain rfl := Option.some.inj h
    have hk := rdFirst_bd (cutS s [58]).1
    exact ⟨rdB_len _ _, rdB_oct _ _ (by omega) (by omega)⟩
  · cases h
theorem rd_parts (s : ByteArray) : ∃ l err, rdE (rdRd s) = .tuple #[.agg (u8s l).toArray, .int .i64 err] ∧ l.length = 8 ∧ Oct l := by
  cases h : rdRd s with
  | none => exact ⟨List.replicate 8 0, 4, rfl, rfl, oct8⟩
  | some l => exact ⟨l, 0, rfl, (rdRd_bd h).1, (rdRd_bd h).2⟩
theorem rtr_parts (id n : Int) : ∃ l err, rtrE (rtrRd id n) = .tuple #[.agg (u8s l).toArray, .int .i64 err] ∧ l.length = 8 ∧ Oct l := by
  unfold rtrRd
  split
  · exact ⟨_, 0, rfl, rdB_len _ _, rdB_oct _ _ (by omega) (by omega)⟩
  · exact ⟨List.replicate 8 0, 2, rfl, rfl, oct8⟩
theorem text_parts (l : List Int) : ∃ t err, rdTE (rdS l) = .tuple #[.string t, .int .i64 err] := by
  cases rdS l with
  | none => exact ⟨_, _, rfl⟩
  | some t => exact ⟨_, _, rfl⟩
theorem store_on {w w1 : World} {l : List Int} (h : Below w.heap.size w w1) : Below w.heap.size w ((w1.alloc (.cells zr8 60)).setRow w1.heap.size (u8s l).toArray) ∧ Below w1.heap.size w1 ((w1.alloc (.cells zr8 60)).setRow w1.heap.size (u8s l).toArray) := by
  have hq : Below w1.heap.size w1 ((w1.alloc (.cells zr8 60)).setRow w1.heap.size (u8s l).toArray) := ((Below.refl _ w1).alloc (Nat.le_refl _) _).trans (below_setRow _ _ _ (Nat.le_refl _))
  exact ⟨h.trans (hq.mono h.size), hq⟩
set_option maxHeartbeats 16000000 in
set_option maxRecDepth 100000 in
theorem addrRds_walk (w : World) (E : Env w) (r : List Int) (id n : Int) (s : ByteArray) (hr : r.length = 8) (orr : Oct r) (hid : 0 ≤ id ∧ id ≤ 4294967295) (hn : I64 n) (hs : s.size ≤ 1048576) :
    Calls Tryd.prog 6 #[.agg (u8s r).toArray, .int .u32 id, .int .i64 n, .string s] w fun e w' => e = .returned (.bool true) ∧ Below w.heap.size w w' := by
  obtain ⟨tx, te, htx⟩ := text_parts r
  obtain ⟨c, ce, hc, hcl, oc⟩ := rd_parts s
  obtain ⟨x, xe, hx, hxl, ox⟩ := rtr_parts id n
  have T1 : Hid (∀ w, Env w → Calls Tryd.prog 43 #[.agg (u8s r).toArray] w fun e w' => e = .returned (.tuple #[.string tx, .int .i64 te]) ∧ Below w.heap.size w w') := Lib.hid (fun w E => (rdtext_is w E r hr orr).mono fun e w' h => by have := h.1; rw [htx] at this; exact ⟨this, h.2⟩)
  have T2 : Hid (∀ w, Calls Tryd.prog 44 #[.agg (u8s r).toArray] w fun e w' => e = .returned (.tuple #[.string tx, .int .i64 te]) ∧ Below w.heap.size w w') := Lib.hid (fun w => (rrdtext_is w r hr orr).mono fun e w' h => by have := h.1; rw [htx] at this; exact ⟨this, h.2⟩)
  have P1 : Hid (∀ w, Env w → Calls Tryd.prog 45 #[.string s] w fun e w' => e = .returned (.tuple #[.agg (u8s c).toArray, .int .i64 ce]) ∧ Below w.heap.size w w') := Lib.hid (fun w E => (prd_is w E s (by omega)).mono fun e w' h => by have := h.1; rw [hc] at this; exact ⟨this, h.2⟩)
  have P2 : Hid (∀ w, Calls Tryd.prog 46 #[.string s] w fun e w' => e = .returned (.tuple #[.agg (u8s c).toArray, .int .i64 ce]) ∧ Below w.heap.size w w') := Lib.hid (fun w => (rprd_is w s (by omega)).mono fun e w' h => by have := h.1; rw [hc] at this; exact ⟨this, h.2⟩)
  have R1 : Hid (∀ w, Calls Tryd.prog 47 #[.int .u32 id, .int .i64 n] w fun e w' => e = .returned (.tuple #[.agg (u8s x).toArray, .int .i64 xe]) ∧ Below w.heap.size w w') := Lib.hid (fun w => (rtr_is w id n hid hn).mono fun e w' h => by have := h.1; rw [hx] at this; exact ⟨this, h.2⟩)
  have R2 : Hid (∀ w, Calls Tryd.prog 48 #[.int .u32 id, .int .i64 n] w fun e w' => e = .returned (.tuple #[.agg (u8s x).toArray, .int .i64 xe]) ∧ Below w.heap.size w w') := Lib.hid (fun w => (rrtr_is w id n hid hn).mono fun e w' h => by have := h.1; rw [hx] at this; exact ⟨this, h.2⟩)
  clear htx hc hx
  have HA := Lib.hid (Blk.new w 60 (u8s r).toArray)
  have HL : Hid (Below w.heap.size w (w.alloc (.cells (u8s r).toArray 60))) := Lib.hid ((Below.refl _ _).alloc (Nat.le_refl _) _)
  have q1 : ∀ W, (binOp .neq 60 (.agg (u8s c).toArray) (.agg (u8s c).toArray)).run Tryd.prog W = .ok (.bool false) W := fun W => run_neq_u8s (P := Tryd.prog) (t := 60) (e := 5) (n := 8) (by kernel_rfl) Tryd.underlying60 Tryd.underlying5 (by kernel_rfl) (by kernel_rfl) c c hcl hcl oc oc false (by simp) W
  have q2 : ∀ W, (binOp .neq 60 (.agg (u8s x).toArray) (.agg (u8s x).toArray)).run Tryd.prog W = .ok (.bool false) W := fun W => run_neq_u8s (P := Tryd.prog) (t := 60) (e := 5) (n := 8) (by kernel_rfl) Tryd.underlying60 Tryd.underlying5 (by kernel_rfl) (by kernel_rfl) x x hxl hxl ox ox false (by simp) W
  have w1 : IntKind.u64.wrap id = id := by rw [IntKind.wrap_u64]; exact Int.emod_eq_of_lt (by omega) (by omega)
  obtain ⟨mo, hmo⟩ : ∃ m, m = id * id := ⟨_, rfl⟩
  have hm0 : 0 ≤ mo := by rw [hmo]; exact Int.mul_nonneg hid.1 hid.1
  have hm1 : mo ≤ 18446744065119617025 := by
    have := Int.mul_le_mul hid.2 hid.2 hid.1 (by omega : (0 : Int) ≤ 4294967295)
    rw [hmo]
    omega
  have w2 : IntKind.u64.wrap (id * id) = mo := by rw [← hmo, IntKind.wrap_u64]; exact Int.emod_eq_of_lt (by omega) (by omega)
  clear hmo
  obtain ⟨on, ob, hdg⟩ : ∃ on ob, digV (digits s.data.toList mo) = .tuple #[.int .u64 on, .bool ob] := ⟨_, _, rfl⟩
  have D1 : Hid (∀ w, Calls Tryd.prog 49 #[.string s, .int .u64 mo] w fun e w' => e = .returned (.tuple #[.int .u64 on, .bool ob]) ∧ w = w') := Lib.hid (fun w => (digits_is w s mo (by omega) hm0 (by omega)).mono fun e w' h => by have := h.1; rw [hdg] at this; exact ⟨this, h.2⟩)
  have D2 : Hid (∀ w, Calls Tryd.prog 50 #[.string s, .int .u64 mo] w fun e w' => e = .returned (.tuple #[.int .u64 on, .bool ob]) ∧ w = w') := Lib.hid (fun w => (rdg_is w s mo hm0 (by omega)).mono fun e w' h => by have := h.1; rw [hdg] at this; exact ⟨this, h.2⟩)
  clear hdg
  go_enter Tryd.func6, Tryd.ntmps6
  go_wp2_with (refine rd_fetch rfl _ rfl w.heap.size r hr rfl HA.out.range ?_)
  refine (T1.out _ (E.below HL.out)).mono ?_
  rintro e v1 ⟨rfl, hB⟩
  have HA1 := Lib.hid (HA.out.below hB HA.out.lt)
  have HL1 := Lib.hid (HL.out.trans (hB.mono HL.out.size))
  clear hB HA HL T1
  go_wp2_with (refine rd_fetch rfl _ rfl w.heap.size r hr rfl HA1.out.range ?_)
  refine (T2.out _).mono ?_
  rintro e v2 ⟨rfl, hB⟩
  have HL2 := Lib.hid (HL1.out.trans (hB.mono HL1.out.size))
  clear hB HA1 HL1 T2
  go_wp2_with fail
  refine (P1.out _ (E.below HL2.out)).mono ?_
  rintro e v3 ⟨rfl, hB⟩
  have hL3 := HL2.out.trans (hB.mono HL2.out.size)
  have HL3 := Lib.hid (store_on (l := c) hL3).1
  have HC3 := Lib.hid (Blk.setRow (Blk.new v3 60 zr8) (u8s c).toArray)
  clear hB HL2 P1 hL3
  go_wp2_with (refine rd_store rfl _ _ rfl v3.heap.size c hcl rfl rfl 60 zr8 (Blk.new v3 60 zr8) rfl ?_)
  refine (P2.out _).mono ?_
  rintro e v4 ⟨rfl, hB⟩
  have hL4 := HL3.out.trans (hB.mono HL3.out.size)
  have HL4 := Lib.hid (store_on (l := c) hL4).1
  have hC4 := HC3.out.below hB HC3.out.lt
  have HC4 := Lib.hid (hC4.below (store_on (l := c) hL4).2 hC4.lt)
  have HD4 := Lib.hid (Blk.setRow (Blk.new v4 60 zr8) (u8s c).toArray)
  clear hB HL3 P2 hL4 hC4 HC3
  go_wp2_with (refine rd_store rfl _ _ rfl v4.heap.size c hcl rfl rfl 60 zr8 (Blk.new v4 60 zr8) rfl ?_)
  refine (R1.out _).mono ?_
  rintro e v5 ⟨rfl, hB⟩
  have hL5 := HL4.out.trans (hB.mono HL4.out.size)
  have HL5 := Lib.hid (store_on (l := x) hL5).1
  have hC5 := HC4.out.below hB HC4.out.lt
  have HC5 := Lib.hid (hC5.below (store_on (l := x) hL5).2 hC5.lt)
  have hD5 := HD4.out.below hB HD4.out.lt
  have HD5 := Lib.hid (hD5.below (store_on (l := x) hL5).2 hD5.lt)
  have HX5 := Lib.hid (Blk.setRow (Blk.new v5 60 zr8) (u8s x).toArray)
  clear hB HL4 R1 hL5 hC5 hD5 HC4 HD4
  go_wp2_with (refine rd_store rfl _ _ rfl v5.heap.size x hxl rfl rfl 60 zr8 (Blk.new v5 60 zr8) rfl ?_)
  refine (R2.out _).mono ?_
  rintro e v6 ⟨rfl, hB⟩
  have hL6 := HL5.out.trans (hB.mono HL5.out.size)
  have HL6 := Lib.hid (store_on (l := x) hL6).1
  have hC6 := HC5.out.below hB HC5.out.lt
  have HC6 := Lib.hid (hC6.below (store_on (l := x) hL6).2 hC6.lt)
  have hD6 := HD5.out.below hB HD5.out.lt
  have HD6 := Lib.hid (hD6.below (store_on (l := x) hL6).2 hD6.lt)
  have hX6 := HX5.out.below hB HX5.out.lt
  have HX6 := Lib.hid (hX6.below (store_on (l := x) hL6).2 hX6.lt)
  have HY6 := Lib.hid (Blk.setRow (Blk.new v6 60 zr8) (u8s x).toArray)
  clear hB HL5 R2 hL6 hC6 hD6 hX6 HC5 HD5 HX5
  go_wp2_with (first
    | (refine rd_store rfl _ _ rfl v6.heap.size x hxl rfl rfl 60 zr8 (Blk.new v6 60 zr8) rfl ?_)
    | (refine rd_fetch rfl _ rfl v3.heap.size c hcl rfl HC6.out.range ?_)
    | (refine rd_fetch rfl _ rfl v4.heap.size c hcl rfl HD6.out.range ?_)
    | (refine rd_fetch rfl _ rfl v5.heap.size x hxl rfl HX6.out.range ?_)
    | (refine rd_fetch rfl _ rfl v6.heap.size x hxl rfl HY6.out.range ?_))
  generalize (v6.alloc (.cells zr8 60)).setRow v6.heap.size (u8s x).toArray = v7 at *
  refine (D1.out _).mono ?_
  rintro e w' ⟨rfl, rfl⟩
  go_wp2_with fail
  refine (D2.out _).mono ?_
  rintro e w' ⟨rfl, rfl⟩
  clear D1 D2 HC6 HD6 HX6 HY6 q1 q2 w1 w2
  go_wp2_with fail
  refine (dec_is _ (E.below HL6.out) mo hm0 (by omega)).mono ?_
  rintro e v8 ⟨rfl, hB⟩
  have HL8 := Lib.hid (HL6.out.trans (hB.mono HL6.out.size))
  clear hB HL6
  go_wp2_with fail
  refine (rdec_int _ mo hm0 (by omega)).mono ?_
  rintro e v9 ⟨rfl, hB⟩
  have HL9 := Lib.hid (HL8.out.trans (hB.mono HL8.out.size))
  clear hB HL8
  go_wp2_with fail
  refine (alive_is _ (E.below HL9.out)).mono ?_
  rintro e v10 ⟨rfl, hB⟩
  have HL10 := Lib.hid (HL9.out.trans (hB.mono HL9.out.size))
  clear hB HL9
  go_wp2
  go_ret
  exact ⟨rfl, HL10.out⟩
end Go.Proofs.YtfapmedlnaikiaaDoor
