/-
  AttrWorse: for every input the law returns true, and each argument reads behind the call as it read before; the library's variables as the program's text lays them.
-/
import Derived.Test.YtiohgblinjignaaDoorMZ
import Derived.Test.YtiohgblinjignaaDoorMU
import Derived.Test.YtiohgblinjignaaDoorTie
import Derived.Test.YtiohgblinjignaaDoorCards
import Derived.Test.YtiohgblinjignaaDoorMX
import Derived.Test.YtiohgblinjignaaDoorMW
import Derived.WalkKit
import Derived.OpenShut
import Derived.ShutString
import Derived.ChangeOld
import Derived.Below
import Derived.LaidOnce
import Derived.SevenTiedAt
namespace Go.Proofs.YtiohgblinjignaaDoor
open Go.RowKit
set_option maxRecDepth 100000
set_option linter.unusedSimpArgs false
set_option linter.unusedVariables false

theorem att_store {ops : Array Oper} {rest : List Oper} {o : Oper} {a : Act} {w : World} {Q : Exit → Act → World → Prop} (hgd : o.guard = none) (x y : Operand) (ho : o.op = .store 49 x y) (g : Nat) (cs : List Value) (hl : cs.length = 27) (h1 : ∀ v ∈ cs, v.oneCell' = true)
    (hx : a.eval x = .pointer (some ⟨g, 0, none⟩)) (hy : a.eval y = .agg cs.toArray) (t : TypeId) (old : Array Value) (hg : Blk w g t old) (hold : old.size = 27)
    (h : wpList Tryd.prog ops Q rest (a.put o.dst undef) (w.setRow g cs.toArray)) : wpList Tryd.prog ops Q (o :: rest) a w :=
  wpList_store_row hgd 49 x y ho g _ hx hy t old hg (by rw [asz]; simp [hl]) (by rw [hold]; simp [hl]) (all_oneCell_toArray h1) h
theorem IsAt.shape {lo : Nat} {w : World} {cs : List Value} {a : Att} (h : IsAt lo w cs a) : cs.length = 27 ∧ ∀ v ∈ cs, v.oneCell' = true := by
  obtain ⟨vp, vc, vm, rfl, h1, h2, h3⟩ := h.ex
  obtain ⟨_, _, e1, _⟩ := h1.rd
  obtain ⟨_, _, e2, _⟩ := h2.rd
  obtain ⟨_, _, e3, _⟩ := h3.rd
  exact ⟨attV_len _ _ _ _ h.ip, one_attV _ (by rw [e1]; rfl) (by rw [e2]; rfl) (by rw [e3]; rfl)⟩
/-- Behind a Read: its answers laid into variables. -/
structure Aft (w1 W : World) (r1 r2 : Int) (A : Option Addr) (n c : Nat) (data : List Int) (cs : List Value) : Prop where
  bel : Below w1.heap.size w1 W
  flt : Blk W (w1.heap.size + 1) 51 #[.int .i64 r1, .int .i64 r2, .slice A n c]
  att : Blk W w1.heap.size 49 cs.toArray
  size : W.heap.size = w1.heap.size + 1 + 1
theorem aft_of (w1 : World) (r1 r2 : Int) (A : Option Addr) (n c : Nat) (cs : List Value) (data : List Int) :
    Blk ((w1.alloc (.cells #[Value.int .i64 0, .slice none 0 0, .bool false, .int .u32 0, .int .u32 0, .int .u32 0, .slice none 0 0, .slice none 0 0, .int .i64 0, .int .u32 0, .bool false, .int .u8 0, .int .u8 0, .int .u8 0, .int .u8 0, .int .u8 0, .int .u8 0, .int .u8 0, .int .u8 0, .int .u8 0, .int .u8 0, .int .u8 0, .int .u8 0, .int .u8 0, .int .u8 0, .int .u8 0, .int .u8 0] 49)).alloc (.cells #[.int .i64 0, .int .i64 0, .slice none 0 0] 51)) w1.heap.size 49 #[Value.int .i64 0, .slice none 0 0, .bool false, .int .u32 0, .int .u32 0, .int .u32 0, .slice none 0 0, .slice none 0 0, .int .i64 0, .int .u32 0, .bool false, .int .u8 0, .int .u8 0, .int .u8 0, .int .u8 0, .int .u8 0, .int .u8 0, .int .u8 0, .int .u8 0, .int .u8 0, .int .u8 0, .int .u8 0, .int .u8 0, .int .u8 0, .int .u8 0, .int .u8 0, .int .u8 0] ∧ Blk (((w1.alloc (.cells #[Value.int .i64 0, .slice none 0 0, .bool false, .int .u32 0, .int .u32 0, .int .u32 0, .slice none 0 0, .slice none 0 0, .int .i64 0, .int .u32 0, .bool false, .int .u8 0, .int .u8 0, .int .u8 0, .int .u8 0, .int .u8 0, .int .u8 0, .int .u8 0, .int .u8 0, .int .u8 0, .int .u8 0, .int .u8 0, .int .u8 0, .int .u8 0, .int .u8 0, .int .u8 0, .int .u8 0] 49)).alloc (.cells #[.int .i64 0, .int .i64 0, .slice none 0 0] 51)).setRow w1.heap.size cs.toArray) (w1.heap.size + 1) 51 #[.int .i64 0, .int .i64 0, .slice none 0 0] ∧
      Aft w1 ((((w1.alloc (.cells #[Value.int .i64 0, .slice none 0 0, .bool false, .int .u32 0, .int .u32 0, .int .u32 0, .slice none 0 0, .slice none 0 0, .int .i64 0, .int .u32 0, .bool false, .int .u8 0, .int .u8 0, .int .u8 0, .int .u8 0, .int .u8 0, .int .u8 0, .int .u8 0, .int .u8 0, .int .u8 0, .int .u8 0, .int .u8 0, .int .u8 0, .int .u8 0, .int .u8 0, .int .u8 0, .int .u8 0] 49)).alloc (.cells #[.int .i64 0, .int .i64 0, .slice none 0 0] 51)).setRow w1.heap.size cs.toArray).setRow (w1.heap.size + 1) #[.int .i64 r1, .int .i64 r2, .slice A n c]) r1 r2 A n c data cs := by
  have h1 := (Blk.new w1 49 #[Value.int .i64 0, .slice none 0 0, .bool false, .int .u32 0, .int .u32 0, .int .u32 0, .slice none 0 0, .slice none 0 0, .int .i64 0, .int .u32 0, .bool false, .int .u8 0, .int .u8 0, .int .u8 0, .int .u8 0, .int .u8 0, .int .u8 0, .int .u8 0, .int .u8 0, .int .u8 0, .int .u8 0, .int .u8 0, .int .u8 0, .int .u8 0, .int .u8 0, .int .u8 0, .int .u8 0]).alloc (.cells #[.int .i64 0, .int .i64 0, .slice none 0 0] 51)
  have h2 : Blk ((w1.alloc (.cells #[Value.int .i64 0, .slice none 0 0, .bool false, .int .u32 0, .int .u32 0, .int .u32 0, .slice none 0 0, .slice none 0 0, .int .i64 0, .int .u32 0, .bool false, .int .u8 0, .int .u8 0, .int .u8 0, .int .u8 0, .int .u8 0, .int .u8 0, .int .u8 0, .int .u8 0, .int .u8 0, .int .u8 0, .int .u8 0, .int .u8 0, .int .u8 0, .int .u8 0, .int .u8 0, .int .u8 0] 49)).alloc (.cells #[.int .i64 0, .int .i64 0, .slice none 0 0] 51)) (w1.heap.size + 1) 51 #[.int .i64 0, .int .i64 0, .slice none 0 0] := by
    have := Blk.new (w1.alloc (.cells #[Value.int .i64 0, .slice none 0 0, .bool false, .int .u32 0, .int .u32 0, .int .u32 0, .slice none 0 0, .slice none 0 0, .int .i64 0, .int .u32 0, .bool false, .int .u8 0, .int .u8 0, .int .u8 0, .int .u8 0, .int .u8 0, .int .u8 0, .int .u8 0, .int .u8 0, .int .u8 0, .int .u8 0, .int .u8 0, .int .u8 0, .int .u8 0, .int .u8 0, .int .u8 0, .int .u8 0] 49)) 51 #[.int .i64 0, .int .i64 0, .slice none 0 0]
    simpa using this
  have h3 := h2.row_other (g' := w1.heap.size) (by omega) cs.toArray
  have hb : Below w1.heap.size w1 ((w1.alloc (.cells #[Value.int .i64 0, .slice none 0 0, .bool false, .int .u32 0, .int .u32 0, .int .u32 0, .slice none 0 0, .slice none 0 0, .int .i64 0, .int .u32 0, .bool false, .int .u8 0, .int .u8 0, .int .u8 0, .int .u8 0, .int .u8 0, .int .u8 0, .int .u8 0, .int .u8 0, .int .u8 0, .int .u8 0, .int .u8 0, .int .u8 0, .int .u8 0, .int .u8 0, .int .u8 0, .int .u8 0] 49)).alloc (.cells #[.int .i64 0, .int .i64 0, .slice none 0 0] 51)) := ((Below.refl _ _).alloc (Nat.le_refl _) _).alloc (by simp) _
  refine ⟨h1, h3, (hb.trans (below_setRow _ _ _ (Nat.le_refl _))).trans (below_setRow _ _ _ (by omega)), Blk.setRow h3 _, (Blk.setRow h1 _).row_other (by omega) _, by simp⟩

set_option maxHeartbeats 4000000 in
theorem attrWorse_walk (w : World) (E : EnvK w) (A : Option Addr) (n c : Nat) (rs : List Raw) (A2 : Option Addr) (n2 c2 : Nat) (ms : List Raw) (hr : RdR w w.heap.size A n rs ∧ n ≤ c) (hv : n ≤ 140737488351232 ∧ ∀ r ∈ rs, r.2.2.length ≤ 140737488351232)
    (hr2 : RdR w w.heap.size A2 n2 ms ∧ n2 ≤ c2) (hv2 : n2 ≤ 140737488351232 ∧ ∀ r ∈ ms, r.2.2.length ≤ 140737488351232) :
    Calls Tryd.prog 8 #[.slice A n c, .slice A2 n2 c2] w fun e w' => e = .returned (.bool true) ∧ Below w.heap.size w w' := by
  have HR := Lib.hid hr.1
  have HR2 := Lib.hid hr2.1
  have HV := Lib.hid hv.2
  have HV2 := Lib.hid hv2.2
  have HE := Lib.hid E
  have hn := hv.1
  have hn2 := hv2.1
  have HLn := Lib.hid hr.1.len
  have HLn2 := Lib.hid hr2.1.len
  clear hr hr2 hv hv2 E
  by_cases hm1 : 300 < n
  · have hmost' : (300 : Int) < n := by omega
    go_enter Tryd.func8, Tryd.ntmps8
    go_wp2_with fail
    refine (alive_is _ HE.out).mono ?_
    rintro e w1 ⟨rfl, hB⟩
    have HB := Lib.hid hB
    clear hB
    go_wp2
    go_ret
    exact ⟨rfl, HB.out⟩
  have hm1' : ¬ (300 : Int) < n := by omega
  by_cases hm2 : 300 < n2
  · have hmost' : (300 : Int) < n2 := by omega
    go_enter Tryd.func8, Tryd.ntmps8
    go_wp2_with fail
    refine (alive_is _ HE.out).mono ?_
    rintro e w1 ⟨rfl, hB⟩
    have HB := Lib.hid hB
    clear hB
    go_wp2
    go_ret
    exact ⟨rfl, HB.out⟩
  have hm2' : ¬ (300 : Int) < n2 := by omega
  go_enter Tryd.func8, Tryd.ntmps8
  go_wp2_with fail
  refine (Read_is w HE.out A n c rs HR.out (by omega) HV.out).mono ?_
  rintro e w1 ⟨cs, Ad, nd, cd, rfl, hat, hod, hB1⟩
  obtain ⟨hcl, hc1⟩ := hat.shape
  obtain ⟨k1, k2, ka⟩ := aft_of w1 (readM rs).2.2.1 (readM rs).2.2.2.1 Ad nd cd cs (readM rs).2.2.2.2
  have HWo := Lib.hid (worse rs ms)
  have HCl := Lib.hid hcl
  have HC1 := Lib.hid hc1
  have K1 := Lib.hid k1
  have K2 := Lib.hid k2
  have HB1 := Lib.hid hB1
  have hz1 := hB1.size
  have HOd := Lib.hid hod
  have HKa := Lib.hid ka
  have HOv : Hid (OwnV w.heap.size (w1.heap.size + 1 + 1) (((((w1.alloc (.cells #[Value.int .i64 0, .slice none 0 0, .bool false, .int .u32 0, .int .u32 0, .int .u32 0, .slice none 0 0, .slice none 0 0, .int .i64 0, .int .u32 0, .bool false, .int .u8 0, .int .u8 0, .int .u8 0, .int .u8 0, .int .u8 0, .int .u8 0, .int .u8 0, .int .u8 0, .int .u8 0, .int .u8 0, .int .u8 0, .int .u8 0, .int .u8 0, .int .u8 0, .int .u8 0, .int .u8 0] 49)).alloc (.cells #[.int .i64 0, .int .i64 0, .slice none 0 0] 51)).setRow w1.heap.size cs.toArray).setRow (w1.heap.size + 1) #[.int .i64 (readM rs).2.2.1, .int .i64 (readM rs).2.2.2.1, .slice Ad nd cd]).alloc (.cells #[] 32)) (.slice (some ⟨w1.heap.size + 1 + 1, 0, none⟩) 0 0) []) := Lib.hid (OwnV.nil_ _ _ _ (by omega) _ 0 (Nat.le_refl _) (by
    have := Blk.new ((((w1.alloc (.cells #[Value.int .i64 0, .slice none 0 0, .bool false, .int .u32 0, .int .u32 0, .int .u32 0, .slice none 0 0, .slice none 0 0, .int .i64 0, .int .u32 0, .bool false, .int .u8 0, .int .u8 0, .int .u8 0, .int .u8 0, .int .u8 0, .int .u8 0, .int .u8 0, .int .u8 0, .int .u8 0, .int .u8 0, .int .u8 0, .int .u8 0, .int .u8 0, .int .u8 0, .int .u8 0, .int .u8 0] 49)).alloc (.cells #[.int .i64 0, .int .i64 0, .slice none 0 0] 51)).setRow w1.heap.size cs.toArray).setRow (w1.heap.size + 1) #[.int .i64 (readM rs).2.2.1, .int .i64 (readM rs).2.2.2.1, .slice Ad nd cd]) 32 #[]
    rw [ka.size] at this
    exact this))
  have hsv : w1.heap.size + 1 + 1 ≤ (((((w1.alloc (.cells #[Value.int .i64 0, .slice none 0 0, .bool false, .int .u32 0, .int .u32 0, .int .u32 0, .slice none 0 0, .slice none 0 0, .int .i64 0, .int .u32 0, .bool false, .int .u8 0, .int .u8 0, .int .u8 0, .int .u8 0, .int .u8 0, .int .u8 0, .int .u8 0, .int .u8 0, .int .u8 0, .int .u8 0, .int .u8 0, .int .u8 0, .int .u8 0, .int .u8 0, .int .u8 0, .int .u8 0] 49)).alloc (.cells #[.int .i64 0, .int .i64 0, .slice none 0 0] 51)).setRow w1.heap.size cs.toArray).setRow (w1.heap.size + 1) #[.int .i64 (readM rs).2.2.1, .int .i64 (readM rs).2.2.2.1, .slice Ad nd cd]).alloc (.cells #[] 32)).heap.size := by simp
  have hBv : Below w.heap.size w (((((w1.alloc (.cells #[Value.int .i64 0, .slice none 0 0, .bool false, .int .u32 0, .int .u32 0, .int .u32 0, .slice none 0 0, .slice none 0 0, .int .i64 0, .int .u32 0, .bool false, .int .u8 0, .int .u8 0, .int .u8 0, .int .u8 0, .int .u8 0, .int .u8 0, .int .u8 0, .int .u8 0, .int .u8 0, .int .u8 0, .int .u8 0, .int .u8 0, .int .u8 0, .int .u8 0, .int .u8 0, .int .u8 0] 49)).alloc (.cells #[.int .i64 0, .int .i64 0, .slice none 0 0] 51)).setRow w1.heap.size cs.toArray).setRow (w1.heap.size + 1) #[.int .i64 (readM rs).2.2.1, .int .i64 (readM rs).2.2.2.1, .slice Ad nd cd]).alloc (.cells #[] 32)) := ((hB1.trans (ka.bel.mono hz1))).alloc (by rw [ka.size]; omega) _
  have HBv := Lib.hid hBv
  have HFv : Hid (Blk (((((w1.alloc (.cells #[Value.int .i64 0, .slice none 0 0, .bool false, .int .u32 0, .int .u32 0, .int .u32 0, .slice none 0 0, .slice none 0 0, .int .i64 0, .int .u32 0, .bool false, .int .u8 0, .int .u8 0, .int .u8 0, .int .u8 0, .int .u8 0, .int .u8 0, .int .u8 0, .int .u8 0, .int .u8 0, .int .u8 0, .int .u8 0, .int .u8 0, .int .u8 0, .int .u8 0, .int .u8 0, .int .u8 0] 49)).alloc (.cells #[.int .i64 0, .int .i64 0, .slice none 0 0] 51)).setRow w1.heap.size cs.toArray).setRow (w1.heap.size + 1) #[.int .i64 (readM rs).2.2.1, .int .i64 (readM rs).2.2.2.1, .slice Ad nd cd]).alloc (.cells #[] 32)) (w1.heap.size + 1) 51 #[.int .i64 (readM rs).2.2.1, .int .i64 (readM rs).2.2.2.1, .slice Ad nd cd]) := Lib.hid (ka.flt.alloc _)
  have hrd1 : Rd w1 w1.heap.size Ad nd (readM rs).2.2.2.2 := by
    obtain ⟨A', c', e1, _, hrq, _⟩ := hod.at_
    injection e1 with e1 e2 e3
    subst e1 e3
    rw [← e2] at hrq
    exact hrq
  have HOdv : Hid (Rd (((((w1.alloc (.cells #[Value.int .i64 0, .slice none 0 0, .bool false, .int .u32 0, .int .u32 0, .int .u32 0, .slice none 0 0, .slice none 0 0, .int .i64 0, .int .u32 0, .bool false, .int .u8 0, .int .u8 0, .int .u8 0, .int .u8 0, .int .u8 0, .int .u8 0, .int .u8 0, .int .u8 0, .int .u8 0, .int .u8 0, .int .u8 0, .int .u8 0, .int .u8 0, .int .u8 0, .int .u8 0, .int .u8 0] 49)).alloc (.cells #[.int .i64 0, .int .i64 0, .slice none 0 0] 51)).setRow w1.heap.size cs.toArray).setRow (w1.heap.size + 1) #[.int .i64 (readM rs).2.2.1, .int .i64 (readM rs).2.2.2.1, .slice Ad nd cd]).alloc (.cells #[] 32)) w1.heap.size Ad nd (readM rs).2.2.2.2) := Lib.hid ((hrd1.below ka.bel).below ((Below.refl _ _).alloc (by rw [ka.size]; omega) _))
  have HSv := Lib.hid hsv
  have HRv := Lib.hid (HR.out.below hBv)
  clear hcl hc1 k1 k2 ka hB1 hod hat hsv hBv hrd1
  obtain ⟨cl, hcl⟩ : ∃ x, x = (readM rs).2.1 := ⟨_, rfl⟩
  obtain ⟨r1, hr1⟩ : ∃ x, x = (readM rs).2.2.1 := ⟨_, rfl⟩
  obtain ⟨r2, hr2⟩ : ∃ x, x = (readM rs).2.2.2.1 := ⟨_, rfl⟩
  obtain ⟨dt, hdt⟩ : ∃ x, x = (readM rs).2.2.2.2 := ⟨_, rfl⟩
  have HFacts : Hid (0 ≤ cl ∧ cl ≤ 3 ∧ (cl ≠ 3 → r1 = 0) ∧ (∀ d, d = (readM (rs ++ ms)).2.1 → cl ≤ d) ∧ (cl = 3 → (readM (rs ++ ms)).2.1 = 3 ∧ (readM (rs ++ ms)).2.2.1 = r1 ∧ (readM (rs ++ ms)).2.2.2.1 = r2 ∧ (readM (rs ++ ms)).2.2.2.2 = dt)) := Lib.hid (by
    obtain ⟨q1, q2, q3, q4, q5⟩ := HWo.out
    rw [hcl, hr1, hr2, hdt]
    exact ⟨q2, q3, fun h => by rw [q5 h], fun d hd => by rw [hd]; exact q1, fun h => by rw [q4 h]; exact ⟨h, rfl, rfl, rfl⟩⟩)
  rw [← hr1, ← hr2] at HOv HBv HFv HSv HRv HKa
  rw [← hr1, ← hr2, ← hdt] at HOdv
  rw [← hcl, ← hr1, ← hr2]
  clear hcl hr1 hr2 hdt HWo HOd HKa
  go_wp2_with (first
    | (refine att_store (o := ⟨_, .store 49 _ _, _, _, _, _⟩) rfl _ _ rfl w1.heap.size cs HCl.out HC1.out rfl rfl 49 _ K1.out rfl ?_)
    | (refine f_store (o := ⟨_, .store 51 _ _, _, _, _, _⟩) rfl _ _ rfl (w1.heap.size + 1) r1 r2 Ad nd cd rfl rfl 51 _ K2.out rfl ?_)
    | (at_builtin; refine app_raws rfl _ _ rfl HOv.out HSv.out HRv.out (by simp; omega) rfl rfl ?_))
  generalize (((((w1.alloc (.cells #[Value.int .i64 0, .slice none 0 0, .bool false, .int .u32 0, .int .u32 0, .int .u32 0, .slice none 0 0, .slice none 0 0, .int .i64 0, .int .u32 0, .bool false, .int .u8 0, .int .u8 0, .int .u8 0, .int .u8 0, .int .u8 0, .int .u8 0, .int .u8 0, .int .u8 0, .int .u8 0, .int .u8 0, .int .u8 0, .int .u8 0, .int .u8 0, .int .u8 0, .int .u8 0, .int .u8 0] 49)).alloc (.cells #[.int .i64 0, .int .i64 0, .slice none 0 0] 51)).setRow w1.heap.size cs.toArray).setRow (w1.heap.size + 1) #[.int .i64 r1, .int .i64 r2, .slice Ad nd cd]).alloc (.cells #[] 32)) = w2 at *
  intro v3 w3 hov3 hb3
  have hz2 := HSv.out
  have hBw3 : Below w.heap.size w w3 := HBv.out.trans (hb3.mono (by omega))
  have HOv3 : Hid (OwnV w.heap.size (w1.heap.size + 1 + 1) w3 v3 rs) := Lib.hid hov3
  have HF3 : Hid (Blk w3 (w1.heap.size + 1) 51 #[.int .i64 r1, .int .i64 r2, .slice Ad nd cd]) := Lib.hid (HFv.out.below hb3 (by omega))
  have HD3 : Hid (Rd w3 w1.heap.size Ad nd dt) := Lib.hid (HOdv.out.below (hb3.mono (by omega)))
  have HS3 : Hid (w1.heap.size + 1 + 1 ≤ w3.heap.size) := Lib.hid (Nat.le_trans hz2 hb3.size)
  have HB3 := Lib.hid hBw3
  have HR3 := Lib.hid (HR2.out.below hBw3)
  clear hov3 hb3 hz2 hBw3 HOv HBv HFv HOdv HRv HSv K1 K2
  go_wp2_with (at_builtin; refine app_raws rfl _ _ rfl HOv3.out HS3.out HR3.out (by rw [HLn.out]; omega) rfl rfl ?_)
  intro v4 w4 hov4 hb4
  have hs4 : w1.heap.size + 1 + 1 ≤ w4.heap.size := Nat.le_trans HS3.out hb4.size
  obtain ⟨A4, c4, rfl, hr4⟩ := hov4.rd hs4
  have HR4 := Lib.hid hr4
  have HB4 : Hid (Below w.heap.size w w4) := Lib.hid (HB3.out.trans (hb4.mono (by omega)))
  have HF4 : Hid (Blk w4 (w1.heap.size + 1) 51 #[.int .i64 r1, .int .i64 r2, .slice Ad nd cd]) := Lib.hid (HF3.out.below hb4 (by omega))
  have HD4 : Hid (Rd w4 w1.heap.size Ad nd dt) := Lib.hid (HD3.out.below (hb4.mono (by omega)))
  have HE4 : Hid (EnvK w4) := Lib.hid (HE.out.below HB4.out)
  have HS4 := Lib.hid hs4
  have HL4 : Hid ((rs ++ ms).length ≤ 1048576) := Lib.hid (by rw [List.length_append, HLn.out, HLn2.out]; omega)
  have HV4 : Hid (∀ r ∈ rs ++ ms, r.2.2.length ≤ 140737488351232) := Lib.hid fun r hr => (List.mem_append.1 hr).elim (HV.out r) (HV2.out r)
  have HRd4 := Lib.hid (Read_is w4 HE4.out A4 _ c4 (rs ++ ms) HR4.out HL4.out HV4.out)
  clear hov4 hb4 hs4 hr4 HOv3 HS3 HR3 HF3 HD3 HB3
  generalize rs ++ ms = al at *
  go_wp2_with fail
  refine HRd4.out.mono ?_
  rintro e w5 ⟨cs2, Ae, ne, ce, rfl, hat, hod, hB5⟩
  obtain ⟨hcl2, hc12⟩ := hat.shape
  obtain ⟨p1, p2, pa⟩ := aft_of w5 (readM al).2.2.1 (readM al).2.2.2.1 Ae ne ce cs2 (readM al).2.2.2.2
  have hrd5 : Rd w5 w5.heap.size Ae ne (readM al).2.2.2.2 := by
    obtain ⟨A', c', e1, _, hrq, _⟩ := hod.at_
    injection e1 with e1 e2 e3
    subst e1 e3
    rw [← e2] at hrq
    exact hrq
  have HCl2 := Lib.hid hcl2
  have HC12 := Lib.hid hc12
  have P1 := Lib.hid p1
  have P2 := Lib.hid p2
  have PA := Lib.hid pa
  have HRd5 := Lib.hid hrd5
  have HB5 := Lib.hid hB5
  clear hcl2 hc12 p1 p2 pa hrd5 hB5 hat hod HRd4 HR4 HL4 HV4
  obtain ⟨d, hd⟩ : ∃ x, x = (readM al).2.1 := ⟨_, rfl⟩
  obtain ⟨q1, hq1⟩ : ∃ x, x = (readM al).2.2.1 := ⟨_, rfl⟩
  obtain ⟨q2, hq2⟩ : ∃ x, x = (readM al).2.2.2.1 := ⟨_, rfl⟩
  obtain ⟨du, hdu⟩ : ∃ x, x = (readM al).2.2.2.2 := ⟨_, rfl⟩
  rw [← hd, ← hq1, ← hq2, ← hdu] at HFacts
  rw [← hq1, ← hq2] at PA
  rw [← hdu] at PA HRd5
  rw [← hd, ← hq1, ← hq2]
  clear hd hq1 hq2 hdu
  have hF6 : Blk ((((w5.alloc (.cells #[Value.int .i64 0, .slice none 0 0, .bool false, .int .u32 0, .int .u32 0, .int .u32 0, .slice none 0 0, .slice none 0 0, .int .i64 0, .int .u32 0, .bool false, .int .u8 0, .int .u8 0, .int .u8 0, .int .u8 0, .int .u8 0, .int .u8 0, .int .u8 0, .int .u8 0, .int .u8 0, .int .u8 0, .int .u8 0, .int .u8 0, .int .u8 0, .int .u8 0, .int .u8 0, .int .u8 0] 49)).alloc (.cells #[.int .i64 0, .int .i64 0, .slice none 0 0] 51)).setRow w5.heap.size cs2.toArray).setRow (w5.heap.size + 1) #[.int .i64 q1, .int .i64 q2, .slice Ae ne ce]) (w1.heap.size + 1) 51 #[.int .i64 r1, .int .i64 r2, .slice Ad nd cd] := (HF4.out.below HB5.out HF4.out.lt).below PA.out.bel (by have := HF4.out.lt; have := HB5.out.size; omega)
  have hD6 : Rd ((((w5.alloc (.cells #[Value.int .i64 0, .slice none 0 0, .bool false, .int .u32 0, .int .u32 0, .int .u32 0, .slice none 0 0, .slice none 0 0, .int .i64 0, .int .u32 0, .bool false, .int .u8 0, .int .u8 0, .int .u8 0, .int .u8 0, .int .u8 0, .int .u8 0, .int .u8 0, .int .u8 0, .int .u8 0, .int .u8 0, .int .u8 0, .int .u8 0, .int .u8 0, .int .u8 0, .int .u8 0, .int .u8 0] 49)).alloc (.cells #[.int .i64 0, .int .i64 0, .slice none 0 0] 51)).setRow w5.heap.size cs2.toArray).setRow (w5.heap.size + 1) #[.int .i64 q1, .int .i64 q2, .slice Ae ne ce]) w1.heap.size Ad nd dt := (HD4.out.below (HB5.out.mono (by have := HS4.out; omega))).below (PA.out.bel.mono (by have := HS4.out; have := HB5.out.size; omega))
  have hB6 : Below w.heap.size w ((((w5.alloc (.cells #[Value.int .i64 0, .slice none 0 0, .bool false, .int .u32 0, .int .u32 0, .int .u32 0, .slice none 0 0, .slice none 0 0, .int .i64 0, .int .u32 0, .bool false, .int .u8 0, .int .u8 0, .int .u8 0, .int .u8 0, .int .u8 0, .int .u8 0, .int .u8 0, .int .u8 0, .int .u8 0, .int .u8 0, .int .u8 0, .int .u8 0, .int .u8 0, .int .u8 0, .int .u8 0, .int .u8 0] 49)).alloc (.cells #[.int .i64 0, .int .i64 0, .slice none 0 0] 51)).setRow w5.heap.size cs2.toArray).setRow (w5.heap.size + 1) #[.int .i64 q1, .int .i64 q2, .slice Ae ne ce]) := (HB4.out.trans (HB5.out.mono HB4.out.size)).trans (PA.out.bel.mono (by have := HB4.out.size; have := HB5.out.size; omega))
  have HF6 := Lib.hid hF6
  have HD6 := Lib.hid hD6
  have HB6 := Lib.hid hB6
  have HE6 : Hid (EnvK _) := Lib.hid (HE.out.below hB6)
  have HG6 := Lib.hid PA.out.flt
  have HDu6 := Lib.hid (HRd5.out.below PA.out.bel)
  have HZ6 := Lib.hid PA.out.size
  have HL16 : Hid (w1.heap.size ≤ w5.heap.size) := Lib.hid (by have := HS4.out; have := HB5.out.size; omega)
  clear hF6 hD6 hB6 HF4 HD4 HB4 HE4 HB5 PA HRd5 HS4
  by_cases hcl3 : cl = 3
  · subst hcl3
    obtain ⟨hd3, hq1, hq2, hdu⟩ := HFacts.out.2.2.2.2 (by first | rfl | trivial)
    subst hd3 hq1 hq2 hdu
    have HRa := Lib.hid (Blk.range (cs := [.int .i64 q1, .int .i64 q2, .slice Ad nd cd]) HF6.out)
    have HRb := Lib.hid (Blk.range (cs := [.int .i64 q1, .int .i64 q2, .slice Ae ne ce]) HG6.out)
    have HAl := Lib.hid (alike_is _ q1 q2 Ad Ae nd ne cd ce du (HD6.out.more (by have := HZ6.out; have := HL16.out; omega)) (HDu6.out.more (by have := HZ6.out; omega)))
    clear HF6 HG6 HD6 HDu6 HFacts
    go_wp2_with (first
      | (refine att_store (o := ⟨_, .store 49 _ _, _, _, _, _⟩) rfl _ _ rfl w5.heap.size cs2 HCl2.out HC12.out rfl rfl 49 _ P1.out rfl ?_)
      | (refine f_store (o := ⟨_, .store 51 _ _, _, _, _, _⟩) rfl _ _ rfl (w5.heap.size + 1) q1 q2 Ae ne ce rfl rfl 51 _ P2.out rfl ?_)
      | (refine f_fetch (op := ⟨_, .load 51 (.tmp 7), _, _, _, _⟩) rfl _ rfl (w1.heap.size + 1) 0 q1 q2 Ad nd cd rfl HRa.out ?_)
      | (refine f_fetch (op := ⟨_, .load 51 (.tmp 11), _, _, _, _⟩) rfl _ rfl (w5.heap.size + 1) 0 q1 q2 Ae ne ce rfl HRb.out ?_))
    refine HAl.out.mono ?_
    generalize ((((w5.alloc (.cells #[Value.int .i64 0, .slice none 0 0, .bool false, .int .u32 0, .int .u32 0, .int .u32 0, .slice none 0 0, .slice none 0 0, .int .i64 0, .int .u32 0, .bool false, .int .u8 0, .int .u8 0, .int .u8 0, .int .u8 0, .int .u8 0, .int .u8 0, .int .u8 0, .int .u8 0, .int .u8 0, .int .u8 0, .int .u8 0, .int .u8 0, .int .u8 0, .int .u8 0, .int .u8 0, .int .u8 0] 49)).alloc (.cells #[.int .i64 0, .int .i64 0, .slice none 0 0] 51)).setRow w5.heap.size cs2.toArray).setRow (w5.heap.size + 1) #[.int .i64 q1, .int .i64 q2, .slice Ae ne ce]) = w6 at *
    rintro e w7 ⟨rfl, hB7⟩
    have HB7 := Lib.hid (HB6.out.trans (hB7.mono HB6.out.size))
    have HE7 := Lib.hid (HE6.out.below hB7)
    clear hB7 HAl
    go_wp2_with fail
    refine (alive_is _ HE7.out).mono ?_
    rintro e w8 ⟨rfl, hB8⟩
    have HB8 := Lib.hid (HB7.out.trans (hB8.mono HB7.out.size))
    clear hB8
    go_wp2
    go_ret
    exact ⟨rfl, HB8.out⟩
  · have e3 : (cl == 3) = false := by simpa using hcl3
    have hr10 : r1 = 0 := HFacts.out.2.2.1 hcl3
    subst hr10
    have hle : cl ≤ d := HFacts.out.2.2.2.1 d rfl
    have hnl : ¬ d < cl := by omega
    have x0 : ((((w5.alloc (.cells #[Value.int .i64 0, .slice none 0 0, .bool false, .int .u32 0, .int .u32 0, .int .u32 0, .slice none 0 0, .slice none 0 0, .int .i64 0, .int .u32 0, .bool false, .int .u8 0, .int .u8 0, .int .u8 0, .int .u8 0, .int .u8 0, .int .u8 0, .int .u8 0, .int .u8 0, .int .u8 0, .int .u8 0, .int .u8 0, .int .u8 0, .int .u8 0, .int .u8 0, .int .u8 0, .int .u8 0] 49)).alloc (.cells #[.int .i64 0, .int .i64 0, .slice none 0 0] 51)).setRow w5.heap.size cs2.toArray).setRow (w5.heap.size + 1) #[.int .i64 q1, .int .i64 q2, .slice Ae ne ce]).cell? ⟨w1.heap.size + 1, 0, none⟩ = some (.int .i64 0) := HF6.out.cell 0
    clear HF6 HG6 HD6 HDu6 HFacts
    go_wp2_with (first
      | (refine att_store (o := ⟨_, .store 49 _ _, _, _, _, _⟩) rfl _ _ rfl w5.heap.size cs2 HCl2.out HC12.out rfl rfl 49 _ P1.out rfl ?_)
      | (refine f_store (o := ⟨_, .store 51 _ _, _, _, _, _⟩) rfl _ _ rfl (w5.heap.size + 1) q1 q2 Ae ne ce rfl rfl 51 _ P2.out rfl ?_))
    refine (alive_is _ HE6.out).mono ?_
    rintro e w8 ⟨rfl, hB8⟩
    have HB8 := Lib.hid (HB6.out.trans (hB8.mono HB6.out.size))
    clear hB8
    go_wp2
    go_ret
    exact ⟨rfl, HB8.out⟩
end Go.Proofs.YtiohgblinjignaaDoor
namespace Go.Proofs.YtiohgblinjignaaDoor.attrWorse
open Go.ChangeShapes Go.WideShapes Go.ChangeAt Go.RowKit
open Go.ChangeMaps (open_string shut_string)
set_option linter.unusedVariables false

theorem own : ownKnob Tryd.prog.godebug = none := by kernel_rfl
theorem laidOut : laidOutB Tryd.prog = true := by kernel_rfl

set_option maxRecDepth 100000 in
theorem lifted (os : Os) (started : os.Started) (H : Type) (enc : TypeId × Value → H) :
    ReturnsInHanded {} Tryd.checked os 8 .any (fun w args => (Rows.attrWorseSpec.pre enc Tryd.prog Tryd.f8 [] false w args ∧ laidMetH Tryd.prog laidK w) ∧ sizedMet enc Tryd.prog Tryd.f8 (OpenSpec.ofChange Rows.attrWorseSpec) false w args)
      (Rows.attrWorseSpec.post enc Tryd.prog Tryd.f8 false true false false) := by
  refine wrap_rows (C := Tryd.checked) (X := fun w _ => laidMetH Tryd.prog laidK w) (fun _ _ _ hh h => h.of_heap hh) own started (by kernel_rfl) Tryd.func8
    (ChangeSpec.witness_shaped (enc := enc) (C := Tryd.checked) (os := os) (X := fun w _ => laidMetH Tryd.prog laidK w) false (World.laidAll Tryd.prog os laidK) #[.slice none 0 0, .slice none 0 0] 8 (World.laidAll_os _ _ _)
      (World.shaped_of_ZipB (by kernel_rfl) (by kernel_rfl)) (by kernel_rfl) (by kernel_rfl) (by kernel_rfl)
      (by rw [MakeChecks.laidMetH_plain _ _ _ (by kernel_rfl)]; exact laidMet_laidAll _ (by kernel_rfl) (by kernel_rfl))) ?_
  intro W base args ds gs before hval0 hW hsz0 hL0 hshape
  have hval : ∀ (j : Nat) t v, Tryd.f8.params[j]? = some t → args[j]? = some v → Value.okWide Tryd.prog W .any base t v := hval0
  have hsz : (DataW.weightsEach Tryd.prog (Tryd.f8.params.toList ++ Rows.attrWorseSpec.plain.varTypes Tryd.prog) (ds ++ gs)).all (· ≤ reachBytes) = true := hsz0
  have hL : laidMetH Tryd.prog laidK W := hL0
  rw [MakeChecks.laidMetH_plain _ _ _ (by kernel_rfl)] at hL
  have E : EnvK W := envK_of hL
  have hW' := hW
  obtain ⟨p, q, hA0, hV, rfl, hfz, hnd⟩ := hW
  have hA : DataW.TrodAll enc Tryd.prog W 0 (fun _ => true) true Tryd.f8.params.toList args.toList ds p := hA0
  rw [Tryd.params8] at hA hval hsz
  obtain ⟨v0, vs0, d0, ds0, p0, q0, hargs, rfl, rfl, h0, r0⟩ := trodAll_cons hA
  obtain ⟨v1, vs1, d1, ds1, p1, q1, rfl, rfl, rfl, h1, r1⟩ := trodAll_cons r0
  obtain ⟨rfl, rfl, rfl⟩ := trodAll_nil r1
  obtain rfl : args = #[v0, v1] := by cases args; simp_all
  obtain ⟨rfl, rfl⟩ := trodVars_none hV
  obtain ⟨a0, len0, cap0, rfl⟩ := okWide_slice Tryd.underlying23 (hval 0 23 v0 rfl rfl)
  have lt0 : ∀ x ∈ p0, x.block < W.heap.size := by obtain ⟨m, hm⟩ := h0; exact DataW.trod_lt m _ _ _ hm
  obtain ⟨l0, rd0, sz0⟩ := open_raws Tryd.underlying23 Tryd.underlying32 (by kernel_rfl) (by kernel_rfl) Tryd.underlying3 Tryd.underlying3 Tryd.underlying22 Tryd.underlying5 (by kernel_rfl) (by kernel_rfl) (by kernel_rfl) h0 hsz (j := 0) rfl rfl
  obtain ⟨a1, len1, cap1, rfl⟩ := okWide_slice Tryd.underlying23 (hval 1 23 v1 rfl rfl)
  have lt1 : ∀ x ∈ p1, x.block < W.heap.size := by obtain ⟨m, hm⟩ := h1; exact DataW.trod_lt m _ _ _ hm
  obtain ⟨l1, rd1, sz1⟩ := open_raws Tryd.underlying23 Tryd.underlying32 (by kernel_rfl) (by kernel_rfl) Tryd.underlying3 Tryd.underlying3 Tryd.underlying22 Tryd.underlying5 (by kernel_rfl) (by kernel_rfl) (by kernel_rfl) h1 hsz (j := 1) rfl rfl
  clear hA0 hval0 hsz hsz0
  refine (attrWorse_walk W E a0 len0 cap0 l0 a1 len1 cap1 l1 rd0 sz0 rd1 sz1).mono fun e W' ⟨he, bel⟩ => ?_
  subst he
  exact ⟨_, rfl, _, _, _, [], _, [], hW', trodAll_mk1 (shut_bool Tryd.underlying4 _), (trodAll_cons_mk (Below.trod laidOut (by kernel_rfl) (of_decide_eq_true (by kernel_rfl)) h0 bel lt0) (trodAll_cons_mk (Below.trod laidOut (by kernel_rfl) (of_decide_eq_true (by kernel_rfl)) h1 bel lt1) trodAll_mk0)), rfl, bel.frame _, fun h => by cases h⟩

theorem over : Rows.attrWorseRow.holds Tryd.pinned (OpenSpec.ofChange Rows.attrWorseSpec) :=
  OpenClaim.holds_of_wide 8 Tryd.f8 rfl rfl rfl rfl rfl rfl rfl ⟨rfl, rfl, rfl, rfl, rfl⟩ rfl rfl rfl rfl rfl (by kernel_rfl) Tryd.func8 (by kernel_rfl)
    (of_decide_eq_true (by kernel_rfl)) (by unfold Func.isWrapper; first | (rw [if_pos (by decide +kernel)]; kernel_rfl) | (rw [if_neg (by decide +kernel)]; exact ⟨rfl, rfl⟩))
    (fun os started H enc _ => lifted os started H enc)

theorem proved : Rows.AttrWorseCardSaid :=
  Claim7.holds_tied_plain_at .later [] [.data] true Rows.attrWorseCard.stood.harness false
    over (fun _ h => by cases h) (by kernel_rfl) (fun _ h => by cases h) attrWorse_row_tie rfl ⟨rfl, rfl⟩ (by kernel_rfl) rfl
    (fun f fn hf hfn => by
      obtain rfl : f = 8 := Option.some.inj ((show Tryd.prog.funcNamed "weft/weftlaw05.AttrWorse" = some 8 by kernel_rfl).symm.trans hf) |>.symm
      obtain rfl : fn = Tryd.f8 := (Option.some.inj (Tryd.func8.symm.trans hfn)).symm
      exact ⟨by kernel_rfl, fun j t ht => by
        rw [Tryd.params8] at ht
        have hm : t ∈ [23, 23] := by simpa using Array.mem_of_getElem? ht
        have hall : ([23, 23].all fun u => !Tryd.prog.wantsStandIn u) = true := by kernel_rfl
        exact (show Tryd.prog.wantsStandIn t = false by simpa using List.all_eq_true.1 hall t hm)⟩)
    (by kernel_rfl)
#print axioms proved
end Go.Proofs.YtiohgblinjignaaDoor.attrWorse
