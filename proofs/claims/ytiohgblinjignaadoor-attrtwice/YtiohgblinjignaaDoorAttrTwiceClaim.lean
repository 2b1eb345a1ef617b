/-
  AttrTwice: for every input the law returns true, and each argument reads behind the call as it read before; the library's variables as the program's text lays them.
-/
import Derived.Test.YtiohgblinjignaaDoorMZ
import Derived.Test.YtiohgblinjignaaDoorMU
import Derived.Test.YtiohgblinjignaaDoorMR
import Derived.Test.YtiohgblinjignaaDoorTie
import Derived.Test.YtiohgblinjignaaDoorCards
import Derived.Test.YtiohgblinjignaaDoorMX
import Derived.Test.YtiohgblinjignaaDoorMW
import Derived.WalkKit
import Derived.OpenShut
import Derived.ShutString
import Derived.ChangeOld
import Derived.Below
import Derived.LaidOnce
import Derived.SevenTiedAt
namespace Go.Proofs.YtiohgblinjignaaDoor
open Go.RowKit
set_option maxRecDepth 100000
set_option linter.unusedSimpArgs false
set_option linter.unusedVariables false

theorem att_store {ops : Array Oper} {rest : List Oper} {o : Oper} {a : Act} {w : World} {Q : Exit → Act → World → Prop} (hgd : o.guard = none) (x y : Operand) (ho : o.op = .store 49 x y) (g : Nat) (cs : List Value) (hl : cs.length = 27) (h1 : ∀ v ∈ cs, v.oneCell' = true)
    (hx : a.eval x = .pointer (some ⟨g, 0, none⟩)) (hy : a.eval y = .agg cs.toArray) (t : TypeId) (old : Array Value) (hg : Blk w g t old) (hold : old.size = 27)
    (h : wpList Tryd.prog ops Q rest (a.put o.dst undef) (w.setRow g cs.toArray)) : wpList Tryd.prog ops Q (o :: rest) a w :=
  wpList_store_row hgd 49 x y ho g _ hx hy t old hg (by rw [asz]; simp [hl]) (by rw [hold]; simp [hl]) (all_oneCell_toArray h1) h
theorem IsAt.shape {lo : Nat} {w : World} {cs : List Value} {a : Att} (h : IsAt lo w cs a) : cs.length = 27 ∧ ∀ v ∈ cs, v.oneCell' = true := by
  obtain ⟨vp, vc, vm, rfl, h1, h2, h3⟩ := h.ex
  obtain ⟨_, _, e1, _⟩ := h1.rd
  obtain ⟨_, _, e2, _⟩ := h2.rd
  obtain ⟨_, _, e3, _⟩ := h3.rd
  exact ⟨attV_len _ _ _ _ h.ip, one_attV _ (by rw [e1]; rfl) (by rw [e2]; rfl) (by rw [e3]; rfl)⟩
/-- Behind a Read: its answers laid into variables. -/
structure Aft (w1 W : World) (r1 r2 : Int) (A : Option Addr) (n c : Nat) (data : List Int) (cs : List Value) : Prop where
  bel : Below w1.heap.size w1 W
  flt : Blk W (w1.heap.size + 1) 51 #[.int .i64 r1, .int .i64 r2, .slice A n c]
  att : Blk W w1.heap.size 49 cs.toArray
  size : W.heap.size = w1.heap.size + 1 + 1
theorem aft_of (w1 : World) (r1 r2 : Int) (A : Option Addr) (n c : Nat) (cs : List Value) (data : List Int) :
    Blk ((w1.alloc (.cells #[Value.int .i64 0, .slice none 0 0, .bool false, .int .u32 0, .int .u32 0, .int .u32 0, .slice none 0 0, .slice none 0 0, .int .i64 0, .int .u32 0, .bool false, .int .u8 0, .int .u8 0, .int .u8 0, .int .u8 0, .int .u8 0, .int .u8 0, .int .u8 0, .int .u8 0, .int .u8 0, .int .u8 0, .int .u8 0, .int .u8 0, .int .u8 0, .int .u8 0, .int .u8 0, .int .u8 0] 49)).alloc (.cells #[.int .i64 0, .int .i64 0, .slice none 0 0] 51)) w1.heap.size 49 #[Value.int .i64 0, .slice none 0 0, .bool false, .int .u32 0, .int .u32 0, .int .u32 0, .slice none 0 0, .slice none 0 0, .int .i64 0, .int .u32 0, .bool false, .int .u8 0, .int .u8 0, .int .u8 0, .int .u8 0, .int .u8 0, .int .u8 0, .int .u8 0, .int .u8 0, .int .u8 0, .int .u8 0, .int .u8 0, .int .u8 0, .int .u8 0, .int .u8 0, .int .u8 0, .int .u8 0] ∧ Blk (((w1.alloc (.cells #[Value.int .i64 0, .slice none 0 0, .bool false, .int .u32 0, .int .u32 0, .int .u32 0, .slice none 0 0, .slice none 0 0, .int .i64 0, .int .u32 0, .bool false, .int .u8 0, .int .u8 0, .int .u8 0, .int .u8 0, .int .u8 0, .int .u8 0, .int .u8 0, .int .u8 0, .int .u8 0, .int .u8 0, .int .u8 0, .int .u8 0, .int .u8 0, .int .u8 0, .int .u8 0, .int .u8 0] 49)).alloc (.cells #[.int .i64 0, .int .i64 0, .slice none 0 0] 51)).setRow w1.heap.size cs.toArray) (w1.heap.size + 1) 51 #[.int .i64 0, .int .i64 0, .slice none 0 0] ∧
      Aft w1 ((((w1.alloc (.cells #[Value.int .i64 0, .slice none 0 0, .bool false, .int .u32 0, .int .u32 0, .int .u32 0, .slice none 0 0, .slice none 0 0, .int .i64 0, .int .u32 0, .bool false, .int .u8 0, .int .u8 0, .int .u8 0, .int .u8 0, .int .u8 0, .int .u8 0, .int .u8 0, .int .u8 0, .int .u8 0, .int .u8 0, .int .u8 0, .int .u8 0, .int .u8 0, .int .u8 0, .int .u8 0, .int .u8 0] 49)).alloc (.cells #[.int .i64 0, .int .i64 0, .slice none 0 0] 51)).setRow w1.heap.size cs.toArray).setRow (w1.heap.size + 1) #[.int .i64 r1, .int .i64 r2, .slice A n c]) r1 r2 A n c data cs := by
  have h1 := (Blk.new w1 49 #[Value.int .i64 0, .slice none 0 0, .bool false, .int .u32 0, .int .u32 0, .int .u32 0, .slice none 0 0, .slice none 0 0, .int .i64 0, .int .u32 0, .bool false, .int .u8 0, .int .u8 0, .int .u8 0, .int .u8 0, .int .u8 0, .int .u8 0, .int .u8 0, .int .u8 0, .int .u8 0, .int .u8 0, .int .u8 0, .int .u8 0, .int .u8 0, .int .u8 0, .int .u8 0, .int .u8 0]).alloc (.cells #[.int .i64 0, .int .i64 0, .slice none 0 0] 51)
  have h2 : Blk ((w1.alloc (.cells #[Value.int .i64 0, .slice none 0 0, .bool false, .int .u32 0, .int .u32 0, .int .u32 0, .slice none 0 0, .slice none 0 0, .int .i64 0, .int .u32 0, .bool false, .int .u8 0, .int .u8 0, .int .u8 0, .int .u8 0, .int .u8 0, .int .u8 0, .int .u8 0, .int .u8 0, .int .u8 0, .int .u8 0, .int .u8 0, .int .u8 0, .int .u8 0, .int .u8 0, .int .u8 0, .int .u8 0] 49)).alloc (.cells #[.int .i64 0, .int .i64 0, .slice none 0 0] 51)) (w1.heap.size + 1) 51 #[.int .i64 0, .int .i64 0, .slice none 0 0] := by
    have := Blk.new (w1.alloc (.cells #[Value.int .i64 0, .slice none 0 0, .bool false, .int .u32 0, .int .u32 0, .int .u32 0, .slice none 0 0, .slice none 0 0, .int .i64 0, .int .u32 0, .bool false, .int .u8 0, .int .u8 0, .int .u8 0, .int .u8 0, .int .u8 0, .int .u8 0, .int .u8 0, .int .u8 0, .int .u8 0, .int .u8 0, .int .u8 0, .int .u8 0, .int .u8 0, .int .u8 0, .int .u8 0, .int .u8 0] 49)) 51 #[.int .i64 0, .int .i64 0, .slice none 0 0]
    simpa using this
  have h3 := h2.row_other (g' := w1.heap.size) (by omega) cs.toArray
  have hb : Below w1.heap.size w1 ((w1.alloc (.cells #[Value.int .i64 0, .slice none 0 0, .bool false, .int .u32 0, .int .u32 0, .int .u32 0, .slice none 0 0, .slice none 0 0, .int .i64 0, .int .u32 0, .bool false, .int .u8 0, .int .u8 0, .int .u8 0, .int .u8 0, .int .u8 0, .int .u8 0, .int .u8 0, .int .u8 0, .int .u8 0, .int .u8 0, .int .u8 0, .int .u8 0, .int .u8 0, .int .u8 0, .int .u8 0, .int .u8 0] 49)).alloc (.cells #[.int .i64 0, .int .i64 0, .slice none 0 0] 51)) := ((Below.refl _ _).alloc (Nat.le_refl _) _).alloc (by simp) _
  refine ⟨h1, h3, (hb.trans (below_setRow _ _ _ (Nat.le_refl _))).trans (below_setRow _ _ _ (by omega)), Blk.setRow h3 _, (Blk.setRow h1 _).row_other (by omega) _, by simp⟩

set_option maxHeartbeats 4000000 in
theorem attrWorse_walk (w : World) (E : EnvK w) (A : Option Addr) (n c : Nat) (rs : List Raw) (A2 : Option Addr) (n2 c2 : Nat) (ms : List Raw) (hr : RdR w w.heap.size A n rs ∧ n ≤ c) (hv : n ≤ 140737488351232 ∧ ∀ r ∈ rs, r.2.2.length ≤ 140737488351232)
    (hr2 : RdR w w.heap.size A2 n2 ms ∧ n2 ≤ c2) (hv2 : n2 ≤ 140737488351232 ∧ ∀ r ∈ ms, r.2.2.length ≤ 140737488351232) :
    Calls Tryd.prog 8 #[.slice A n c, .slice A2 n2 c2] w fun e w' => e = .returned (.bool true) ∧ Below w.heap.size w w' := by
  have HR := Lib.hid hr.1
  have HR2 := Lib.hid hr2.1
  have HV := Lib.hid hv.2
  have HV2 := Lib.hid hv2.2
  have HE := Lib.hid E
  have hn := hv.1
  have hn2 := hv2.1
  have HLn := Lib.hid hr.1.len
  have HLn2 := Lib.hid hr2.1.len
  clear hr hr2 hv hv2 E
  by_cases hm1 : 300 < n
  · have hmost' : (300 : Int) < n := by omega
    go_enter Tryd.func8, Tryd.ntmps8
    go_wp2_with fail
    refine (alive_is _ HE.out).mono ?_
    rintro e w1 ⟨rfl, hB⟩
    have HB := Lib.hid hB
    clear hB
    go_wp2
    go_ret
    exact ⟨rfl, HB.out⟩
  have hm1' : ¬ (300 : Int) < n := by omega
  by_cases hm2 : 300 < n2
  · have hmost' : (300 : Int) < n2 := by omega
    go_enter Tryd.func8, Tryd.ntmps8
    go_wp2_with fail
    refine (alive_is _ HE.out).mono ?_
    rintro e w1 ⟨rfl, hB⟩
    have HB := Lib.hid hB
    clear hB
    go_wp2
    go_ret
    exact ⟨rfl, HB.out⟩
  have hm2' : ¬ (300 : Int) < n2 := by omega
  go_enter Tryd.func8, Tryd.ntmps8
  go_wp2_with fail
  refine (Read_is w HE.out A n c rs HR.out (by omega) HV.out).mono ?_
  rintro e w1 ⟨cs, Ad, nd, cd, rfl, hat, hod, hB1⟩
  obtain ⟨hcl, hc1⟩ := hat.shape
  obtain ⟨k1, k2, ka⟩ := aft_of w1 (readM rs).2.2.1 (readM rs).2.2.2.1 Ad nd cd cs (readM rs).2.2.2.2
  have HWo := Lib.hid (worse rs ms)
  have HCl := Lib.hid hcl
  have HC1 := Lib.hid hc1
  have K1 := Lib.hid k1
  have K2 := Lib.hid k2
  have HB1 := Lib.hid hB1
  have hz1 := hB1.size
  have HOd := Lib.hid hod
  have HKa := Lib.hid ka
  have HOv : Hid (OwnV w.heap.size (w1.heap.size + 1 + 1) (((((w1.alloc (.cells #[Value.int .i64 0, .slice none 0 0, .bool false, .int .u32 0, .int .u32 0, .int .u32 0, .slice none 0 0, .slice none 0 0, .int .i64 0, .int .u32 0, .bool false, .int .u8 0, .int .u8 0, .int .u8 0, .int .u8 0, .int .u8 0, .int .u8 0, .int .u8 0, .int .u8 0, .int .u8 0, .int .u8 0, .int .u8 0, .int .u8 0, .int .u8 0, .int .u8 0, .int .u8 0, .int .u8 0] 49)).alloc (.cells #[.int .i64 0, .int .i64 0, .slice none 0 0] 51)).setRow w1.heap.size cs.toArray).setRow (w1.heap.size + 1) #[.int .i64 (readM rs).2.2.1, .int .i64 (readM rs).2.2.2.1, .slice Ad nd cd]).alloc (.cells #[] 32)) (.slice (some ⟨w1.heap.size + 1 + 1, 0, none⟩) 0 0) []) := Lib.hid (OwnV.nil_ _ _ _ (by omega) _ 0 (Nat.le_refl _) (by
    have := Blk.new ((((w1.alloc (.cells #[Value.int .i64 0, .slice none 0 0, .bool false, .int .u32 0, .int .u32 0, .int .u32 0, .slice none 0 0, .slice none 0 0, .int .i64 0, .int .u32 0, .bool false, .int .u8 0, .int .u8 0, .int .u8 0, .int .u8 0, .int .u8 0, .int .u8 0, .int .u8 0, .int .u8 0, .int .u8 0, .int .u8 0, .int .u8 0, .int .u8 0, .int .u8 0, .int .u8 0, .int .u8 0, .int .u8 0] 49)).alloc (.cells #[.int .i64 0, .int .i64 0, .slice none 0 0] 51)).setRow w1.heap.size cs.toArray).setRow (w1.heap.size + 1) #[.int .i64 (readM rs).2.2.1, .int .i64 (readM rs).2.2.2.1, .slice Ad nd cd]) 32 #[]
    rw [ka.size] at this
    exact this))
  have hsv : w1.heap.size + 1 + 1 ≤ (((((w1.alloc (.cells #[Value.int .i64 0, .slice none 0 0, .bool false, .int .u32 0, .int .u32 0, .int .u32 0, .slice none 0 0, .slice none 0 0, .int .i64 0, .int .u32 0, .bool false, .int .u8 0, .int .u8 0, .int .u8 0, .int .u8 0, .int .u8 0, .int .u8 0, .int .u8 0, .int .u8 0, .int .u8 0, .int .u8 0, .int .u8 0, .int .u8 0, .int .u8 0, .int .u8 0, .int .u8 0, .int .u8 0] 49)).alloc (.cells #[.int .i64 0, .int .i64 0, .slice none 0 0] 51)).setRow w1.heap.size cs.toArray).setRow (w1.heap.size + 1) #[.int .i64 (readM rs).2.2.1, .int .i64 (readM rs).2.2.2.1, .slice Ad nd cd]).alloc (.cells #[] 32)).heap.size := by simp
  have hBv : Below w.heap.size w (((((w1.alloc (.cells #[Value.int .i64 0, .slice none 0 0, .bool false, .int .u32 0, .int .u32 0, .int .u32 0, .slice none 0 0, .slice none 0 0, .int .i64 0, .int .u32 0, .bool false, .int .u8 0, .int .u8 0, .int .u8 0, .int .u8 0, .int .u8 0, .int .u8 0, .int .u8 0, .int .u8 0, .int .u8 0, .int .u8 0, .int .u8 0, .int .u8 0, .int .u8 0, .int .u8 0, .int .u8 0, .int .u8 0] 49)).alloc (.cells #[.int .i64 0, .int .i64 0, .slice none 0 0] 51)).setRow w1.heap.size cs.toArray).setRow (w1.heap.size + 1) #[.int .i64 (readM rs).2.2.1, .int .i64 (readM rs).2.2.2.1, .slice Ad nd cd]).alloc (.cells #[] 32)) := ((hB1.trans (ka.bel.mono hz1))).alloc (by rw [ka.size]; omega) _
  have HBv := Lib.hid hBv
  have HFv : Hid (Blk (((((w1.alloc (.cells #[Value.int .i64 0, .slice none 0 0, .bool false, .int .u32 0, .int .u32 0, .int .u32 0, .slice none 0 0, .slice none 0 0, .int .i64 0, .int .u32 0, .bool false, .int .u8 0, .int .u8 0, .int .u8 0, .int .u8 0, .int .u8 0, .int .u8 0, .int .u8 0, .int .u8 0, .int .u8 0, .int .u8 0, .int .u8 0, .int .u8 0, .int .u8 0, .int .u8 0, .int .u8 0, .int .u8 0] 49)).alloc (.cells #[.int .i64 0, .int .i64 0, .slice none 0 0] 51)).setRow w1.heap.size cs.toArray).setRow (w1.heap.size + 1) #[.int .i64 (readM rs).2.2.1, .int .i64 (readM rs).2.2.2.1, .slice Ad nd cd]).alloc (.cells #[] 32)) (w1.heap.size + 1) 51 #[.int .i64 (readM rs).2.2.1, .int .i64 (readM rs).2.2.2.1, .slice Ad nd cd]) := Lib.hid (ka.flt.alloc _)
  have hrd1 : Rd w1 w1.heap.size Ad nd (readM rs).2.2.2.2 := by
    obtain ⟨A', c', e1, _, hrq, _⟩ := hod.at_
    injection e1 with e1 e2 e3
    subst e1 e3
    rw [← e2] at hrq
    exact hrq
  have HOdv : Hid (Rd (((((w1.alloc (.cells #[Value.int .i64 0, .slice none 0 0, .bool false, .int .u32 0, .int .u32 0, .int .u32 0, .slice none 0 0, .slice none 0 0, .int .i64 0, .int .u32 0, .bool false, .int .u8 0, .int .u8 0, .int .u8 0, .int .u8 0, .int .u8 0, .int .u8 0, .int .u8 0, .int .u8 0, .int .u8 0, .int .u8 0, .int .u8 0, .int .u8 0, .int .u8 0, .int .u8 0, .int .u8 0, .int .u8 0] 49)).alloc (.cells #[.int .i64 0, .int .i64 0, .slice none 0 0] 51)).setRow w1.heap.size cs.toArray).setRow (w1.heap.size + 1) #[.int .i64 (readM rs).2.2.1, .int .i64 (readM rs).2.2.2.1, .slice Ad nd cd]).alloc (.cells #[] 32)) w1.heap.size Ad nd (readM rs).2.2.2.2) := Lib.hid ((hrd1.below ka.bel).below ((Below.refl _ _).alloc (by rw [ka.size]; omega) _))
  have HSv := Lib.hid hsv
  have HRv := Lib.hid (HR.out.below hBv)
  clear hcl hc1 k1 k2 ka hB1 hod hat hsv hBv hrd1
  obtain ⟨cl, hcl⟩ : ∃ x, x = (readM rs).2.1 := ⟨_, rfl⟩
  obtain ⟨r1, hr1⟩ : ∃ x, x = (readM rs).2.2.1 := ⟨_, rfl⟩
  obtain ⟨r2, hr2⟩ : ∃ x, x = (readM rs).2.2.2.1 := ⟨_, rfl⟩
  obtain ⟨dt, hdt⟩ : ∃ x, x = (readM rs).2.2.2.2 := ⟨_, rfl⟩
  have HFacts : Hid (0 ≤ cl ∧ cl ≤ 3 ∧ (cl ≠ 3 → r1 = 0) ∧ (∀ d, d = (readM (rs ++ ms)).2.1 → cl ≤ d) ∧ (cl = 3 → (readM (rs ++ ms)).2.1 = 3 ∧ (readM (rs ++ ms)).2.2.1 = r1 ∧ (readM (rs ++ ms)).2.2.2.1 = r2 ∧ (readM (rs ++ ms)).2.2.2.2 = dt)) := Lib.hid (by
    obtain ⟨q1, q2, q3, q4, q5⟩ := HWo.out
    rw [hcl, hr1, hr2, hdt]
    exact ⟨q2, q3, fun h => by rw [q5 h], fun d hd => by rw [hd]; exact q1, fun h => by rw [q4 h]; exact ⟨h, rfl, rfl, rfl⟩⟩)
  rw [← hr1, ← hr2] at HOv HBv HFv HSv HRv HKa
  rw [← hr1, ← hr2, ← hdt] at HOdv
  rw [← hcl, ← hr1, ← hr2]
  clear hcl hr1 hr2 hdt HWo HOd HKa
  go_wp2_with (first
    | (refine att_store (o := ⟨_, .store 49 _ _, _, _, _, _⟩) rfl _ _ rfl w1.heap.size cs HCl.out HC1.out rfl rfl 49 _ K1.out rfl ?_)
    | (refine f_store (o := ⟨_, .store 51 _ _, _, _, _, _⟩) rfl _ _ rfl (w1.heap.size + 1) r1 r2 Ad nd cd rfl rfl 51 _ K2.out rfl ?_)
    | (at_builtin; refine app_raws rfl _ _ rfl HOv.out HSv.out HRv.out (by simp; omega) rfl rfl ?_))
  generalize (((((w1.alloc (.cells #[Value.int .i64 0, .slice none 0 0, .bool false, .int .u32 0, .int .u32 0, .int .u32 0, .slice none 0 0, .slice none 0 0, .int .i64 0, .int .u32 0, .bool false, .int .u8 0, .int .u8 0, .int .u8 0, .int .u8 0, .int .u8 0, .int .u8 0, .int .u8 0, .int .u8 0, .int .u8 0, .int .u8 0, .int .u8 0, .int .u8 0, .int .u8 0, .int .u8 0, .int .u8 0, .int .u8 0] 49)).alloc (.cells #[.int .i64 0, .int .i64 0, .slice none 0 0] 51)).setRow w1.heap.size cs.toArray).setRow (w1.heap.size + 1) #[.int .i64 r1, .int .i64 r2, .slice Ad nd cd]).alloc (.cells #[] 32)) = w2 at *
  intro v3 w3 hov3 hb3
  have hz2 := HSv.out
  have hBw3 : Below w.heap.size w w3 := HBv.out.trans (hb3.mono (by omega))
  have HOv3 : Hid (OwnV w.heap.size (w1.heap.size + 1 + 1) w3 v3 rs) := Lib.hid hov3
  have HF3 : Hid (Blk w3 (w1.heap.size + 1) 51 #[.int .i64 r1, .int .i64 r2, .slice Ad nd cd]) := Lib.hid (HFv.out.below hb3 (by omega))
  have HD3 : Hid (Rd w3 w1.heap.size Ad nd dt) := Lib.hid (HOdv.out.below (hb3.mono (by omega)))
  have HS3 : Hid (w1.heap.size + 1 + 1 ≤ w3.heap.size) := Lib.hid (Nat.le_trans hz2 hb3.size)
  have HB3 := Lib.hid hBw3
  have HR3 := Lib.hid (HR2.out.below hBw3)
  clear hov3 hb3 hz2 hBw3 HOv HBv HFv HOdv HRv HSv K1 K2
  go_wp2_with (at_builtin; refine app_raws rfl _ _ rfl HOv3.out HS3.out HR3.out (by rw [HLn.out]; omega) rfl rfl ?_)
  intro v4 w4 hov4 hb4
  have hs4 : w1.heap.size + 1 + 1 ≤ w4.heap.size := Nat.le_trans HS3.out hb4.size
  obtain ⟨A4, c4, rfl, hr4⟩ := hov4.rd hs4
  have HR4 := Lib.hid hr4
  have HB4 : Hid (Below w.heap.size w w4) := Lib.hid (HB3.out.trans (hb4.mono (by omega)))
  have HF4 : Hid (Blk w4 (w1.heap.size + 1) 51 #[.int .i64 r1, .int .i64 r2, .slice Ad nd cd]) := Lib.hid (HF3.out.below hb4 (by omega))
  have HD4 : Hid (Rd w4 w1.heap.size Ad nd dt) := Lib.hid (HD3.out.below (hb4.mono (by omega)))
  have HE4 : Hid (EnvK w4) := Lib.hid (HE.out.below HB4.out)
  have HS4 := Lib.hid hs4
  have HL4 : Hid ((rs ++ ms).length ≤ 1048576) := Lib.hid (by rw [List.length_append, HLn.out, HLn2.out]; omega)
  have HV4 : Hid (∀ r ∈ rs ++ ms, r.2.2.length ≤ 140737488351232) := Lib.hid fun r hr => (List.mem_append.1 hr).elim (HV.out r) (HV2.out r)
  have HRd4 := Lib.hid (Read_is w4 HE4.out A4 _ c4 (rs ++ ms) HR4.out HL4.out HV4.out)
  clear hov4 hb4 hs4 hr4 HOv3 HS3 HR3 HF3 HD3 HB3
  generalize rs ++ ms = al at *
  go_wp2_with fail
  refine HRd4.out.mono ?_
  rintro e w5 ⟨cs2, Ae, ne, ce, rfl, hat, hod, hB5⟩
  obtain ⟨hcl2, hc12⟩ := hat.shape
  obtain ⟨p1, p2, pa⟩ := aft_of w5 (readM al).2.2.1 (readM al).2.2.2.1 Ae ne ce cs2 (readM al).2.2.2.2
  have hrd5 : Rd w5 w5.heap.size Ae ne (readM al).2.2.2.2 := by
    obtain ⟨A', c', e1, _, hrq, _⟩ := hod.at_
    injection e1 with e1 e2 e3
    subst e1 e3
    rw [← e2] at hrq
    exact hrq
  have HCl2 := Lib.hid hcl2
  have HC12 := Lib.hid hc12
  have P1 := Lib.hid p1
  have P2 := Lib.hid p2
  have PA := Lib.hid pa
  have HRd5 := Lib.hid hrd5
  have HB5 := Lib.hid hB5
  clear hcl2 hc12 p1 p2 pa hrd5 hB5 hat hod HRd4 HR4 HL4 HV4
  obtain ⟨d, hd⟩ : ∃ x, x = (readM al).2.1 := ⟨_, rfl⟩
  obtain ⟨q1, hq1⟩ : ∃ x, x = (readM al).2.2.1 := ⟨_, rfl⟩
  obtain ⟨q2, hq2⟩ : ∃ x, x = (readM al).2.2.2.1 := ⟨_, rfl⟩
  obtain ⟨du, hdu⟩ : ∃ x, x = (readM al).2.2.2.2 := ⟨_, rfl⟩
  rw [← hd, ← hq1, ← hq2, ← hdu] at HFacts
  rw [← hq1, ← hq2] at PA
  rw [← hdu] at PA HRd5
  rw [← hd, ← hq1, ← hq2]
  clear hd hq1 hq2 hdu
  have hF6 : Blk ((((w5.alloc (.cells #[Value.int .i64 0, .slice none 0 0, .bool false, .int .u32 0, .int .u32 0, .int .u32 0, .slice none 0 0, .slice none 0 0, .int .i64 0, .int .u32 0, .bool false, .int .u8 0, .int .u8 0, .int .u8 0, .int .u8 0, .int .u8 0, .int .u8 0, .int .u8 0, .int .u8 0, .int .u8 0, .int .u8 0, .int .u8 0, .int .u8 0, .int .u8 0, .int .u8 0, .int .u8 0, .int .u8 0] 49)).alloc (.cells #[.int .i64 0, .int .i64 0, .slice none 0 0] 51)).setRow w5.heap.size cs2.toArray).setRow (w5.heap.size + 1) #[.int .i64 q1, .int .i64 q2, .slice Ae ne ce]) (w1.heap.size + 1) 51 #[.int .i64 r1, .int .i64 r2, .slice Ad nd cd] := (HF4.out.below HB5.out HF4.out.lt).below PA.out.bel (by have := HF4.out.lt; have := HB5.out.size; omega)
  have hD6 : Rd ((((w5.alloc (.cells #[Value.int .i64 0, .slice none 0 0, .bool false, .int .u32 0, .int .u32 0, .int .u32 0, .slice none 0 0, .slice none 0 0, .int .i64 0, .int .u32 0, .bool false, .int .u8 0, .int .u8 0, .int .u8 0, .int .u8 0, .int .u8 0, .int .u8 0, .int .u8 0, .int .u8 0, .int .u8 0, .int .u8 0, .int .u8 0, .int .u8 0, .int .u8 0, .int .u8 0, .int .u8 0, .int .u8 0] 49)).alloc (.cells #[.int .i64 0, .int .i64 0, .slice none 0 0] 51)).setRow w5.heap.size cs2.toArray).setRow (w5.heap.size + 1) #[.int .i64 q1, .int .i64 q2, .slice Ae ne ce]) w1.heap.size Ad nd dt := (HD4.out.below (HB5.out.mono (by have := HS4.out; omega))).below (PA.out.bel.mono (by have := HS4.out; have := HB5.out.size; omega))
  have hB6 : Below w.heap.size w ((((w5.alloc (.cells #[Value.int .i64 0, .slice none 0 0, .bool false, .int .u32 0, .int .u32 0, .int .u32 0, .slice none 0 0, .slice none 0 0, .int .i64 0, .int .u32 0, .bool false, .int .u8 0, .int .u8 0, .int .u8 0, .int .u8 0, .int .u8 0, .int .u8 0, .int .u8 0, .int .u8 0, .int .u8 0, .int .u8 0, .int .u8 0, .int .u8 0, .int .u8 0, .int .u8 0, .int .u8 0, .int .u8 0] 49)).alloc (.cells #[.int .i64 0, .int .i64 0, .slice none 0 0] 51)).setRow w5.heap.size cs2.toArray).setRow (w5.heap.size + 1) #[.int .i64 q1, .int .i64 q2, .slice Ae ne ce]) := (HB4.out.trans (HB5.out.mono HB4.out.size)).trans (PA.out.bel.mono (by have := HB4.out.size; have := HB5.out.size; omega))
  have HF6 := Lib.hid hF6
  have HD6 := Lib.hid hD6
  have HB6 := Lib.hid hB6
  have HE6 : Hid (EnvK _) := Lib.hid (HE.out.below hB6)
  have HG6 := Lib.hid PA.out.flt
  have HDu6 := Lib.hid (HRd5.out.below PA.out.bel)
  have HZ6 := Lib.hid PA.out.size
  have HL16 : Hid (w1.heap.size ≤ w5.heap.size) := Lib.hid (by have := HS4.out; have := HB5.out.size; omega)
  clear hF6 hD6 hB6 HF4 HD4 HB4 HE4 HB5 PA HRd5 HS4
  by_cases hcl3 : cl = 3
  · subst hcl3
    obtain ⟨hd3, hq1, hq2, hdu⟩ := HFacts.out.2.2.2.2 (by first | rfl | trivial)
    subst hd3 hq1 hq2 hdu
    have HRa := Lib.hid (Blk.range (cs := [.int .i64 q1, .int .i64 q2, .slice Ad nd cd]) HF6.out)
    have HRb := Lib.hid (Blk.range (cs := [.int .i64 q1, .int .i64 q2, .slice Ae ne ce]) HG6.out)
    have HAl := Lib.hid (alike_is _ q1 q2 Ad Ae nd ne cd ce du (HD6.out.more (by have := HZ6.out; have := HL16.out; omega)) (HDu6.out.more (by have := HZ6.out; omega)))
    clear HF6 HG6 HD6 HDu6 HFacts
    go_wp2_with (first
      | (refine att_store (o := ⟨_, .store 49 _ _, _, _, _, _⟩) rfl _ _ rfl w5.heap.size cs2 HCl2.out HC12.out rfl rfl 49 _ P1.out rfl ?_)
      | (refine f_store (o := ⟨_, .store 51 _ _, _, _, _, _⟩) rfl _ _ rfl (w5.heap.size + 1) q1 q2 Ae ne ce rfl rfl 51 _ P2.out rfl ?_)
      | (refine f_fetch (op := ⟨_, .load 51 (.tmp 7), _, _, _, _⟩) rfl _ rfl (w1.heap.size + 1) 0 q1 q2 Ad nd cd rfl HRa.out ?_)
      | (refine f_fetch (op := ⟨_, .load 51 (.tmp 11), _, _, _, _⟩) rfl _ rfl (w5.heap.size + 1) 0 q1 q2 Ae ne ce rfl HRb.out ?_))
    refine HAl.out.mono ?_
    generalize ((((w5.alloc (.cells #[Value.int .i64 0, .slice none 0 0, .bool false, .int .u32 0, .int .u32 0, .int .u32 0, .slice none 0 0, .slice none 0 0, .int .i64 0, .int .u32 0, .bool false, .int .u8 0, .int .u8 0, .int .u8 0, .int .u8 0, .int .u8 0, .int .u8 0, .int .u8 0, .int .u8 0, .int .u8 0, .int .u8 0, .int .u8 0, .int .u8 0, .int .u8 0, .int .u8 0, .int .u8 0, .int .u8 0] 49)).alloc (.cells #[.int .i64 0, .int .i64 0, .slice none 0 0] 51)).setRow w5.heap.size cs2.toArray).setRow (w5.heap.size + 1) #[.int .i64 q1, .int .i64 q2, .slice Ae ne ce]) = w6 at *
    rintro e w7 ⟨rfl, hB7⟩
    have HB7 := Lib.hid (HB6.out.trans (hB7.mono HB6.out.size))
    have HE7 := Lib.hid (HE6.out.below hB7)
    clear hB7 HAl
    go_wp2_with fail
    refine (alive_is _ HE7.out).mono ?_
    rintro e w8 ⟨rfl, hB8⟩
    have HB8 := Lib.hid (HB7.out.trans (hB8.mono HB7.out.size))
    clear hB8
    go_wp2
    go_ret
    exact ⟨rfl, HB8.out⟩
  · have e3 : (cl == 3) = false := by simpa using hcl3
    have hr10 : r1 = 0 := HFacts.out.2.2.1 hcl3
    subst hr10
    have hle : cl ≤ d := HFacts.out.2.2.2.1 d rfl
    have hnl : ¬ d < cl := by omega
    have x0 : ((((w5.alloc (.cells #[Value.int .i64 0, .slice none 0 0, .bool false, .int .u32 0, .int .u32 0, .int .u32 0, .slice none 0 0, .slice none 0 0, .int .i64 0, .int .u32 0, .bool false, .int .u8 0, .int .u8 0, .int .u8 0, .int .u8 0, .int .u8 0, .int .u8 0, .int .u8 0, .int .u8 0, .int .u8 0, .int .u8 0, .int .u8 0, .int .u8 0, .int .u8 0, .int .u8 0, .int .u8 0, .int .u8 0] 49)).alloc (.cells #[.int .i64 0, .int .i64 0, .slice none 0 0] 51)).setRow w5.heap.size cs2.toArray).setRow (w5.heap.size + 1) #[.int .i64 q1, .int .i64 q2, .slice Ae ne ce]).cell? ⟨w1.heap.size + 1, 0, none⟩ = some (.int .i64 0) := HF6.out.cell 0
    clear HF6 HG6 HD6 HDu6 HFacts
    go_wp2_with (first
      | (refine att_store (o := ⟨_, .store 49 _ _, _, _, _, _⟩) rfl _ _ rfl w5.heap.size cs2 HCl2.out HC12.out rfl rfl 49 _ P1.out rfl ?_)
      | (refine f_store (o := ⟨_, .store 51 _ _, _, _, _, _⟩) rfl _ _ rfl (w5.heap.size + 1) q1 q2 Ae ne ce rfl rfl 51 _ P2.out rfl ?_))
    refine (alive_is _ HE6.out).mono ?_
    rintro e w8 ⟨rfl, hB8⟩
    have HB8 := Lib.hid (HB6.out.trans (hB8.mono HB6.out.size))
    clear hB8
    go_wp2
    go_ret
    exact ⟨rfl, HB8.out⟩
end Go.Proofs.YtiohgblinjignaaDoor
namespace Go.Proofs.YtiohgblinjignaaDoor
open Go.RowKit
set_option maxRecDepth 100000
set_option linter.unusedSimpArgs false
set_option linter.unusedVariables false

section
variable {P : Program} {ops : Array Oper} {Q : Exit → Act → World → Prop}
theorem wpOp_calls {i : Nat} {o : Oper} {K : Act → World → Prop} {a : Act} {w : World} (ho : ops[i]? = some o) (hg : o.guard = none) (f : FuncId) (vs : Array Value) (h : (execOp a.eval o).run P w = .ok (.enter f vs) w) {post : Ending → World → Prop}
    (hc : Calls P f vs w post) (hk : ∀ e w', post e w' → ∃ R, e = .returned R ∧ K (a.put o.dst R) w') : wpOp P ops Q i K a w := by
  unfold wpOp
  rw [ho]
  have hw : Region.wanted o (yielded ops a.tmps) = true := by unfold Region.wanted; rw [hg]
  simp only [hw, if_true]
  refine Or.inl ?_
  unfold Oper.wp
  rw [h]
  exact hc.mono (fun e w' he => by obtain ⟨R, rfl, hR⟩ := hk e w' he; exact hR)
theorem wpOp_app {i : Nat} {o : Oper} {K : Act → World → Prop} {a : Act} {w : World} (ho : ops[i]? = some o) (hg : o.guard = none) (s x : Operand) (t1 t2 : TypeId)
    (hop : o.op = .call { callee := .builtin .append, args := #[s, x], argTypes := #[t1, t2] }) (v y : Value) (hs : a.eval s = v) (hx : a.eval x = y) (v' : Value) (w' : World) (hrun : (Builtin.append_ #[t1, t2] o.type #[v, y]).run P w = .ok v' w')
    (hk : K (a.put o.dst v') w') : wpOp P ops Q i K a w := by
  refine wpOp_wp ho hg ?_
  unfold Oper.wp execOp
  simp only [hop, resolve, invoke, builtin, Sem.run_bind, Sem.run_pure, Result.andThen_ok, List.map_toArray, List.map_cons, List.map_nil, hs, hx, hrun]
  exact hk
theorem wpOp_row {i : Nat} {o : Oper} {K : Act → World → Prop} {a : Act} {w : World} (hi : ops[i]? = some o) (hgd : o.guard = none) (ty : TypeId) (x y : Operand) (ho : o.op = .store ty x y) (g : Nat) (cells : Array Value)
    (hx : a.eval x = .pointer (some ⟨g, 0, none⟩)) (hy : a.eval y = .agg cells) (t : TypeId) (old : Array Value) (hg : Blk w g t old) (hz : (P.info? ty).map (·.size) = some cells.size) (hold : old.size = cells.size) (h1 : cells.all (·.oneCell') = true)
    (h : K (a.put o.dst undef) (w.setRow g cells)) : wpOp P ops Q i K a w := wpOp_wp hi hgd (wp_store_row ty x y ho g cells hx hy t old hg hz hold h1 h)
end

/-- append of attributes that are read, as a run. -/
theorem run_app_raws {B lo : Nat} {w : World} {v : Value} {P : List Raw} (h : OwnV B lo w v P) (hlo : lo ≤ w.heap.size) {A : Option Addr} {m c : Nat} {news : List Raw} (hr : RdR w B A m news) (hm : 0 < m) (hlen : P.length + m ≤ 1000000) (ty : TypeId) :
    ∃ v' w', (Builtin.append_ #[23, 23] ty #[v, .slice A m c]).run Tryd.prog w = .ok v' w' ∧ OwnV B lo w' v' (P ++ news) ∧ Below lo w w' ∧ w.grownBy w' v.ownBlock ∧ ∀ i, v.ownBlock = some i → lo ≤ i ∧ ∃ c, w.heap[i]? = some (.cells c 32 (0, 0)) := by
  obtain ⟨i, hi, hz0, hz1, hz2⟩ := info_parts info_raw
  have hlm := hr.len
  obtain ⟨cs, h1, h2, h3⟩ := h.ex
  obtain ⟨b, off, ds, rfl, hbB, k1, k2, k3⟩ := hr.cells hm
  obtain ⟨v', w', hrun, hown, hgr, _, _⟩ := run_append_own_at (P := Tryd.prog) w lo 23 ty 32 i _ 3 40 Tryd.underlying23 hi hz0 hz1 hz2 rfl (by decide) v P.length cs h1 ⟨b, off, none⟩ m c ds (by rw [k1.len, hlm]) (fun j y hy => by
      rw [show ((⟨b, off, none⟩ : Addr).add j) = ⟨b, off + j, none⟩ from by unfold Addr.add; split <;> simp_all]
      exact k2 j y hy) k3 (by unfold maxLen; omega) (by omega) hlo
  have hb : Below lo w w' := (Below.refl lo w).grown hgr hlo (fun i e => (h1.lt i e).1)
  exact ⟨v', w', hrun, ⟨⟨cs ++ ds, by rw [List.length_append, hlm]; exact hown, (h2.imp fun A n l hr => hr.below (hb.mono h.le)).app (k1.imp fun A n l hr => hr.below (hb.mono h.le)), fun u hu => (List.mem_append.1 hu).elim (h3 u) (k3 u)⟩, h.le⟩, hb, hgr, fun i e => ⟨(h1.lt i e).1, own_heap h1 e⟩⟩
/-- append of one attribute that lies in a block, as a run. -/
theorem run_app_raw1 {B lo : Nat} {w : World} {v : Value} {P : List Raw} (h : OwnV B lo w v P) (hlo : lo ≤ w.heap.size) {g : Nat} {f k : Int} {A : Option Addr} {n c : Nat} {bd : List Int} (hg : Blk w g 32 #[.int .i64 f, .int .i64 k, .slice A n c]) (hr : Rd w B A n bd) (hlen : P.length ≤ 1000000) (ty : TypeId) :
    ∃ v' w', (Builtin.append_ #[23, 23] ty #[v, .slice (some ⟨g, 0, none⟩) 1 1]).run Tryd.prog w = .ok v' w' ∧ OwnV B lo w' v' (P ++ [(f, k, bd)]) ∧ Below lo w w' ∧ w.grownBy w' v.ownBlock ∧ ∀ i, v.ownBlock = some i → lo ≤ i ∧ ∃ c, w.heap[i]? = some (.cells c 32 (0, 0)) := by
  obtain ⟨i, hi, hz0, hz1, hz2⟩ := info_parts info_raw
  obtain ⟨cs, h1, h2, h3⟩ := h.ex
  have k3 : ∀ u ∈ [Value.int .i64 f, .int .i64 k, .slice A n c], u.oneCell' = true := by
    intro u hu
    simp only [List.mem_cons, List.mem_nil_iff, or_false] at hu
    rcases hu with rfl | rfl | rfl <;> rfl
  obtain ⟨v', w', hrun, hown, hgr, _, _⟩ := run_append_own_at (P := Tryd.prog) w lo 23 ty 32 i _ 3 40 Tryd.underlying23 hi hz0 hz1 hz2 rfl (by decide) v P.length cs h1 ⟨g, 0, none⟩ 1 1 [.int .i64 f, .int .i64 k, .slice A n c] rfl (by
      intro j u hu
      rw [show ((⟨g, 0, none⟩ : Addr).add j) = ⟨g, j, none⟩ from by unfold Addr.add; split <;> simp_all, hg.cell]
      simpa using hu) k3 (by unfold maxLen; omega) (by omega) hlo
  have hb : Below lo w w' := (Below.refl lo w).grown hgr hlo (fun i e => (h1.lt i e).1)
  exact ⟨v', w', hrun, ⟨⟨cs ++ [.int .i64 f, .int .i64 k, .slice A n c], by simpa using hown, (h2.imp fun A n l hr => hr.below (hb.mono h.le)).app (Rs.one (hr.below (hb.mono h.le))), fun u hu => (List.mem_append.1 hu).elim (h3 u) (k3 u)⟩, h.le⟩, hb, hgr, fun i e => ⟨(h1.lt i e).1, own_heap h1 e⟩⟩

theorem IsAt.low {lo lo' : Nat} {w : World} {cs : List Value} {a : Att} (h : IsAt lo w cs a) (hl : lo' ≤ lo) : IsAt lo' w cs a := by
  obtain ⟨vp, vc, vm, e, h1, h2, h3⟩ := h.ex
  exact ⟨⟨vp, vc, vm, e, h1.low hl, h2.low hl, h3.low hl⟩, h.ip⟩
theorem IsAt.row {lo : Nat} {w : World} {cs : List Value} {a : Att} {g : Nat} {t : TypeId} {old : Array Value} (h : IsAt lo w cs a) (hg : Blk w g t old) (h1 : 41 ≠ t) (h2 : 58 ≠ t) (ds : Array Value) : IsAt lo (w.setRow g ds) cs a := by
  obtain ⟨vp, vc, vm, e, k1, k2, k3⟩ := h.ex
  exact ⟨⟨vp, vc, vm, e, k1.keep fun i c hi _ => setRow_other w g i _ (row_ne hi hg h1), k2.keep fun i c hi _ => setRow_other w g i _ (row_ne hi hg h1), k3.keep fun i c hi _ => setRow_other w g i _ (row_ne hi hg h2)⟩, h.ip⟩

/-- Whatever has come up: where each thing lies. -/
structure TwW (B : Nat) (w2 W : World) (rw_ : Array Value) (rs al : List Raw) (att : Att) (c0 c2 c4 c5 c6 c13 c15 : Bool) (g35 g39 : Nat) (v37 v40 : Value) (p9 p11 : Option Nat) (cs2 : List Value) (FV : Array Value) : Prop where
  bel : Below w2.heap.size w2 W
  o2 : c2 = true → c0 = true
  o5 : c5 = true → c2 = true ∧ c4 = true
  o6 : c6 = true → c5 = true
  o13 : c13 = true → c6 = true ∧ p9.isSome = true
  o15 : c15 = true → c6 = true ∧ p11.isSome = true
  e35 : c0 = true → c2 = false → w2.heap.size ≤ g35 ∧ W.heap[g35]? = some (.cells #[] 32 (0, 0))
  e37 : c2 = true → c5 = false → OwnV B w2.heap.size W v37 rs
  e39 : c4 = true → c5 = false → w2.heap.size ≤ g39 ∧ Blk W g39 32 rw_
  n35 : c0 = true → c2 = false → c4 = true → g35 ≠ g39
  e40 : c5 = true → c6 = false → OwnV B w2.heap.size W v40 al
  e41 : c6 = true → IsAt w2.heap.size W cs2 att
  e9 : ∀ g, p9 = some g → w2.heap.size ≤ g ∧ Blk W g 49 (bif c13 then cs2.toArray else #[Value.int .i64 0, .slice none 0 0, .bool false, .int .u32 0, .int .u32 0, .int .u32 0, .slice none 0 0, .slice none 0 0, .int .i64 0, .int .u32 0, .bool false, .int .u8 0, .int .u8 0, .int .u8 0, .int .u8 0, .int .u8 0, .int .u8 0, .int .u8 0, .int .u8 0, .int .u8 0, .int .u8 0, .int .u8 0, .int .u8 0, .int .u8 0, .int .u8 0, .int .u8 0, .int .u8 0])
  e11 : ∀ g, p11 = some g → w2.heap.size ≤ g ∧ Blk W g 51 (bif c15 then FV else #[Value.int .i64 0, .int .i64 0, .slice none 0 0])
section
variable {B : Nat} {w2 W W' : World} {rw_ : Array Value} {rs al : List Raw} {att : Att} {c0 c2 c4 c5 c6 c13 c15 : Bool} {g35 g39 : Nat} {v37 v40 : Value} {p9 p11 : Option Nat} {cs2 : List Value} {FV : Array Value}
theorem TwW.below (h : TwW B w2 W rw_ rs al att c0 c2 c4 c5 c6 c13 c15 g35 g39 v37 v40 p9 p11 cs2 FV) (hb : Below W.heap.size W W') : TwW B w2 W' rw_ rs al att c0 c2 c4 c5 c6 c13 c15 g35 g39 v37 v40 p9 p11 cs2 FV :=
  ⟨h.bel.trans (hb.mono h.bel.size), h.o2, h.o5, h.o6, h.o13, h.o15, fun a b => ⟨(h.e35 a b).1, (hb.block _ (Array.getElem?_eq_some_iff.1 (h.e35 a b).2).1).trans (h.e35 a b).2⟩, fun a b => (h.e37 a b).below hb h.bel.size, fun a b => ⟨(h.e39 a b).1, (h.e39 a b).2.below hb (h.e39 a b).2.lt⟩, h.n35, fun a b => (h.e40 a b).below hb h.bel.size,
    fun a => (h.e41 a).below hb, fun g e => ⟨(h.e9 g e).1, (h.e9 g e).2.below hb (h.e9 g e).2.lt⟩, fun g e => ⟨(h.e11 g e).1, (h.e11 g e).2.below hb (h.e11 g e).2.lt⟩⟩
theorem TwW.s0 (h : TwW B w2 W rw_ rs al att false c2 c4 c5 c6 c13 c15 g35 g39 v37 v40 p9 p11 cs2 FV) : TwW B w2 (W.alloc (.cells #[] 32)) rw_ rs al att true c2 c4 c5 c6 c13 c15 W.heap.size g39 v37 v40 p9 p11 cs2 FV := by
  have hb : Below W.heap.size W (W.alloc (.cells #[] 32)) := (Below.refl _ _).alloc (Nat.le_refl _) _
  have k := h.below hb
  have hc2 : c2 = false := by cases hc : c2 with | false => rfl | true => exact absurd (h.o2 hc) (by simp)
  have hc5 : c5 = false := by cases hc : c5 with | false => rfl | true => exact absurd (h.o5 hc).1 (by simp [hc2])
  exact ⟨k.bel, fun _ => rfl, k.o5, k.o6, k.o13, k.o15, fun _ _ => ⟨h.bel.size, Blk.new W 32 #[]⟩, k.e37, k.e39, fun _ _ h4 => by have := (h.e39 h4 hc5).2.lt; omega, k.e40, k.e41, k.e9, k.e11⟩
theorem TwW.s4 (h : TwW B w2 W rw_ rs al att c0 c2 false c5 c6 c13 c15 g35 g39 v37 v40 p9 p11 cs2 FV) : TwW B w2 (W.alloc (.cells rw_ 32)) rw_ rs al att c0 c2 true c5 c6 c13 c15 g35 W.heap.size v37 v40 p9 p11 cs2 FV := by
  have hb : Below W.heap.size W (W.alloc (.cells rw_ 32)) := (Below.refl _ _).alloc (Nat.le_refl _) _
  have k := h.below hb
  exact ⟨k.bel, k.o2, fun h5 => ⟨(h.o5 h5).1, rfl⟩, k.o6, k.o13, k.o15, k.e35, k.e37, fun _ _ => ⟨h.bel.size, Blk.new W 32 rw_⟩, fun a b _ => by have := (Array.getElem?_eq_some_iff.1 (h.e35 a b).2).1; omega, k.e40, k.e41, k.e9, k.e11⟩
theorem TwW.s11 (h : TwW B w2 W rw_ rs al att c0 c2 c4 c5 c6 c13 c15 g35 g39 v37 v40 none p11 cs2 FV) : c13 = false ∧ TwW B w2 (W.alloc (.cells #[Value.int .i64 0, .slice none 0 0, .bool false, .int .u32 0, .int .u32 0, .int .u32 0, .slice none 0 0, .slice none 0 0, .int .i64 0, .int .u32 0, .bool false, .int .u8 0, .int .u8 0, .int .u8 0, .int .u8 0, .int .u8 0, .int .u8 0, .int .u8 0, .int .u8 0, .int .u8 0, .int .u8 0, .int .u8 0, .int .u8 0, .int .u8 0, .int .u8 0, .int .u8 0, .int .u8 0] 49)) rw_ rs al att c0 c2 c4 c5 c6 false c15 g35 g39 v37 v40 (some W.heap.size) p11 cs2 FV := by
  have hb : Below W.heap.size W (W.alloc (.cells #[Value.int .i64 0, .slice none 0 0, .bool false, .int .u32 0, .int .u32 0, .int .u32 0, .slice none 0 0, .slice none 0 0, .int .i64 0, .int .u32 0, .bool false, .int .u8 0, .int .u8 0, .int .u8 0, .int .u8 0, .int .u8 0, .int .u8 0, .int .u8 0, .int .u8 0, .int .u8 0, .int .u8 0, .int .u8 0, .int .u8 0, .int .u8 0, .int .u8 0, .int .u8 0, .int .u8 0] 49)) := (Below.refl _ _).alloc (Nat.le_refl _) _
  have k := h.below hb
  have hc : c13 = false := by cases hc : c13 with | false => rfl | true => exact absurd (h.o13 hc).2 (by simp)
  refine ⟨hc, k.bel, k.o2, k.o5, k.o6, (fun e => by cases e), k.o15, k.e35, k.e37, k.e39, k.n35, k.e40, k.e41, fun g e => ?_, k.e11⟩
  injection e with e
  subst e
  exact ⟨h.bel.size, Blk.new W 49 _⟩
theorem TwW.s12 (h : TwW B w2 W rw_ rs al att c0 c2 c4 c5 c6 c13 c15 g35 g39 v37 v40 p9 none cs2 FV) : c15 = false ∧ TwW B w2 (W.alloc (.cells #[Value.int .i64 0, .int .i64 0, .slice none 0 0] 51)) rw_ rs al att c0 c2 c4 c5 c6 c13 false g35 g39 v37 v40 p9 (some W.heap.size) cs2 FV := by
  have hb : Below W.heap.size W (W.alloc (.cells #[Value.int .i64 0, .int .i64 0, .slice none 0 0] 51)) := (Below.refl _ _).alloc (Nat.le_refl _) _
  have k := h.below hb
  have hc : c15 = false := by cases hc : c15 with | false => rfl | true => exact absurd (h.o15 hc).2 (by simp)
  refine ⟨hc, k.bel, k.o2, k.o5, k.o6, k.o13, (fun e => by cases e), k.e35, k.e37, k.e39, k.n35, k.e40, k.e41, k.e9, fun g e => ?_⟩
  injection e with e
  subst e
  exact ⟨h.bel.size, Blk.new W 51 _⟩
theorem TwW.s2 (h : TwW B w2 W rw_ rs al att true false c4 c5 c6 c13 c15 g35 g39 v37 v40 p9 p11 cs2 FV) {v' : Value} (ho : OwnV B w2.heap.size W' v' rs) (hb : Below w2.heap.size W W') (hg : W.grownBy W' (some g35)) : TwW B w2 W' rw_ rs al att true true c4 c5 c6 c13 c15 g35 g39 v' v40 p9 p11 cs2 FV := by
  have hc5 : c5 = false := by cases hc : c5 with | false => rfl | true => exact absurd (h.o5 hc).1 (by simp)
  have hc6 : c6 = false := by cases hc : c6 with | false => rfl | true => exact absurd (h.o6 hc) (by simp [hc5])
  have h35 := (h.e35 rfl rfl).2
  refine ⟨h.bel.trans hb, fun _ => rfl, (fun a => by rw [hc5] at a; cases a), h.o6, h.o13, h.o15, (fun _ a => by cases a), fun _ _ => ho, fun a b => ⟨(h.e39 a b).1, (h.e39 a b).2.grown hg (fun e => ?_)⟩, (fun _ a => by cases a), (fun a => by rw [hc5] at a; cases a), (fun a => by rw [hc6] at a; cases a),
    fun g e => ⟨(h.e9 g e).1, (h.e9 g e).2.grown hg (fun e' => ?_)⟩, fun g e => ⟨(h.e11 g e).1, (h.e11 g e).2.grown hg (fun e' => ?_)⟩⟩
  · injection e with e
    exact h.n35 rfl rfl a e.symm
  · injection e' with e'
    exact row_ne (h.e9 g e).2 h35 (by decide) e'
  · injection e' with e'
    exact row_ne (h.e11 g e).2 h35 (by decide) e'
theorem TwW.s5 (h : TwW B w2 W rw_ rs al att c0 true true false c6 c13 c15 g35 g39 v37 v40 p9 p11 cs2 FV) {v' : Value} (ho : OwnV B w2.heap.size W' v' al) (hb : Below w2.heap.size W W') (hg : W.grownBy W' v37.ownBlock) (ht : ∀ i, v37.ownBlock = some i → ∃ c, W.heap[i]? = some (.cells c 32 (0, 0))) : TwW B w2 W' rw_ rs al att c0 true true true c6 c13 c15 g35 g39 v37 v' p9 p11 cs2 FV := by
  have hc6 : c6 = false := by cases hc : c6 with | false => rfl | true => exact absurd (h.o6 hc) (by simp)
  refine ⟨h.bel.trans hb, h.o2, fun _ => ⟨rfl, rfl⟩, fun _ => rfl, h.o13, h.o15, (fun _ a => by cases a), (fun _ a => by cases a), (fun _ a => by cases a), (fun _ a => by cases a), fun _ _ => ho, (fun a => by rw [hc6] at a; cases a),
    fun g e => ⟨(h.e9 g e).1, (h.e9 g e).2.grown hg (fun e' => ?_)⟩, fun g e => ⟨(h.e11 g e).1, (h.e11 g e).2.grown hg (fun e' => ?_)⟩⟩
  · obtain ⟨c, hc⟩ := ht g e'.symm
    exact row_ne (h.e9 g e).2 hc (by decide) rfl
  · obtain ⟨c, hc⟩ := ht g e'.symm
    exact row_ne (h.e11 g e).2 hc (by decide) rfl
theorem TwW.s6 (h : TwW B w2 W rw_ rs al att c0 c2 c4 true false c13 c15 g35 g39 v37 v40 p9 p11 cs2 FV) (hb : Below W.heap.size W W') {cs3 : List Value} {FV3 : Array Value} (hat : IsAt W.heap.size W' cs3 att) : TwW B w2 W' rw_ rs al att c0 c2 c4 true true c13 c15 g35 g39 v37 v40 p9 p11 cs3 FV3 := by
  have k := h.below hb
  have h13 : c13 = false := by cases hc : c13 with | false => rfl | true => exact absurd (h.o13 hc).1 (by simp)
  have h15 : c15 = false := by cases hc : c15 with | false => rfl | true => exact absurd (h.o15 hc).1 (by simp)
  subst h13 h15
  exact ⟨k.bel, k.o2, k.o5, fun _ => rfl, (fun a => by cases a), (fun a => by cases a), k.e35, k.e37, k.e39, k.n35, (fun _ a => by cases a), fun _ => hat.low h.bel.size, k.e9, k.e11⟩
theorem TwW.s13 {g : Nat} (h : TwW B w2 W rw_ rs al att c0 c2 c4 c5 true false c15 g35 g39 v37 v40 (some g) p11 cs2 FV) : TwW B w2 (W.setRow g cs2.toArray) rw_ rs al att c0 c2 c4 c5 true true c15 g35 g39 v37 v40 (some g) p11 cs2 FV := by
  have h9 := h.e9 g rfl
  have h5 := h.o6 rfl
  refine ⟨h.bel.trans (below_setRow _ _ _ h9.1), h.o2, h.o5, h.o6, fun _ => ⟨rfl, rfl⟩, h.o15, fun _ a => ?_, fun _ a => ?_, fun _ a => ?_, h.n35, (fun _ a => by cases a), fun _ => (h.e41 rfl).row h9.2 (by decide) (by decide) _, fun g' e => ?_, fun g' e => ⟨(h.e11 g' e).1, (h.e11 g' e).2.row_other (row_ne (h.e11 g' e).2 h9.2 (by decide)) _⟩⟩
  · rw [(h.o5 h5).1] at a; cases a
  · rw [h5] at a; cases a
  · rw [h5] at a; cases a
  · injection e with e
    subst e
    exact ⟨h9.1, Blk.setRow h9.2 _⟩
theorem TwW.s15 {g : Nat} (h : TwW B w2 W rw_ rs al att c0 c2 c4 c5 true c13 false g35 g39 v37 v40 p9 (some g) cs2 FV) : TwW B w2 (W.setRow g FV) rw_ rs al att c0 c2 c4 c5 true c13 true g35 g39 v37 v40 p9 (some g) cs2 FV := by
  have h11 := h.e11 g rfl
  have h5 := h.o6 rfl
  refine ⟨h.bel.trans (below_setRow _ _ _ h11.1), h.o2, h.o5, h.o6, h.o13, fun _ => ⟨rfl, rfl⟩, fun _ a => ?_, fun _ a => ?_, fun _ a => ?_, h.n35, (fun _ a => by cases a), fun _ => (h.e41 rfl).row h11.2 (by decide) (by decide) _, fun g' e => ⟨(h.e9 g' e).1, (h.e9 g' e).2.row_other (row_ne (h.e9 g' e).2 h11.2 (by decide)) _⟩, fun g' e => ?_⟩
  · rw [(h.o5 h5).1] at a; cases a
  · rw [h5] at a; cases a
  · rw [h5] at a; cases a
  · injection e with e
    subst e
    exact ⟨h11.1, Blk.setRow h11.2 _⟩
end
/-- A variable's pointer, once it is there. -/
def pp (p : Option Nat) : Value := match p with
  | none => undef
  | some g => .pointer (some ⟨g, 0, none⟩)
end Go.Proofs.YtiohgblinjignaaDoor
namespace Go.Proofs.YtiohgblinjignaaDoor
open Go.RowKit
set_option maxRecDepth 100000
set_option linter.unusedSimpArgs false
set_option linter.unusedVariables false

def Counted (w : World) (most : Int) (e : Ending) (w' : World) : Prop := ∃ k : Nat, e = .returned (.int .i64 k) ∧ (k : Int) < most ∧ w = w'
set_option maxHeartbeats 400000 in
theorem count_is (w : World) (n most : Int) (h1 : 1 ≤ most) (hm : most < 4611686018427387904) (_ : -9223372036854775808 ≤ n ∧ n < 9223372036854775808) :
    Calls Tryd.prog 33 #[.int .i64 n, .int .i64 most] w (Counted w most) := by
  have hx : -most < n.tmod most ∧ n.tmod most < most := by
    have h2 := Int.tmod_lt_of_pos n (show 0 < most by omega)
    have h3 := Int.lt_tmod_of_pos n (show 0 < most by omega)
    exact ⟨h3, h2⟩
  have hne : (most == 0) = false := by simp; omega
  go_enter Tryd.func33, Tryd.ntmps33
  go_wp2
  all_goals go_ret
  · exact ⟨(n.tmod most + most).toNat, by rw [Int.toNat_of_nonneg (by omega)]; rfl, by omega, rfl⟩
  · exact ⟨(n.tmod most).toNat, by rw [Int.toNat_of_nonneg (by assumption)]; rfl, by omega, rfl⟩

theorem att_fetch {ops : Array Oper} {rest : List Oper} {op : Oper} {a : Act} {w : World} {Q : Exit → Act → World → Prop} (hw : Region.wanted op (yielded ops a.tmps) = true) (x : Operand) (ho : op.op = .load 49 x)
    (g : Nat) (cs : List Value) (hl : cs.length = 27) (hx : a.eval x = .pointer (some ⟨g, 0, none⟩)) (hc : w.rangeAt g 0 cs) (h : wpList Tryd.prog ops Q rest (a.put op.dst (.agg cs.toArray)) w) : wpList Tryd.prog ops Q (op :: rest) a w :=
  BigFrame.wpList_want hw fun _ hK => wp_load_mid 49 x ho g 0 hx cs _ hc Tryd.underlying49 rfl (by rw [asz, hl]) (hK _ _ h)
set_option maxHeartbeats 4000000 in
theorem attrTwice_walk (w : World) (E : EnvK w) (A : Option Addr) (n c : Nat) (rs : List Raw) (at0 : Int) (hr : RdR w w.heap.size A n rs ∧ n ≤ c) (hv : n ≤ 140737488351232 ∧ ∀ r ∈ rs, r.2.2.length ≤ 140737488351232) (hat : -9223372036854775808 ≤ at0 ∧ at0 < 9223372036854775808) :
    Calls Tryd.prog 9 #[.slice A n c, .int .i64 at0] w fun e w' => e = .returned (.bool true) ∧ Below w.heap.size w w' := by
  have HR := Lib.hid hr.1
  have HV := Lib.hid hv.2
  have HE := Lib.hid E
  have hn := hv.1
  have HLn := Lib.hid hr.1.len
  have HAt := Lib.hid hat
  clear hr hv E hat
  by_cases hn0 : n = 0
  · subst hn0
    go_enter Tryd.func9, Tryd.ntmps9
    go_wp2_with fail
    refine (alive_is _ HE.out).mono ?_
    rintro e w1 ⟨rfl, hB⟩
    have HB := Lib.hid hB
    clear hB
    go_wp2
    go_ret
    exact ⟨rfl, HB.out⟩
  have en0 : ((n : Int) == 0) = false := by rw [beq_eq_false_iff_ne]; omega
  by_cases hm1 : 300 < n
  · have hmost' : (300 : Int) < n := by omega
    go_enter Tryd.func9, Tryd.ntmps9
    go_wp2_with fail
    refine (alive_is _ HE.out).mono ?_
    rintro e w1 ⟨rfl, hB⟩
    have HB := Lib.hid hB
    clear hB
    go_wp2
    go_ret
    exact ⟨rfl, HB.out⟩
  have hm1' : ¬ (300 : Int) < n := by omega
  go_enter Tryd.func9, Tryd.ntmps9
  go_wp2_with fail
  refine (count_is w at0 n (by omega) (by omega) HAt.out).mono ?_
  rintro e w' ⟨i, rfl, hi, rfl⟩
  have hil : i < rs.length := by have := HLn.out; omega
  obtain ⟨b, off, A1, n1, c1, rfl, hbl, x0, x1, x2, hr1⟩ := HR.out.get hil
  have HMem := Lib.hid (List.getElem_mem hil)
  have HRr := Lib.hid hr1
  obtain ⟨r, hrr⟩ : ∃ r, r = rs[i] := ⟨_, rfl⟩
  rw [← hrr] at x0 x1 HRr HMem
  have hn1 : n1 ≤ 140737488351232 := by rw [← HRr.out.len]; exact HV.out r HMem.out
  clear hr1 hrr hil
  obtain ⟨f, k, bd⟩ := r
  simp only at x0 x1 HRr
  have X0 := Lib.hid x0
  have X1 := Lib.hid x1
  have X2 := Lib.hid x2
  have hal : Below w.heap.size w (w.alloc (.cells #[.int .i64 f, .int .i64 k, .slice A1 n1 c1] 32)) := (Below.refl _ _).alloc (Nat.le_refl _) _
  have HN0 := Lib.hid (Blk.new w 32 #[.int .i64 f, .int .i64 k, .slice A1 n1 c1])
  have HB0 := Lib.hid hal
  have HRd := Lib.hid (Read_is (w.alloc (.cells #[.int .i64 f, .int .i64 k, .slice A1 n1 c1] 32)) (HE.out.below hal) (some ⟨b, off, none⟩) n c rs ((HR.out.below hal).more (by simp)) (by omega) HV.out)
  clear x0 x1 x2 hal
  go_wp2_with (refine raw_fetch rfl _ rfl b (off + i * 3) f k A1 n1 c1 rfl X0.out X1.out X2.out ?_)
  refine HRd.out.mono ?_
  generalize hw0 : (w.alloc (.cells #[.int .i64 f, .int .i64 k, .slice A1 n1 c1] 32)) = w0 at *
  have hz0 : w0.heap.size = w.heap.size + 1 := by rw [← hw0]; simp
  rintro e w1 ⟨cs, Ad, nd, cd, rfl, hat, hod, hB1⟩
  obtain ⟨hcl, hc1⟩ := hat.shape
  obtain ⟨k1, k2, ka⟩ := aft_of w1 (readM rs).2.2.1 (readM rs).2.2.2.1 Ad nd cd cs (readM rs).2.2.2.2
  have HCl := Lib.hid hcl
  have HC1 := Lib.hid hc1
  have K1 := Lib.hid k1
  have K2 := Lib.hid k2
  have hgr : w.heap.size < w0.heap.size := by omega
  have hB1w : Below w.heap.size w w1 := HB0.out.trans (hB1.mono (by omega))
  have hz1 := hB1.size
  have hN1 : Blk w1 w.heap.size 32 #[.int .i64 f, .int .i64 k, .slice A1 n1 c1] := HN0.out.below hB1 hgr
  have HAt1 := Lib.hid (hat.rdAt)
  have HKa := Lib.hid ka
  have HB2 : Hid (Below w.heap.size w ((((w1.alloc (.cells #[Value.int .i64 0, .slice none 0 0, .bool false, .int .u32 0, .int .u32 0, .int .u32 0, .slice none 0 0, .slice none 0 0, .int .i64 0, .int .u32 0, .bool false, .int .u8 0, .int .u8 0, .int .u8 0, .int .u8 0, .int .u8 0, .int .u8 0, .int .u8 0, .int .u8 0, .int .u8 0, .int .u8 0, .int .u8 0, .int .u8 0, .int .u8 0, .int .u8 0, .int .u8 0, .int .u8 0] 49)).alloc (.cells #[.int .i64 0, .int .i64 0, .slice none 0 0] 51)).setRow w1.heap.size cs.toArray).setRow (w1.heap.size + 1) #[.int .i64 (readM rs).2.2.1, .int .i64 (readM rs).2.2.2.1, .slice Ad nd cd])) := Lib.hid (hB1w.trans (ka.bel.mono (by omega)))
  have HN2 : Hid (Blk ((((w1.alloc (.cells #[Value.int .i64 0, .slice none 0 0, .bool false, .int .u32 0, .int .u32 0, .int .u32 0, .slice none 0 0, .slice none 0 0, .int .i64 0, .int .u32 0, .bool false, .int .u8 0, .int .u8 0, .int .u8 0, .int .u8 0, .int .u8 0, .int .u8 0, .int .u8 0, .int .u8 0, .int .u8 0, .int .u8 0, .int .u8 0, .int .u8 0, .int .u8 0, .int .u8 0, .int .u8 0, .int .u8 0] 49)).alloc (.cells #[.int .i64 0, .int .i64 0, .slice none 0 0] 51)).setRow w1.heap.size cs.toArray).setRow (w1.heap.size + 1) #[.int .i64 (readM rs).2.2.1, .int .i64 (readM rs).2.2.2.1, .slice Ad nd cd]) w.heap.size 32 #[.int .i64 f, .int .i64 k, .slice A1 n1 c1]) := Lib.hid (hN1.below ka.bel (by omega))
  have HAt2 : Hid (RdAt ((((w1.alloc (.cells #[Value.int .i64 0, .slice none 0 0, .bool false, .int .u32 0, .int .u32 0, .int .u32 0, .slice none 0 0, .slice none 0 0, .int .i64 0, .int .u32 0, .bool false, .int .u8 0, .int .u8 0, .int .u8 0, .int .u8 0, .int .u8 0, .int .u8 0, .int .u8 0, .int .u8 0, .int .u8 0, .int .u8 0, .int .u8 0, .int .u8 0, .int .u8 0, .int .u8 0, .int .u8 0, .int .u8 0] 49)).alloc (.cells #[.int .i64 0, .int .i64 0, .slice none 0 0] 51)).setRow w1.heap.size cs.toArray).setRow (w1.heap.size + 1) #[.int .i64 (readM rs).2.2.1, .int .i64 (readM rs).2.2.2.1, .slice Ad nd cd]) w1.heap.size cs (readM rs).1) := Lib.hid (hat.rdAt.below ka.bel)
  have HTw := Lib.hid (twice rs (f, k, bd) HMem.out)
  have HOk := Lib.hid (readM_ok rs (fun r hr => ⟨HR.out.octs r hr, HV.out r hr⟩))
  have HSz1 : Hid (w.heap.size + 1 ≤ w1.heap.size) := Lib.hid (by omega)
  clear hcl hc1 k1 k2 ka hB1 hod hat hB1w hN1 hgr hz1 HAt1 HRd
  obtain ⟨cl, hcl⟩ : ∃ x, x = (readM rs).2.1 := ⟨_, rfl⟩
  obtain ⟨r1, hr1⟩ : ∃ x, x = (readM rs).2.2.1 := ⟨_, rfl⟩
  obtain ⟨r2, hr2⟩ : ∃ x, x = (readM rs).2.2.2.1 := ⟨_, rfl⟩
  rw [← hr1, ← hr2] at HB2 HN2 HAt2 HKa
  rw [← hcl] at HTw
  rw [← hcl, ← hr1, ← hr2]
  clear hcl hr1 hr2
  go_wp2_with (first
    | (refine att_store (o := ⟨_, .store 49 _ _, _, _, _, _⟩) rfl _ _ rfl w1.heap.size cs HCl.out HC1.out rfl rfl 49 _ K1.out rfl ?_)
    | (refine f_store (o := ⟨_, .store 51 _ _, _, _, _, _⟩) rfl _ _ rfl (w1.heap.size + 1) r1 r2 Ad nd cd rfl rfl 51 _ K2.out rfl ?_))
  have HA2 := Lib.hid HKa.out.att
  have HZ2 := Lib.hid HKa.out.size
  generalize ((((w1.alloc (.cells #[Value.int .i64 0, .slice none 0 0, .bool false, .int .u32 0, .int .u32 0, .int .u32 0, .slice none 0 0, .slice none 0 0, .int .i64 0, .int .u32 0, .bool false, .int .u8 0, .int .u8 0, .int .u8 0, .int .u8 0, .int .u8 0, .int .u8 0, .int .u8 0, .int .u8 0, .int .u8 0, .int .u8 0, .int .u8 0, .int .u8 0, .int .u8 0, .int .u8 0, .int .u8 0, .int .u8 0] 49)).alloc (.cells #[.int .i64 0, .int .i64 0, .slice none 0 0] 51)).setRow w1.heap.size cs.toArray).setRow (w1.heap.size + 1) #[.int .i64 r1, .int .i64 r2, .slice Ad nd cd]) = w2 at *
  clear HKa K1 K2
  obtain ⟨al, hal⟩ : ∃ al, al = rs ++ [(f, k, bd)] := ⟨_, rfl⟩
  rw [← hal] at HTw
  have HAl := Lib.hid hal
  clear hal
  obtain ⟨d, hd⟩ : ∃ x, x = (readM al).2.1 := ⟨_, rfl⟩
  obtain ⟨q1, hq1⟩ : ∃ x, x = (readM al).2.2.1 := ⟨_, rfl⟩
  obtain ⟨q2, hq2⟩ : ∃ x, x = (readM al).2.2.2.1 := ⟨_, rfl⟩
  have HDq : Hid (d = (readM al).2.1 ∧ q1 = (readM al).2.2.1 ∧ q2 = (readM al).2.2.2.1) := Lib.hid ⟨hd, hq1, hq2⟩
  rw [← hd, ← hq1, ← hq2] at HTw
  clear hd hq1 hq2
  have HRs := Lib.hid (HR.out.below HB2.out)
  have HRv := Lib.hid (HRr.out.below HB2.out)
  have HRdA : Hid (∀ W A4 c4, EnvK W → RdR W W.heap.size A4 al.length al → Calls Tryd.prog 23 #[.slice A4 al.length c4] W (Readed W al)) := Lib.hid fun W A4 c4 hE hr4 => Read_is W hE A4 _ c4 al hr4 (by rw [HAl.out, List.length_append, HLn.out]; simp; omega) (fun r hr => by
    rw [HAl.out] at hr
    rcases List.mem_append.1 hr with hr | hr
    · exact HV.out r hr
    · rw [List.mem_singleton.1 hr]; show bd.length ≤ _; rw [HRr.out.len]; exact hn1)
  have hlo2 : w.heap.size ≤ w2.heap.size := HB2.out.size
  have HEn : Hid (∀ W, Below w2.heap.size w2 W → EnvK W) := Lib.hid fun W hb => HE.out.below (HB2.out.trans (hb.mono hlo2))
  have hnp : 0 < n := by omega
  have HLe : Hid (rs.length + n ≤ 1000000 ∧ rs.length ≤ 1000000) := Lib.hid (by rw [HLn.out]; omega)
  refine wp_region_held_drew (S := fun W => Below w2.heap.size w2 W) (by kernel_rfl) (below_drewN (Below.refl _ _) 1) (fun hS => ?_)
  refine wpAnyH_take (i := 1) (oi := ⟨some 36, _, _, _, _, _⟩) (v := ?_) rfl (by kernel_rfl) (by kernel_rfl) (by kernel_rfl) (fun _ _ _ h => h) (Or.inl ⟨by rfl, ?_⟩) hS ?_
  rotate_left
  · intro wq hq
    first | (go_simp; done) | (go_simp; rfl)
  try simp only [Act.put, List.setIfInBounds_toArray, List.set_cons_zero, List.set_cons_succ]
  refine wpAnyH_take (i := 3) (oi := ⟨some 38, _, _, _, _, _⟩) rfl (by kernel_rfl) (by kernel_rfl) (by kernel_rfl) (fun _ _ _ h => h) (yieldsIf_load_mid (by rfl) 32 _ rfl _ _ rfl ([.int .i64 f, .int .i64 k, .slice A1 n1 c1]) _ (fun wq hq => range_below (Blk.range (cs := [.int .i64 f, .int .i64 k, .slice A1 n1 c1]) HN2.out) hq HN2.out.lt) Tryd.underlying32 rfl (rsz)) hS ?_
  try simp only [Act.put, List.setIfInBounds_toArray, List.set_cons_zero, List.set_cons_succ]
  refine wpAnyH_start (fun A0 L a W => ∃ (c0 c2 c4 c5 c6 c7 c8 c9 c10 c13 c14 c15 : Bool) (g35 g39 : Nat) (v37 v40 : Value) (p9 p11 : Option Nat) (cs2 : List Value) (FV : Array Value), L = #[c0, true, c2, true, c4, c5, c6, c7, c8, c9, c10, p9.isSome, p11.isSome, c13, c14, c15] ∧ a = ((((((((((((A0.put (some 35) (bif c0 then .slice (some ⟨g35, 0, none⟩) 0 0 else undef)).put (some 37) (bif c2 then v37 else undef)).put (some 39) (bif c4 then .slice (some ⟨g39, 0, none⟩) 1 1 else undef)).put (some 40) (bif c5 then v40 else undef)).put (some 41) (bif c6 then (.tuple #[.agg cs2.toArray, .int .i64 d, .agg FV]) else undef)).put (some 34) (bif c7 then (.tuple #[.agg cs2.toArray, .int .i64 d, .agg FV]) else undef)).put (some 42) (bif c8 then .agg cs2.toArray else undef)).put (some 43) (bif c9 then .int .i64 d else undef)).put (some 44) (bif c10 then .agg FV else undef)).put (some 9) (pp p9)).put (some 11) (pp p11)).put (some 10) (bif c14 then .int .i64 d else undef)) ∧ TwW w.heap.size w2 W #[.int .i64 f, .int .i64 k, .slice A1 n1 c1] rs al (readM al).1 c0 c2 c4 c5 c6 c13 c15 g35 g39 v37 v40 p9 p11 cs2 FV ∧ (c6 = true → ∃ A n c, FV = #[.int .i64 q1, .int .i64 q2, .slice A n c]) ∧ (c7 = true → c6 = true) ∧ (c8 = true → c6 = true) ∧ (c10 = true → c6 = true)) ?_ (Nat.le_of_ble_eq_true (by kernel_rfl)) ?_ ?_ ?_
  · exact ⟨false, false, false, false, false, false, false, false, false, false, false, false, 0, 0, undef, undef, none, none, [], #[], by kernel_rfl, by kernel_rfl, ⟨hS, (fun h => by cases h), (fun h => by cases h), (fun h => by cases h), (fun h => by cases h), (fun h => by cases h), (fun h => by cases h), (fun h => by cases h), (fun h => by cases h), (fun h => by cases h), (fun h => by cases h), (fun h => by cases h), (fun g h => by cases h), (fun g h => by cases h)⟩, (fun h => by cases h), (fun h => by cases h), (fun h => by cases h), (fun h => by cases h)⟩
  · rintro L a' W ⟨c0, c2, c4, c5, c6, c7, c8, c9, c10, c13, c14, c15, g35, g39, v37, v40, p9, p11, cs2, FV, rfl, rfl, hT, hF, hO⟩
    exact hT.bel
  · rintro L a' W ⟨c0, c2, c4, c5, c6, c7, c8, c9, c10, c13, c14, c15, g35, g39, v37, v40, p9, p11, cs2, FV, rfl, rfl, hT, hF, hO⟩ hr
    obtain rfl : c0 = true := by
      cases c0 with
      | true => rfl
      | false => exact (ready_no hr 0 (show 0 < 16 by decide) _ rfl rfl (by kernel_rfl)).elim
    obtain rfl : c2 = true := by
      cases c2 with
      | true => rfl
      | false => exact (ready_no hr 2 (show 2 < 16 by decide) _ rfl rfl (by kernel_rfl)).elim
    obtain rfl : c4 = true := by
      cases c4 with
      | true => rfl
      | false => exact (ready_no hr 4 (show 4 < 16 by decide) _ rfl rfl (by kernel_rfl)).elim
    obtain rfl : c5 = true := by
      cases c5 with
      | true => rfl
      | false => exact (ready_no hr 5 (show 5 < 16 by decide) _ rfl rfl (by kernel_rfl)).elim
    obtain rfl : c6 = true := by
      cases c6 with
      | true => rfl
      | false => exact (ready_no hr 6 (show 6 < 16 by decide) _ rfl rfl (by kernel_rfl)).elim
    obtain rfl : c7 = true := by
      cases c7 with
      | true => rfl
      | false => exact (ready_no hr 7 (show 7 < 16 by decide) _ rfl rfl (by kernel_rfl)).elim
    obtain rfl : c8 = true := by
      cases c8 with
      | true => rfl
      | false => exact (ready_no hr 8 (show 8 < 16 by decide) _ rfl rfl (by kernel_rfl)).elim
    obtain rfl : c9 = true := by
      cases c9 with
      | true => rfl
      | false => exact (ready_no hr 9 (show 9 < 16 by decide) _ rfl rfl (by kernel_rfl)).elim
    obtain rfl : c10 = true := by
      cases c10 with
      | true => rfl
      | false => exact (ready_no hr 10 (show 10 < 16 by decide) _ rfl rfl (by kernel_rfl)).elim
    obtain ⟨g9, rfl⟩ : ∃ x, p9 = some x := by
      cases p9 with
      | some x => exact ⟨x, rfl⟩
      | none => exact (ready_no hr 11 (show 11 < 16 by decide) _ rfl rfl (by kernel_rfl)).elim
    obtain ⟨g11, rfl⟩ : ∃ x, p11 = some x := by
      cases p11 with
      | some x => exact ⟨x, rfl⟩
      | none => exact (ready_no hr 12 (show 12 < 16 by decide) _ rfl rfl (by kernel_rfl)).elim
    obtain rfl : c13 = true := by
      cases c13 with
      | true => rfl
      | false => exact (ready_no hr 13 (show 13 < 16 by decide) _ rfl rfl (by kernel_rfl)).elim
    obtain rfl : c14 = true := by
      cases c14 with
      | true => rfl
      | false => exact (ready_no hr 14 (show 14 < 16 by decide) _ rfl rfl (by kernel_rfl)).elim
    obtain rfl : c15 = true := by
      cases c15 with
      | true => rfl
      | false => exact (ready_no hr 15 (show 15 < 16 by decide) _ rfl rfl (by kernel_rfl)).elim
    obtain ⟨Ae, ne, ce, rfl⟩ := hF rfl
    have hBW := HB2.out.trans (hT.bel.mono hlo2)
    have hz2 : w1.heap.size + 1 + 1 ≤ W.heap.size := by have := hT.bel.size; have := HZ2.out; omega
    have b9 : Blk W g9 49 cs2.toArray := (hT.e9 g9 rfl).2
    have b11 : Blk W g11 51 #[.int .i64 q1, .int .i64 q2, .slice Ae ne ce] := (hT.e11 g11 rfl).2
    have bA : Blk W w1.heap.size 49 cs.toArray := HA2.out.below hT.bel (by have := HZ2.out; omega)
    have hA2 := (hT.e41 rfl).rdAt
    have hA1 := (HAt2.out.below (hT.bel.mono (by have := HZ2.out; omega))).more (show w1.heap.size ≤ W.heap.size by omega)
    have y1 : W.cell? ⟨w.heap.size, 1, none⟩ = some (.int .i64 k) := (HN2.out.below hT.bel HN2.out.lt).cell 1
    have z0 : W.cell? ⟨g11, 0, none⟩ = some (.int .i64 q1) := b11.cell 0
    have z1 : W.cell? ⟨g11, 1, none⟩ = some (.int .i64 q2) := b11.cell 1
    have HBW := Lib.hid hBW
    have HEW : Hid (EnvK W) := Lib.hid (HE.out.below hBW)
    have HSh2 := Lib.hid (hT.e41 rfl).shape
    have R1 := Lib.hid (Blk.range bA)
    have R2 := Lib.hid (Blk.range b9)
    have HA1 := Lib.hid hA1
    have HA2' := Lib.hid hA2
    obtain ⟨t1, t2, t3⟩ := HTw.out
    try simp only at t1 t2 t3
    have T1 := Lib.hid t1
    have T2 := Lib.hid t2
    have T3 := Lib.hid t3
    have HAliv : Hid (∀ W', Below W.heap.size W W' → Calls Tryd.prog 10 #[] W' fun e w' => e = .returned (.bool true) ∧ Below w.heap.size w w') := Lib.hid fun W' hb => (alive_is W' (HEW.out.below hb)).mono fun e w' ⟨he, hb'⟩ => ⟨he, HBW.out.trans ((hb.mono HBW.out.size).trans (hb'.mono (Nat.le_trans HBW.out.size hb.size)))⟩
    clear hr hT hF hO hBW b9 b11 bA hA2 hA1 t1 t2 t3 hS HTw HB2 HN2 HAt2 HA2 HZ2 HRs HRv HRdA HEn HLe HR
    simp only [cond_true, pp, Act.put, List.setIfInBounds_toArray, List.set_cons_zero, List.set_cons_succ]
    by_cases hc3 : cl = 3
    · have hd3 := T1.out hc3
      subst hc3
      subst hd3
      clear z0 z1 y1
      go_wp2_with fail
      refine (HAliv.out W (Below.refl _ _)).mono ?_
      rintro e w9 ⟨rfl, hB9⟩
      have HB9 := Lib.hid hB9
      clear hB9
      go_wp2
      go_ret
      exact ⟨rfl, HB9.out⟩
    · have ec3 : (cl == 3) = false := by simpa using hc3
      by_cases hk : k = 14 ∨ k = 15
      · obtain ⟨hd3, hq1, hq2⟩ := T2.out hc3 hk
        subst hd3 hq1 hq2
        rcases hk with rfl | rfl
        · go_wp2_with fail
          refine (HAliv.out W (Below.refl _ _)).mono ?_
          rintro e w9 ⟨rfl, hB9⟩
          have HB9 := Lib.hid hB9
          clear hB9
          go_wp2
          go_ret
          exact ⟨rfl, HB9.out⟩
        · go_wp2_with fail
          refine (HAliv.out W (Below.refl _ _)).mono ?_
          rintro e w9 ⟨rfl, hB9⟩
          have HB9 := Lib.hid hB9
          clear hB9
          go_wp2
          go_ret
          exact ⟨rfl, HB9.out⟩
      · obtain ⟨hat, hdc⟩ := T3.out hc3 hk
        have e14 : (k == 14) = false := by rw [beq_eq_false_iff_ne]; omega
        have e15 : (k == 15) = false := by rw [beq_eq_false_iff_ne]; omega
        have HSm := Lib.hid (sameA_is W cs cs2 (readM rs).1 HA1.out (by have h := HA2'.out; rwa [hat] at h) HOk.out)
        clear hat hk z0 z1
        have hdd : (d == cl) = true ∨ ((d == cl) = false ∧ (cl == 0) = true ∧ (d == 1) = true) := by
          rcases hdc with e | ⟨e1, e2⟩
          · left; rw [e]; simp
          · right; rw [e1, e2]; decide
        clear hdc
        go_wp2_with (first
          | (refine att_fetch (op := ⟨_, .load 49 (.tmp 6), _, _, _, _⟩) rfl _ rfl w1.heap.size cs HCl.out rfl R1.out ?_)
          | (refine att_fetch (op := ⟨_, .load 49 (.tmp 9), _, _, _, _⟩) rfl _ rfl g9 cs2 HSh2.out.1 rfl R2.out ?_))
        refine HSm.out.mono ?_
        rintro e w8 ⟨rfl, hB8⟩
        have HC8 := Lib.hid (HAliv.out w8 hB8)
        clear hB8 HSm
        rcases hdd with h1 | ⟨h1, h2, h3⟩
        · go_wp2_with fail
          refine HC8.out.mono ?_
          rintro e w9 ⟨rfl, hB9⟩
          have HB9 := Lib.hid hB9
          clear hB9
          go_wp2
          go_ret
          exact ⟨rfl, HB9.out⟩
        · go_wp2_with fail
          refine HC8.out.mono ?_
          rintro e w9 ⟨rfl, hB9⟩
          have HB9 := Lib.hid hB9
          clear hB9
          go_wp2
          go_ret
          exact ⟨rfl, HB9.out⟩
  · rintro L a' W ⟨c0, c2, c4, c5, c6, c7, c8, c9, c10, c13, c14, c15, g35, g39, v37, v40, p9, p11, cs2, FV, rfl, rfl, hT, hF, hO⟩ i hi
    obtain ⟨hi1, hi2, hi3⟩ := ready_mem hi
    clear hi
    have hi4 : i = 0 ∨ i = 1 ∨ i = 2 ∨ i = 3 ∨ i = 4 ∨ i = 5 ∨ i = 6 ∨ i = 7 ∨ i = 8 ∨ i = 9 ∨ i = 10 ∨ i = 11 ∨ i = 12 ∨ i = 13 ∨ i = 14 ∨ i = 15 := by
      have : i < 16 := hi1
      omega
    clear hi1
    have hlo : w2.heap.size ≤ W.heap.size := hT.bel.size
    rcases hi4 with rfl | rfl | rfl | rfl | rfl | rfl | rfl | rfl | rfl | rfl | rfl | rfl | rfl | rfl | rfl | rfl
    · obtain rfl : c0 = false := hi2
      refine wpOp_value rfl rfl (.slice (some ⟨W.heap.size, 0, none⟩) 0 0) (W.alloc (.cells #[] 32)) (by kernel_rfl) ?_
      exact ⟨true, c2, c4, c5, c6, c7, c8, c9, c10, c13, c14, c15, _, g39, v37, v40, p9, p11, cs2, FV, by kernel_rfl, by kernel_rfl, hT.s0, hF, hO⟩
    · exact Bool.noConfusion (show true = false from hi2)
    · obtain rfl : c2 = false := hi2
      obtain rfl : c0 = true := hi3 _ rfl 0 _ rfl rfl
      obtain ⟨h35, h35b⟩ := hT.e35 rfl rfl
      have hov : OwnV w.heap.size w2.heap.size W (.slice (some ⟨g35, 0, none⟩) 0 0) [] := OwnV.nil_ _ _ _ hlo2 g35 0 h35 h35b
      obtain ⟨v', w', hrun, hov', hb', hg', _⟩ := run_app_raws hov hlo (c := c) (HRs.out.below (hT.bel.mono hlo2)) hnp (by have := HLe.out.1; simp; omega) 23
      refine wpOp_app rfl rfl (.tmp 35) (.tmp 36) 23 23 rfl (.slice (some ⟨g35, 0, none⟩) 0 0) (.slice (some ⟨b, off, none⟩) n c) (by kernel_rfl) (by kernel_rfl) v' w' hrun ?_
      exact ⟨true, true, c4, c5, c6, c7, c8, c9, c10, c13, c14, c15, g35, g39, v', v40, p9, p11, cs2, FV, by kernel_rfl, by kernel_rfl, hT.s2 (by simpa using hov') hb' hg', hF, hO⟩
    · exact Bool.noConfusion (show true = false from hi2)
    · obtain rfl : c4 = false := hi2
      refine wpOp_value rfl rfl (.slice (some ⟨W.heap.size, 0, none⟩) 1 1) (W.alloc (.cells #[.int .i64 f, .int .i64 k, .slice A1 n1 c1] 32)) (by kernel_rfl) ?_
      exact ⟨c0, c2, true, c5, c6, c7, c8, c9, c10, c13, c14, c15, g35, _, v37, v40, p9, p11, cs2, FV, by kernel_rfl, by kernel_rfl, hT.s4, hF, hO⟩
    · obtain rfl : c5 = false := hi2
      obtain rfl : c2 = true := hi3 _ rfl 0 _ rfl rfl
      obtain rfl : c4 = true := hi3 _ rfl 1 _ rfl rfl
      obtain ⟨v', w', hrun, hov', hb', hg', ht'⟩ := run_app_raw1 (hT.e37 rfl rfl) hlo (hT.e39 rfl rfl).2 (HRv.out.below (hT.bel.mono hlo2)) HLe.out.2 23
      refine wpOp_app rfl rfl (.tmp 37) (.tmp 39) 23 23 rfl v37 (.slice (some ⟨g39, 0, none⟩) 1 1) (by kernel_rfl) (by kernel_rfl) v' w' hrun ?_
      exact ⟨c0, true, true, true, c6, c7, c8, c9, c10, c13, c14, c15, g35, g39, v37, v', p9, p11, cs2, FV, by kernel_rfl, by kernel_rfl, hT.s5 (by rw [HAl.out]; exact hov') hb' hg' (fun i e => (ht' i e).2), hF, hO⟩
    · obtain rfl : c6 = false := hi2
      obtain rfl : c5 = true := hi3 _ rfl 0 _ rfl rfl
      obtain rfl : c7 = false := by
        cases c7 with
        | false => rfl
        | true => exact Bool.noConfusion (show false = true from hO.1 rfl)
      obtain rfl : c8 = false := by
        cases c8 with
        | false => rfl
        | true => exact Bool.noConfusion (show false = true from hO.2.1 rfl)
      obtain rfl : c10 = false := by
        cases c10 with
        | false => rfl
        | true => exact Bool.noConfusion (show false = true from hO.2.2 rfl)
      obtain ⟨A4, c4', hv40, hr4⟩ := (hT.e40 rfl rfl).rd hlo
      subst hv40
      refine wpOp_calls rfl rfl 23 #[.slice A4 al.length c4'] (by kernel_rfl) (HRdA.out W A4 c4' (HEn.out W hT.bel) hr4) ?_
      rintro e w' ⟨cs3, Ae, ne, ce, rfl, hat, _, hb'⟩
      refine ⟨_, rfl, ?_⟩
      rw [← HDq.out.1, ← HDq.out.2.1, ← HDq.out.2.2]
      exact ⟨c0, c2, c4, true, true, false, false, c9, false, c13, c14, c15, g35, g39, v37, _, p9, p11, cs3, _, by kernel_rfl, by kernel_rfl, hT.s6 hb' hat, (fun _ => ⟨Ae, ne, ce, rfl⟩), (fun _ => rfl), (fun _ => rfl), (fun _ => rfl)⟩
    · obtain rfl : c7 = false := hi2
      obtain rfl : c6 = true := hi3 _ rfl 0 _ rfl rfl
      refine wpOp_value rfl rfl (.tuple #[.agg cs2.toArray, .int .i64 d, .agg FV]) W (by kernel_rfl) ?_
      exact ⟨c0, c2, c4, c5, true, true, c8, c9, c10, c13, c14, c15, g35, g39, v37, v40, p9, p11, cs2, FV, by kernel_rfl, by kernel_rfl, hT, hF, (fun _ => rfl), (fun _ => rfl), (fun _ => rfl)⟩
    · obtain rfl : c8 = false := hi2
      obtain rfl : c7 = true := hi3 _ rfl 0 _ rfl rfl
      refine wpOp_value rfl rfl (.agg cs2.toArray) W (by kernel_rfl) ?_
      exact ⟨c0, c2, c4, c5, c6, true, true, c9, c10, c13, c14, c15, g35, g39, v37, v40, p9, p11, cs2, FV, by kernel_rfl, by kernel_rfl, hT, hF, (fun _ => hO.1 rfl), (fun _ => hO.1 rfl), (fun _ => hO.1 rfl)⟩
    · obtain rfl : c9 = false := hi2
      obtain rfl : c7 = true := hi3 _ rfl 0 _ rfl rfl
      refine wpOp_value rfl rfl (.int .i64 d) W (by kernel_rfl) ?_
      exact ⟨c0, c2, c4, c5, c6, true, c8, true, c10, c13, c14, c15, g35, g39, v37, v40, p9, p11, cs2, FV, by kernel_rfl, by kernel_rfl, hT, hF, hO⟩
    · obtain rfl : c10 = false := hi2
      obtain rfl : c7 = true := hi3 _ rfl 0 _ rfl rfl
      refine wpOp_value rfl rfl (.agg FV) W (by kernel_rfl) ?_
      exact ⟨c0, c2, c4, c5, c6, true, c8, c9, true, c13, c14, c15, g35, g39, v37, v40, p9, p11, cs2, FV, by kernel_rfl, by kernel_rfl, hT, hF, (fun _ => hO.1 rfl), (fun _ => hO.1 rfl), (fun _ => hO.1 rfl)⟩
    · obtain rfl : p9 = none := by
        cases p9 with
        | none => rfl
        | some x => exact Bool.noConfusion (show true = false from hi2)
      obtain ⟨rfl, hT'⟩ := hT.s11
      refine wpOp_value rfl rfl (.pointer (some ⟨W.heap.size, 0, none⟩)) (W.alloc (.cells #[Value.int .i64 0, .slice none 0 0, .bool false, .int .u32 0, .int .u32 0, .int .u32 0, .slice none 0 0, .slice none 0 0, .int .i64 0, .int .u32 0, .bool false, .int .u8 0, .int .u8 0, .int .u8 0, .int .u8 0, .int .u8 0, .int .u8 0, .int .u8 0, .int .u8 0, .int .u8 0, .int .u8 0, .int .u8 0, .int .u8 0, .int .u8 0, .int .u8 0, .int .u8 0, .int .u8 0] 49)) (by kernel_rfl) ?_
      exact ⟨c0, c2, c4, c5, c6, c7, c8, c9, c10, false, c14, c15, g35, g39, v37, v40, some W.heap.size, p11, cs2, FV, by kernel_rfl, by kernel_rfl, hT', hF, hO⟩
    · obtain rfl : p11 = none := by
        cases p11 with
        | none => rfl
        | some x => exact Bool.noConfusion (show true = false from hi2)
      obtain ⟨rfl, hT'⟩ := hT.s12
      refine wpOp_value rfl rfl (.pointer (some ⟨W.heap.size, 0, none⟩)) (W.alloc (.cells #[.int .i64 0, .int .i64 0, .slice none 0 0] 51)) (by kernel_rfl) ?_
      exact ⟨c0, c2, c4, c5, c6, c7, c8, c9, c10, c13, c14, false, g35, g39, v37, v40, p9, some W.heap.size, cs2, FV, by kernel_rfl, by kernel_rfl, hT', hF, hO⟩
    · obtain rfl : c13 = false := hi2
      obtain ⟨g, rfl⟩ : ∃ x, p9 = some x := Option.isSome_iff_exists.1 (show p9.isSome = true from hi3 _ rfl 0 _ rfl rfl)
      obtain rfl : c8 = true := hi3 _ rfl 1 _ rfl rfl
      obtain rfl : c6 = true := hi3 _ rfl 2 _ rfl rfl
      obtain ⟨hcl2, hc12⟩ := (hT.e41 rfl).shape
      refine wpOp_row rfl rfl 49 (.tmp 9) (.tmp 42) rfl g cs2.toArray (by kernel_rfl) (by kernel_rfl) 49 _ (hT.e9 g rfl).2 (by rw [asz]; simp [hcl2]) (by simp [hcl2]) (all_oneCell_toArray hc12) ?_
      exact ⟨c0, c2, c4, c5, true, c7, true, c9, c10, true, c14, c15, g35, g39, v37, v40, some g, p11, cs2, FV, by kernel_rfl, by kernel_rfl, hT.s13, hF, (fun _ => rfl), (fun _ => rfl), (fun _ => rfl)⟩
    · obtain rfl : c14 = false := hi2
      obtain rfl : c9 = true := hi3 _ rfl 0 _ rfl rfl
      refine wpOp_value rfl rfl (.int .i64 d) W (by kernel_rfl) ?_
      exact ⟨c0, c2, c4, c5, c6, c7, c8, true, c10, c13, true, c15, g35, g39, v37, v40, p9, p11, cs2, FV, by kernel_rfl, by kernel_rfl, hT, hF, hO⟩
    · obtain rfl : c15 = false := hi2
      obtain ⟨g, rfl⟩ : ∃ x, p11 = some x := Option.isSome_iff_exists.1 (show p11.isSome = true from hi3 _ rfl 0 _ rfl rfl)
      obtain rfl : c10 = true := hi3 _ rfl 1 _ rfl rfl
      obtain rfl : c6 = true := hi3 _ rfl 9 _ rfl rfl
      obtain ⟨Ae, ne, ce, rfl⟩ := hF rfl
      refine wpOp_row rfl rfl 51 (.tmp 11) (.tmp 44) rfl g #[.int .i64 q1, .int .i64 q2, .slice Ae ne ce] (by kernel_rfl) (by kernel_rfl) 51 _ (hT.e11 g rfl).2 fsz rfl (by kernel_rfl) ?_
      exact ⟨c0, c2, c4, c5, true, c7, c8, c9, true, c13, c14, true, g35, g39, v37, v40, p9, some g, cs2, _, by kernel_rfl, by kernel_rfl, hT.s15, (fun _ => ⟨Ae, ne, ce, rfl⟩), (fun _ => rfl), (fun _ => rfl), (fun _ => rfl)⟩
end Go.Proofs.YtiohgblinjignaaDoor
namespace Go.Proofs.YtiohgblinjignaaDoor.attrTwice
open Go.ChangeShapes Go.WideShapes Go.ChangeAt Go.RowKit
open Go.ChangeMaps (open_string shut_string)
set_option linter.unusedVariables false

theorem own : ownKnob Tryd.prog.godebug = none := by kernel_rfl
theorem laidOut : laidOutB Tryd.prog = true := by kernel_rfl

set_option maxRecDepth 100000 in
theorem lifted (os : Os) (started : os.Started) (H : Type) (enc : TypeId × Value → H) :
    ReturnsInHanded {} Tryd.checked os 9 .any (fun w args => (Rows.attrTwiceSpec.pre enc Tryd.prog Tryd.f9 [] false w args ∧ laidMetH Tryd.prog laidK w) ∧ sizedMet enc Tryd.prog Tryd.f9 (OpenSpec.ofChange Rows.attrTwiceSpec) false w args)
      (Rows.attrTwiceSpec.post enc Tryd.prog Tryd.f9 false true false false) := by
  refine wrap_rows (C := Tryd.checked) (X := fun w _ => laidMetH Tryd.prog laidK w) (fun _ _ _ hh h => h.of_heap hh) own started (by kernel_rfl) Tryd.func9
    (ChangeSpec.witness_shaped (enc := enc) (C := Tryd.checked) (os := os) (X := fun w _ => laidMetH Tryd.prog laidK w) false (World.laidAll Tryd.prog os laidK) #[.slice none 0 0, .int .i64 0] 8 (World.laidAll_os _ _ _)
      (World.shaped_of_ZipB (by kernel_rfl) (by kernel_rfl)) (by kernel_rfl) (by kernel_rfl) (by kernel_rfl)
      (by rw [MakeChecks.laidMetH_plain _ _ _ (by kernel_rfl)]; exact laidMet_laidAll _ (by kernel_rfl) (by kernel_rfl))) ?_
  intro W base args ds gs before hval0 hW hsz0 hL0 hshape
  have hval : ∀ (j : Nat) t v, Tryd.f9.params[j]? = some t → args[j]? = some v → Value.okWide Tryd.prog W .any base t v := hval0
  have hsz : (DataW.weightsEach Tryd.prog (Tryd.f9.params.toList ++ Rows.attrTwiceSpec.plain.varTypes Tryd.prog) (ds ++ gs)).all (· ≤ reachBytes) = true := hsz0
  have hL : laidMetH Tryd.prog laidK W := hL0
  rw [MakeChecks.laidMetH_plain _ _ _ (by kernel_rfl)] at hL
  have E : EnvK W := envK_of hL
  have hW' := hW
  obtain ⟨p, q, hA0, hV, rfl, hfz, hnd⟩ := hW
  have hA : DataW.TrodAll enc Tryd.prog W 0 (fun _ => true) true Tryd.f9.params.toList args.toList ds p := hA0
  rw [Tryd.params9] at hA hval hsz
  obtain ⟨v0, vs0, d0, ds0, p0, q0, hargs, rfl, rfl, h0, r0⟩ := trodAll_cons hA
  obtain ⟨v1, vs1, d1, ds1, p1, q1, rfl, rfl, rfl, h1, r1⟩ := trodAll_cons r0
  obtain ⟨rfl, rfl, rfl⟩ := trodAll_nil r1
  obtain rfl : args = #[v0, v1] := by cases args; simp_all
  obtain ⟨rfl, rfl⟩ := trodVars_none hV
  obtain ⟨a0, len0, cap0, rfl⟩ := okWide_slice Tryd.underlying23 (hval 0 23 v0 rfl rfl)
  have lt0 : ∀ x ∈ p0, x.block < W.heap.size := by obtain ⟨m, hm⟩ := h0; exact DataW.trod_lt m _ _ _ hm
  obtain ⟨l0, rd0, sz0⟩ := open_raws Tryd.underlying23 Tryd.underlying32 (by kernel_rfl) (by kernel_rfl) Tryd.underlying3 Tryd.underlying3 Tryd.underlying22 Tryd.underlying5 (by kernel_rfl) (by kernel_rfl) (by kernel_rfl) h0 hsz (j := 0) rfl rfl
  obtain ⟨a1, rfl, rfl, rfl, w1⟩ := open_int Tryd.underlying3 (hval 1 3 v1 rfl rfl) h1
  have b1 : -9223372036854775808 ≤ a1 ∧ a1 ≤ 9223372036854775807 := by simpa [Lit.wf, IntKind.min, IntKind.max, IntKind.signed, IntKind.bits] using w1
  have c1 : (-9223372036854775808 ≤ a1 ∧ a1 < 9223372036854775808) := ⟨b1.1, Int.lt_of_le_of_lt b1.2 (by decide)⟩
  clear hA0 hval0 hsz hsz0
  refine (attrTwice_walk W E a0 len0 cap0 l0 a1 rd0 sz0 c1).mono fun e W' ⟨he, bel⟩ => ?_
  subst he
  exact ⟨_, rfl, _, _, _, [], _, [], hW', trodAll_mk1 (shut_bool Tryd.underlying4 _), (trodAll_cons_mk (Below.trod laidOut (by kernel_rfl) (of_decide_eq_true (by kernel_rfl)) h0 bel lt0) (trodAll_cons_mk (shut_int Tryd.underlying3 w1) trodAll_mk0)), rfl, bel.frame _, fun h => by cases h⟩

theorem over : Rows.attrTwiceRow.holds Tryd.pinned (OpenSpec.ofChange Rows.attrTwiceSpec) :=
  OpenClaim.holds_of_wide 9 Tryd.f9 rfl rfl rfl rfl rfl rfl rfl ⟨rfl, rfl, rfl, rfl, rfl⟩ rfl rfl rfl rfl rfl (by kernel_rfl) Tryd.func9 (by kernel_rfl)
    (of_decide_eq_true (by kernel_rfl)) (by unfold Func.isWrapper; first | (rw [if_pos (by decide +kernel)]; kernel_rfl) | (rw [if_neg (by decide +kernel)]; exact ⟨rfl, rfl⟩))
    (fun os started H enc _ => lifted os started H enc)

theorem proved : Rows.AttrTwiceCardSaid :=
  Claim7.holds_tied_plain_at .later [] [.data] true Rows.attrTwiceCard.stood.harness false
    over (fun _ h => by cases h) (by kernel_rfl) (fun _ h => by cases h) attrTwice_row_tie rfl ⟨rfl, rfl⟩ (by kernel_rfl) rfl
    (fun f fn hf hfn => by
      obtain rfl : f = 9 := Option.some.inj ((show Tryd.prog.funcNamed "weft/weftlaw05.AttrTwice" = some 9 by kernel_rfl).symm.trans hf) |>.symm
      obtain rfl : fn = Tryd.f9 := (Option.some.inj (Tryd.func9.symm.trans hfn)).symm
      exact ⟨by kernel_rfl, fun j t ht => by
        rw [Tryd.params9] at ht
        have hm : t ∈ [23, 3] := by simpa using Array.mem_of_getElem? ht
        have hall : ([23, 3].all fun u => !Tryd.prog.wantsStandIn u) = true := by kernel_rfl
        exact (show Tryd.prog.wantsStandIn t = false by simpa using List.all_eq_true.1 hall t hm)⟩)
    (by kernel_rfl)
#print axioms proved
end Go.Proofs.YtiohgblinjignaaDoor.attrTwice
