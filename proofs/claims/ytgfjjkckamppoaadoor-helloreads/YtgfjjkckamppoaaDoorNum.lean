/-
  Plain mathematics of bytes as numbers; keys (arrays and structs of plain cells) compared.
-/
import Derived.Test.YtgfjjkckamppoaaDoorWords
import Derived.Laws.BitsAllLaws
import Derived.DeepKeys
namespace Go.Proofs.YtgfjjkckamppoaaDoor
open Go.RowKit
set_option maxRecDepth 100000

/-- The number in bytes, the highest one first. -/
def numOf (l : List Int) : Int := l.foldl (fun n b => n * 256 + b) 0
theorem numOf_snoc (l : List Int) (b : Int) : numOf (l ++ [b]) = numOf l * 256 + b := by simp [numOf]
theorem numOf_bd_take (l : List Int) (h : Oct l) : ∀ m, m ≤ l.length → 0 ≤ numOf (l.take m) ∧ numOf (l.take m) < 256 ^ m
  | 0, _ => by simp [numOf]
  | m + 1, hm => by
    have ih := numOf_bd_take l h m (by omega)
    have hb := h l[m] (List.getElem_mem (by omega))
    rw [List.take_succ_eq_append_getElem (by omega), numOf_snoc, Int.pow_succ]
    omega
theorem numOf_bd (l : List Int) (h : Oct l) : 0 ≤ numOf l ∧ numOf l < 256 ^ l.length := by
  have := numOf_bd_take l h l.length (Nat.le_refl _)
  rwa [List.take_length] at this
theorem numOf_or (N x : Int) (h0 : 0 ≤ N) (h1 : N < 72057594037927936) (hx0 : 0 ≤ x) (hx1 : x < 256) :
    bits .or .u64 (IntKind.u64.wrap (N * 256)) (IntKind.u64.wrap x) = N * 256 + x := by
  rw [IntKind.wrap_u64, IntKind.wrap_u64, Int.emod_eq_of_lt (by omega) (by omega), Int.emod_eq_of_lt (by omega) (by omega), u64_or _ _ (by omega) (by omega) (by omega) (by omega)]
  obtain ⟨n, rfl⟩ := Int.eq_ofNat_of_zero_le h0
  obtain ⟨y, rfl⟩ := Int.eq_ofNat_of_zero_le hx0
  have hy : y < 2 ^ 8 := by omega
  have e : ((n : Int) * 256).toNat = 2 ^ 8 * n := by omega
  rw [e, Int.toNat_natCast, ← Nat.two_pow_add_eq_or_of_lt hy]
  omega
theorem pow256_7 : ∀ m, m < 8 → (256 : Int) ^ m ≤ 72057594037927936 := by decide
theorem numOf_step (xs : List Int) (m : Nat) (hm : m < xs.length) (h8 : xs.length ≤ 8) (ho : Oct xs) :
    bits .or .u64 (IntKind.u64.wrap (numOf (xs.take m) * 256)) (IntKind.u64.wrap xs[m]) = numOf (xs.take (m + 1)) := by
  have hb := numOf_bd_take xs ho m (by omega)
  have hx := ho xs[m] (List.getElem_mem hm)
  have hp := pow256_7 m (by omega)
  rw [numOf_or _ _ hb.1 (by omega) hx.1 hx.2, List.take_succ_eq_append_getElem hm, numOf_snoc]

/-- The cells of bytes. -/
abbrev u8s (l : List Int) : List Value := l.map (Value.int .u8)

theorem u8s_inj {a b : List Int} (h : u8s a = u8s b) : a = b := by
  have := congrArg (List.map fun v : Value => match v with | .int _ n => n | _ => 0) h
  simpa [u8s, List.map_map, Function.comp_def] using this

/-- Two aggregates of a type that can be a key are compared by their literals. -/
theorem run_eql_key {P : Program} {t : TypeId} (m D D' : Nat) (hk : P.keyTypeAt m t = true) (hm : m ≤ 10000) (xs ys : Array Value) (lx ly : List Lit)
    (fx : (Value.agg xs).formed P t = true) (fy : (Value.agg ys).formed P t = true) (hx : P.keyLits D t xs.toList = some lx) (hy : P.keyLits D' t ys.toList = some ly) (b : Bool) (hb : b = true ↔ lx = ly) (w : World) :
    (binOp .eql t (.agg xs) (.agg ys)).run P w = .ok (.bool b) w := by
  obtain ⟨r, hr, hiff⟩ := run_equalIn_deep (10000 - m) m t hk w D D' (.agg xs) (.agg ys) lx ly fx fy (by simpa [Value.cells] using hx) (by simpa [Value.cells] using hy)
  rw [show 10000 - m + m = 10000 by omega] at hr
  rw [run_eql_struct, hr]
  have : r = b := by rw [Bool.eq_iff_iff, hiff, hb]
  simp [Result.andThen, this]
theorem run_neq_key {P : Program} {t : TypeId} (m D D' : Nat) (hk : P.keyTypeAt m t = true) (hm : m ≤ 10000) (xs ys : Array Value) (lx ly : List Lit)
    (fx : (Value.agg xs).formed P t = true) (fy : (Value.agg ys).formed P t = true) (hx : P.keyLits D t xs.toList = some lx) (hy : P.keyLits D' t ys.toList = some ly) (b : Bool) (hb : b = true ↔ lx = ly) (w : World) :
    (binOp .neq t (.agg xs) (.agg ys)).run P w = .ok (.bool (!b)) w := by
  obtain ⟨r, hr, hiff⟩ := run_equalIn_deep (10000 - m) m t hk w D D' (.agg xs) (.agg ys) lx ly fx fy (by simpa [Value.cells] using hx) (by simpa [Value.cells] using hy)
  rw [show 10000 - m + m = 10000 by omega] at hr
  rw [run_neq_struct, hr]
  have : r = b := by rw [Bool.eq_iff_iff, hiff, hb]
  simp [Result.andThen, this]
theorem mapM_some {α β : Type} {f : α → Option β} {g : α → β} : ∀ (xs : List α), (∀ x ∈ xs, f x = some (g x)) → xs.mapM f = some (xs.map g)
  | [], _ => rfl
  | x :: xs, h => by simp [List.mapM_cons, h x (by simp), mapM_some xs (fun y hy => h y (by simp [hy]))]
theorem range_map_get {α : Type} (l : List Int) (g : Int → α) : (List.range l.length).map (fun i => g (l.getD i 0)) = l.map g := by
  apply List.ext_getElem (by simp)
  intro i h1 h2
  have hi : i < l.length := by simpa using h1
  simp [List.getD, hi]
theorem oct_wf {x : Int} (h : 0 ≤ x ∧ x < 256) : (Lit.int .u8 x).wf = true := by
  simp [Lit.wf, IntKind.min, IntKind.max, IntKind.signed, IntKind.bits]; omega
theorem flatten_single {α β : Type} (g : α → β) : ∀ l : List α, (l.map fun x => [g x]).flatten = l.map g
  | [] => rfl
  | x :: l => by simp [flatten_single g l]
/-- The literals of an array of bytes. -/
theorem keyLits_u8s {P : Program} (d : Nat) {t e : TypeId} {n : Nat} (hu : P.underlying t = some (.array n e)) (he : P.underlying e = some (.int .u8)) (hce : P.cellsOf e = 1) (hct : P.cellsOf t = n)
    (l : List Int) (hl : l.length = n) (ho : Oct l) : P.keyLits (d + 2) t (u8s l) = some (l.map (Lit.int .u8)) := by
  subst hl
  unfold Program.keyLits
  rw [hu]
  simp only [hct, hce, u8s, List.length_map, if_true]
  rw [mapM_some (g := fun i => [Lit.int .u8 (l.getD i 0)])]
  · rw [range_map_get l (fun x => [Lit.int .u8 x])]
    simp only [Option.map_some, flatten_single]
  · intro i hi
    have hi' : i < l.length := by simpa using hi
    have hx := oct_wf (ho l[i] (List.getElem_mem hi'))
    unfold Program.keyLits
    rw [he]
    have : ((l.map (Value.int .u8)).drop (i * 1)).take 1 = [Value.int .u8 l[i]] := by
      rw [Nat.mul_one, ← List.map_drop, List.drop_eq_getElem_cons hi']
      rfl
    rw [this]
    simp [hx, List.getD, hi']
/-- Two arrays of bytes. -/
theorem run_eql_u8s {P : Program} {t e : TypeId} {n : Nat} (hk : P.keyTypeAt 2 t = true) (hu : P.underlying t = some (.array n e)) (he : P.underlying e = some (.int .u8)) (hce : P.cellsOf e = 1) (hct : P.cellsOf t = n)
    (l l' : List Int) (hl : l.length = n) (hl' : l'.length = n) (ho : Oct l) (ho' : Oct l') (b : Bool) (hb : decide (l = l') = b) (w : World) :
    (binOp .eql t (.agg (u8s l).toArray) (.agg (u8s l').toArray)).run P w = .ok (.bool b) w := by
  refine run_eql_key 2 2 2 hk (by omega) _ _ _ _ ?_ ?_ (by simpa using keyLits_u8s 0 hu he hce hct l hl ho) (by simpa using keyLits_u8s 0 hu he hce hct l' hl' ho') b ?_ w
  · simp [Value.formed, hu, hct, hl]
  · simp [Value.formed, hu, hct, hl']
  · subst hb
    simp only [decide_eq_true_eq]
    exact ⟨fun h => by rw [h], fun h => by
      have := congrArg (List.map fun v : Lit => match v with | .int _ n => n | _ => 0) h
      simpa [List.map_map, Function.comp_def] using this⟩
theorem run_neq_u8s {P : Program} {t e : TypeId} {n : Nat} (hk : P.keyTypeAt 2 t = true) (hu : P.underlying t = some (.array n e)) (he : P.underlying e = some (.int .u8)) (hce : P.cellsOf e = 1) (hct : P.cellsOf t = n)
    (l l' : List Int) (hl : l.length = n) (hl' : l'.length = n) (ho : Oct l) (ho' : Oct l') (b : Bool) (hb : (!decide (l = l')) = b) (w : World) :
    (binOp .neq t (.agg (u8s l).toArray) (.agg (u8s l').toArray)).run P w = .ok (.bool b) w := by
  subst hb
  refine run_neq_key 2 2 2 hk (by omega) _ _ _ _ ?_ ?_ (by simpa using keyLits_u8s 0 hu he hce hct l hl ho) (by simpa using keyLits_u8s 0 hu he hce hct l' hl' ho') _ ?_ w
  · simp [Value.formed, hu, hct, hl]
  · simp [Value.formed, hu, hct, hl']
  · simp only [decide_eq_true_eq]
    exact ⟨fun h => by rw [h], fun h => by
      have := congrArg (List.map fun v : Lit => match v with | .int _ n => n | _ => 0) h
      simpa [List.map_map, Function.comp_def] using this⟩
end Go.Proofs.YtgfjjkckamppoaaDoor
