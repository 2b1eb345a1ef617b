/-
  NARROWER THAN 'FOR EVERY INPUT', by the rows' own cells (each row's printed sentence says how): AttrWrites: laid · AttrBack: laid.
  DERIVED. THE GIVEN ROWS OF THIS SEAT. 2 by the template 'for every input the law returns true; each argument reads behind the call as it read before'; 0 by the template 'total and deterministic' (their statements: YtickcfcncpnaiaaDoorTotals.lean).
  GIVEN WITH THE SEED: the statements are not yours to turn. If you find one false, say at which input.
  Laid BY PROGRAM, IN A SANDBOX (cutbox-rows.mjs): the forced cells as the released guide's own fill.sh prints them over the translation 566d9cf1aa5c5f46… (all of the seat's roots in one cut). By AI agents, Wed Nov 11 2026. No macro, syntax, notation, axiom, sorry.
-/
import Derived.Test.YtickcfcncpnaiaaDoorChecked
import GoSem.Claim
import GoSem.ClaimJoined
import GoSem.ClaimMapViews
import Derived.JoinedTies
import Derived.KernelRfl
namespace Go.Proofs.YtickcfcncpnaiaaDoor
/- THE CELL 'sum', in the pinned program and in every row, IS THE sha256 OF THE DUMP (.gsa) THAT YtickcfcncpnaiaaDoorProg.lean LOADS. Nothing in Lean hashes anything: it is a label: what it is worth is what the hold of that sum in a sandbox is worth. -/
noncomputable def Tryd.pinned : Pinned := { name := "ytickcfcncpnaiaadoor", sum := "566d9cf1aa5c5f46098fad5a9d20a4945d840811eba154b0fac2a1a61b1c3abf", checked := Tryd.checked }
namespace Rows
def none {H : Type} : Left H := { results := [], args := [] }

/- WHAT THE LISTED PACKAGE-LEVEL VARIABLES READ AS WHEN THE CALL BEGINS. Each datum BY PROGRAM (the guide's laid-datum.mjs) off the statement by which the dump's own 'gosem.cut.vars' lays the variable. In a bare row this is a premise. The card (YtickcfcncpnaiaaDoorCards.lean) ties it to the program's text. -/
def laid_weft_attr_known {H : Type} : DataW H := .agg [.agg [.lit (.int .i64 1), .lit (.int .i64 64), .lit (.int .i64 2)], .agg [.lit (.int .i64 2), .lit (.int .i64 64), .lit (.int .i64 2)], .agg [.lit (.int .i64 3), .lit (.int .i64 64), .lit (.int .i64 2)], .agg [.lit (.int .i64 4), .lit (.int .i64 128), .lit (.int .i64 2)], .agg [.lit (.int .i64 5), .lit (.int .i64 64), .lit (.int .i64 2)], .agg [.lit (.int .i64 6), .lit (.int .i64 64), .lit (.int .i64 1)], .agg [.lit (.int .i64 7), .lit (.int .i64 192), .lit (.int .i64 1)], .agg [.lit (.int .i64 9), .lit (.int .i64 128), .lit (.int .i64 2)], .agg [.lit (.int .i64 10), .lit (.int .i64 128), .lit (.int .i64 2)], .agg [.lit (.int .i64 14), .lit (.int .i64 128), .lit (.int .i64 3)], .agg [.lit (.int .i64 15), .lit (.int .i64 128), .lit (.int .i64 3)], .agg [.lit (.int .i64 16), .lit (.int .i64 192), .lit (.int .i64 2)], .agg [.lit (.int .i64 22), .lit (.int .i64 192), .lit (.int .i64 2)]]

/-- 'weftlaw05.AttrWrites': WHATEVER THE INPUT: true; the input reads as it did. -/
def attrWritesSpec : ChangeSpec := { name := "attrWrites", fn := fun _ => fun
  | [d1, d2] => { results := [.lit (.bool true)], args := [d1, d2] }
  | _ => none }
def attrWritesRow : OpenClaim := { program := "ytickcfcncpnaiaadoor", sum := "566d9cf1aa5c5f46098fad5a9d20a4945d840811eba154b0fac2a1a61b1c3abf", func := "weft/weftlaw05.AttrWrites", spec := "attrWrites", named := ["weft/attr.known"], apart := false, laid := [("weft/attr.known", laid_weft_attr_known)] }
def AttrWritesSaid : Prop := attrWritesRow.holds Tryd.pinned (OpenSpec.ofChange attrWritesSpec)

/-- ITS FALSE NEIGHBOUR: 'it returns false'. Refute it at one input. -/
def attrWritesWrong : ChangeSpec := { name := "attrWrites", fn := fun _ => fun
  | [d1, d2] => { results := [.lit (.bool false)], args := [d1, d2] }
  | _ => none }
def AttrWritesWrongFalsely : Prop := attrWritesRow.holds Tryd.pinned (OpenSpec.ofChange attrWritesWrong)

/-- 'weftlaw05.AttrBack': WHATEVER THE INPUT: true; the input reads as it did. -/
def attrBackSpec : ChangeSpec := { name := "attrBack", fn := fun _ => fun
  | [d1, d2] => { results := [.lit (.bool true)], args := [d1, d2] }
  | _ => none }
def attrBackRow : OpenClaim := { program := "ytickcfcncpnaiaadoor", sum := "566d9cf1aa5c5f46098fad5a9d20a4945d840811eba154b0fac2a1a61b1c3abf", func := "weft/weftlaw05.AttrBack", spec := "attrBack", named := ["weft/attr.known"], apart := false, laid := [("weft/attr.known", laid_weft_attr_known)] }
def AttrBackSaid : Prop := attrBackRow.holds Tryd.pinned (OpenSpec.ofChange attrBackSpec)

/-- ITS FALSE NEIGHBOUR: 'it returns false'. Refute it at one input. -/
def attrBackWrong : ChangeSpec := { name := "attrBack", fn := fun _ => fun
  | [d1, d2] => { results := [.lit (.bool false)], args := [d1, d2] }
  | _ => none }
def AttrBackWrongFalsely : Prop := attrBackRow.holds Tryd.pinned (OpenSpec.ofChange attrBackWrong)

/- THE SECOND FORM. 'bulk': how many values and letters a reading holds, each counted each time it is reached (what is shared counts as often as it is met; a slice's spare places count too). A statement '..UptoSaid' is the law's where the arguments, and the package variables that the reading takes, are together of bulk at most 1048576: NARROWER than '..Said'. Prove '..Said' where nothing that the law and all that it calls make is longer than what came in: it says more and counts as full. Else prove '..UptoSaid'. A law counts once. -/
mutual
def uptoBulk {H : Type} : DataW H → Nat
  | .lit (.string bytes) => bytes.length + 1
  | .lit _ => 1
  | .nil => 1
  | .ptr d => uptoBulk d + 1
  | .slice elems spare => uptoBulkAll elems + uptoBulkAll spare + 1
  | .agg parts => uptoBulkAll parts + 1
  | .iface _ d => uptoBulk d + 1
  | .map entries => uptoBulkEntries entries + 1
  | .held _ => 1
def uptoBulkAll {H : Type} : List (DataW H) → Nat
  | [] => 0
  | d :: r => uptoBulk d + uptoBulkAll r
def uptoBulkEntries {H : Type} : List (Lit × DataW H) → Nat
  | [] => 0
  | x :: r => uptoBulkEntry x + uptoBulkEntries r
def uptoBulkEntry {H : Type} : Lit × DataW H → Nat
  | (.string bytes, d) => bytes.length + uptoBulk d + 1
  | (_, d) => uptoBulk d + 1
 end
def uptoSmall : (H : Type) → List (DataW H) → Bool := fun _ ds => decide (uptoBulkAll ds ≤ 1048576)
def OpenSpec.upto (s : _root_.Go.ChangeSpec) : _root_.Go.OpenSpec := { _root_.Go.OpenSpec.ofChange s with cond := some uptoSmall }

/-- 'weftlaw05.AttrWrites', WHERE WHAT IT READS IS OF BULK AT MOST 1048576: true; the input reads as it did. -/
def attrWritesUptoRow : OpenClaim := { program := "ytickcfcncpnaiaadoor", sum := "566d9cf1aa5c5f46098fad5a9d20a4945d840811eba154b0fac2a1a61b1c3abf", func := "weft/weftlaw05.AttrWrites", spec := "attrWrites", named := ["weft/attr.known"], apart := false, laid := [("weft/attr.known", laid_weft_attr_known)], narrowed := true }
def AttrWritesUptoSaid : Prop := attrWritesUptoRow.holds Tryd.pinned (OpenSpec.upto attrWritesSpec)

/-- 'weftlaw05.AttrBack', WHERE WHAT IT READS IS OF BULK AT MOST 1048576: true; the input reads as it did. -/
def attrBackUptoRow : OpenClaim := { program := "ytickcfcncpnaiaadoor", sum := "566d9cf1aa5c5f46098fad5a9d20a4945d840811eba154b0fac2a1a61b1c3abf", func := "weft/weftlaw05.AttrBack", spec := "attrBack", named := ["weft/attr.known"], apart := false, laid := [("weft/attr.known", laid_weft_attr_known)], narrowed := true }
def AttrBackUptoSaid : Prop := attrBackUptoRow.holds Tryd.pinned (OpenSpec.upto attrBackSpec)

end Rows
end Go.Proofs.YtickcfcncpnaiaaDoor
