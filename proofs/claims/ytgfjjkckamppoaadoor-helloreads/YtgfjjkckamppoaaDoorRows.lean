/-
  NARROWER THAN 'FOR EVERY INPUT', by the rows' own cells (each row's printed sentence says how): HelloPuts: laid · HelloReads: laid · HelloAgrees: laid · HelloFaults: laid · HelloBack: laid · HelloMutual: laid · HelloCut: laid.
  DERIVED. THE GIVEN ROWS OF THIS SEAT. 7 by the template 'for every input the law returns true; each argument reads behind the call as it read before'; 0 by the template 'total and deterministic' (their statements: YtgfjjkckamppoaaDoorTotals.lean).
  GIVEN WITH THE SEED: the statements are not yours to turn. If you find one false, say at which input.
  Laid BY PROGRAM, IN A SANDBOX (cutbox-rows.mjs): the forced cells as the released guide's own fill.sh prints them over the translation e91b0b1e702dd246… (all of the seat's roots in one cut). By AI agents, Wed Nov 11 2026. No macro, syntax, notation, axiom, sorry.
-/
import Derived.Test.YtgfjjkckamppoaaDoorChecked
import GoSem.Claim
import GoSem.ClaimJoined
import GoSem.ClaimMapViews
import Derived.JoinedTies
import Derived.KernelRfl
namespace Go.Proofs.YtgfjjkckamppoaaDoor
/- THE CELL 'sum', in the pinned program and in every row, IS THE sha256 OF THE DUMP (.gsa) THAT YtgfjjkckamppoaaDoorProg.lean LOADS. Nothing in Lean hashes anything: it is a label: what it is worth is what the hold of that sum in a sandbox is worth. -/
noncomputable def Tryd.pinned : Pinned := { name := "ytgfjjkckamppoaadoor", sum := "e91b0b1e702dd246466a436f7002e134098a53f21e8b3984d5fc61e7c36f59bb", checked := Tryd.checked }
namespace Rows
def none {H : Type} : Left H := { results := [], args := [] }

/- WHAT THE LISTED PACKAGE-LEVEL VARIABLES READ AS WHEN THE CALL BEGINS. Each datum BY PROGRAM (the guide's laid-datum.mjs) off the statement by which the dump's own 'gosem.cut.vars' lays the variable. In a bare row this is a premise. The card (YtgfjjkckamppoaaDoorCards.lean) ties it to the program's text. -/
def laid_weft_hello_family {H : Type} : DataW H := .agg [.lit (.int .u8 0), .lit (.int .u8 25), .lit (.int .u8 0), .lit (.int .u8 70)]

/-- 'weftlaw08.HelloPuts': WHATEVER THE INPUT: true; the input reads as it did. -/
def helloPutsSpec : ChangeSpec := { name := "helloPuts", fn := fun _ => fun
  | [d] => { results := [.lit (.bool true)], args := [d] }
  | _ => none }
def helloPutsRow : OpenClaim := { program := "ytgfjjkckamppoaadoor", sum := "e91b0b1e702dd246466a436f7002e134098a53f21e8b3984d5fc61e7c36f59bb", func := "weft/weftlaw08.HelloPuts", spec := "helloPuts", named := ["weft/hello.family"], apart := false, laid := [("weft/hello.family", laid_weft_hello_family)] }
def HelloPutsSaid : Prop := helloPutsRow.holds Tryd.pinned (OpenSpec.ofChange helloPutsSpec)

/-- ITS FALSE NEIGHBOUR: 'it returns false'. Refute it at one input. -/
def helloPutsWrong : ChangeSpec := { name := "helloPuts", fn := fun _ => fun
  | [d] => { results := [.lit (.bool false)], args := [d] }
  | _ => none }
def HelloPutsWrongFalsely : Prop := helloPutsRow.holds Tryd.pinned (OpenSpec.ofChange helloPutsWrong)

/-- 'weftlaw08.HelloReads': WHATEVER THE INPUT: true; the input reads as it did. -/
def helloReadsSpec : ChangeSpec := { name := "helloReads", fn := fun _ => fun
  | [d] => { results := [.lit (.bool true)], args := [d] }
  | _ => none }
def helloReadsRow : OpenClaim := { program := "ytgfjjkckamppoaadoor", sum := "e91b0b1e702dd246466a436f7002e134098a53f21e8b3984d5fc61e7c36f59bb", func := "weft/weftlaw08.HelloReads", spec := "helloReads", named := ["weft/hello.family"], apart := false, laid := [("weft/hello.family", laid_weft_hello_family)] }
def HelloReadsSaid : Prop := helloReadsRow.holds Tryd.pinned (OpenSpec.ofChange helloReadsSpec)

/-- ITS FALSE NEIGHBOUR: 'it returns false'. Refute it at one input. -/
def helloReadsWrong : ChangeSpec := { name := "helloReads", fn := fun _ => fun
  | [d] => { results := [.lit (.bool false)], args := [d] }
  | _ => none }
def HelloReadsWrongFalsely : Prop := helloReadsRow.holds Tryd.pinned (OpenSpec.ofChange helloReadsWrong)

/-- 'weftlaw08.HelloAgrees': WHATEVER THE INPUT: true; the input reads as it did. -/
def helloAgreesSpec : ChangeSpec := { name := "helloAgrees", fn := fun _ => fun
  | [d1, d2, d3] => { results := [.lit (.bool true)], args := [d1, d2, d3] }
  | _ => none }
def helloAgreesRow : OpenClaim := { program := "ytgfjjkckamppoaadoor", sum := "e91b0b1e702dd246466a436f7002e134098a53f21e8b3984d5fc61e7c36f59bb", func := "weft/weftlaw08.HelloAgrees", spec := "helloAgrees", named := ["weft/hello.family"], apart := false, laid := [("weft/hello.family", laid_weft_hello_family)] }
def HelloAgreesSaid : Prop := helloAgreesRow.holds Tryd.pinned (OpenSpec.ofChange helloAgreesSpec)

/-- ITS FALSE NEIGHBOUR: 'it returns false'. Refute it at one input. -/
def helloAgreesWrong : ChangeSpec := { name := "helloAgrees", fn := fun _ => fun
  | [d1, d2, d3] => { results := [.lit (.bool false)], args := [d1, d2, d3] }
  | _ => none }
def HelloAgreesWrongFalsely : Prop := helloAgreesRow.holds Tryd.pinned (OpenSpec.ofChange helloAgreesWrong)

/-- 'weftlaw08.HelloFaults': WHATEVER THE INPUT: true; the input reads as it did. -/
def helloFaultsSpec : ChangeSpec := { name := "helloFaults", fn := fun _ => fun
  | [d1, d2] => { results := [.lit (.bool true)], args := [d1, d2] }
  | _ => none }
def helloFaultsRow : OpenClaim := { program := "ytgfjjkckamppoaadoor", sum := "e91b0b1e702dd246466a436f7002e134098a53f21e8b3984d5fc61e7c36f59bb", func := "weft/weftlaw08.HelloFaults", spec := "helloFaults", named := ["weft/hello.family"], apart := false, laid := [("weft/hello.family", laid_weft_hello_family)] }
def HelloFaultsSaid : Prop := helloFaultsRow.holds Tryd.pinned (OpenSpec.ofChange helloFaultsSpec)

/-- ITS FALSE NEIGHBOUR: 'it returns false'. Refute it at one input. -/
def helloFaultsWrong : ChangeSpec := { name := "helloFaults", fn := fun _ => fun
  | [d1, d2] => { results := [.lit (.bool false)], args := [d1, d2] }
  | _ => none }
def HelloFaultsWrongFalsely : Prop := helloFaultsRow.holds Tryd.pinned (OpenSpec.ofChange helloFaultsWrong)

/-- 'weftlaw08.HelloBack': WHATEVER THE INPUT: true; the input reads as it did. -/
def helloBackSpec : ChangeSpec := { name := "helloBack", fn := fun _ => fun
  | [d1, d2] => { results := [.lit (.bool true)], args := [d1, d2] }
  | _ => none }
def helloBackRow : OpenClaim := { program := "ytgfjjkckamppoaadoor", sum := "e91b0b1e702dd246466a436f7002e134098a53f21e8b3984d5fc61e7c36f59bb", func := "weft/weftlaw08.HelloBack", spec := "helloBack", named := ["weft/hello.family"], apart := false, laid := [("weft/hello.family", laid_weft_hello_family)] }
def HelloBackSaid : Prop := helloBackRow.holds Tryd.pinned (OpenSpec.ofChange helloBackSpec)

/-- ITS FALSE NEIGHBOUR: 'it returns false'. Refute it at one input. -/
def helloBackWrong : ChangeSpec := { name := "helloBack", fn := fun _ => fun
  | [d1, d2] => { results := [.lit (.bool false)], args := [d1, d2] }
  | _ => none }
def HelloBackWrongFalsely : Prop := helloBackRow.holds Tryd.pinned (OpenSpec.ofChange helloBackWrong)

/-- 'weftlaw08.HelloMutual': WHATEVER THE INPUT: true; the input reads as it did. -/
def helloMutualSpec : ChangeSpec := { name := "helloMutual", fn := fun _ => fun
  | [d1, d2] => { results := [.lit (.bool true)], args := [d1, d2] }
  | _ => none }
def helloMutualRow : OpenClaim := { program := "ytgfjjkckamppoaadoor", sum := "e91b0b1e702dd246466a436f7002e134098a53f21e8b3984d5fc61e7c36f59bb", func := "weft/weftlaw08.HelloMutual", spec := "helloMutual", named := ["weft/hello.family"], apart := false, laid := [("weft/hello.family", laid_weft_hello_family)] }
def HelloMutualSaid : Prop := helloMutualRow.holds Tryd.pinned (OpenSpec.ofChange helloMutualSpec)

/-- ITS FALSE NEIGHBOUR: 'it returns false'. Refute it at one input. -/
def helloMutualWrong : ChangeSpec := { name := "helloMutual", fn := fun _ => fun
  | [d1, d2] => { results := [.lit (.bool false)], args := [d1, d2] }
  | _ => none }
def HelloMutualWrongFalsely : Prop := helloMutualRow.holds Tryd.pinned (OpenSpec.ofChange helloMutualWrong)

/-- 'weftlaw08.HelloCut': WHATEVER THE INPUT: true; the input reads as it did. -/
def helloCutSpec : ChangeSpec := { name := "helloCut", fn := fun _ => fun
  | [d1, d2] => { results := [.lit (.bool true)], args := [d1, d2] }
  | _ => none }
def helloCutRow : OpenClaim := { program := "ytgfjjkckamppoaadoor", sum := "e91b0b1e702dd246466a436f7002e134098a53f21e8b3984d5fc61e7c36f59bb", func := "weft/weftlaw08.HelloCut", spec := "helloCut", named := ["weft/hello.family"], apart := false, laid := [("weft/hello.family", laid_weft_hello_family)] }
def HelloCutSaid : Prop := helloCutRow.holds Tryd.pinned (OpenSpec.ofChange helloCutSpec)

/-- ITS FALSE NEIGHBOUR: 'it returns false'. Refute it at one input. -/
def helloCutWrong : ChangeSpec := { name := "helloCut", fn := fun _ => fun
  | [d1, d2] => { results := [.lit (.bool false)], args := [d1, d2] }
  | _ => none }
def HelloCutWrongFalsely : Prop := helloCutRow.holds Tryd.pinned (OpenSpec.ofChange helloCutWrong)

/- THE SECOND FORM. 'bulk': how many values and letters a reading holds, each counted each time it is reached (what is shared counts as often as it is met; a slice's spare places count too). A statement '..UptoSaid' is the law's where the arguments, and the package variables that the reading takes, are together of bulk at most 1048576: NARROWER than '..Said'. Prove '..Said' where nothing that the law and all that it calls make is longer than what came in: it says more and counts as full. Else prove '..UptoSaid'. A law counts once. -/
mutual
def uptoBulk {H : Type} : DataW H → Nat
  | .lit (.string bytes) => bytes.length + 1
  | .lit _ => 1
  | .nil => 1
  | .ptr d => uptoBulk d + 1
  | .slice elems spare => uptoBulkAll elems + uptoBulkAll spare + 1
  | .agg parts => uptoBulkAll parts + 1
  | .iface _ d => uptoBulk d + 1
  | .map entries => uptoBulkEntries entries + 1
  | .held _ => 1
def uptoBulkAll {H : Type} : List (DataW H) → Nat
  | [] => 0
  | d :: r => uptoBulk d + uptoBulkAll r
def uptoBulkEntries {H : Type} : List (Lit × DataW H) → Nat
  | [] => 0
  | x :: r => uptoBulkEntry x + uptoBulkEntries r
def uptoBulkEntry {H : Type} : Lit × DataW H → Nat
  | (.string bytes, d) => bytes.length + uptoBulk d + 1
  | (_, d) => uptoBulk d + 1
 end
def uptoSmall : (H : Type) → List (DataW H) → Bool := fun _ ds => decide (uptoBulkAll ds ≤ 1048576)
def OpenSpec.upto (s : _root_.Go.ChangeSpec) : _root_.Go.OpenSpec := { _root_.Go.OpenSpec.ofChange s with cond := some uptoSmall }

/-- 'weftlaw08.HelloPuts', WHERE WHAT IT READS IS OF BULK AT MOST 1048576: true; the input reads as it did. -/
def helloPutsUptoRow : OpenClaim := { program := "ytgfjjkckamppoaadoor", sum := "e91b0b1e702dd246466a436f7002e134098a53f21e8b3984d5fc61e7c36f59bb", func := "weft/weftlaw08.HelloPuts", spec := "helloPuts", named := ["weft/hello.family"], apart := false, laid := [("weft/hello.family", laid_weft_hello_family)], narrowed := true }
def HelloPutsUptoSaid : Prop := helloPutsUptoRow.holds Tryd.pinned (OpenSpec.upto helloPutsSpec)

/-- 'weftlaw08.HelloReads', WHERE WHAT IT READS IS OF BULK AT MOST 1048576: true; the input reads as it did. -/
def helloReadsUptoRow : OpenClaim := { program := "ytgfjjkckamppoaadoor", sum := "e91b0b1e702dd246466a436f7002e134098a53f21e8b3984d5fc61e7c36f59bb", func := "weft/weftlaw08.HelloReads", spec := "helloReads", named := ["weft/hello.family"], apart := false, laid := [("weft/hello.family", laid_weft_hello_family)], narrowed := true }
def HelloReadsUptoSaid : Prop := helloReadsUptoRow.holds Tryd.pinned (OpenSpec.upto helloReadsSpec)

/-- 'weftlaw08.HelloAgrees', WHERE WHAT IT READS IS OF BULK AT MOST 1048576: true; the input reads as it did. -/
def helloAgreesUptoRow : OpenClaim := { program := "ytgfjjkckamppoaadoor", sum := "e91b0b1e702dd246466a436f7002e134098a53f21e8b3984d5fc61e7c36f59bb", func := "weft/weftlaw08.HelloAgrees", spec := "helloAgrees", named := ["weft/hello.family"], apart := false, laid := [("weft/hello.family", laid_weft_hello_family)], narrowed := true }
def HelloAgreesUptoSaid : Prop := helloAgreesUptoRow.holds Tryd.pinned (OpenSpec.upto helloAgreesSpec)

/-- 'weftlaw08.HelloFaults', WHERE WHAT IT READS IS OF BULK AT MOST 1048576: true; the input reads as it did. -/
def helloFaultsUptoRow : OpenClaim := { program := "ytgfjjkckamppoaadoor", sum := "e91b0b1e702dd246466a436f7002e134098a53f21e8b3984d5fc61e7c36f59bb", func := "weft/weftlaw08.HelloFaults", spec := "helloFaults", named := ["weft/hello.family"], apart := false, laid := [("weft/hello.family", laid_weft_hello_family)], narrowed := true }
def HelloFaultsUptoSaid : Prop := helloFaultsUptoRow.holds Tryd.pinned (OpenSpec.upto helloFaultsSpec)

/-- 'weftlaw08.HelloBack', WHERE WHAT IT READS IS OF BULK AT MOST 1048576: true; the input reads as it did. -/
def helloBackUptoRow : OpenClaim := { program := "ytgfjjkckamppoaadoor", sum := "e91b0b1e702dd246466a436f7002e134098a53f21e8b3984d5fc61e7c36f59bb", func := "weft/weftlaw08.HelloBack", spec := "helloBack", named := ["weft/hello.family"], apart := false, laid := [("weft/hello.family", laid_weft_hello_family)], narrowed := true }
def HelloBackUptoSaid : Prop := helloBackUptoRow.holds Tryd.pinned (OpenSpec.upto helloBackSpec)

/-- 'weftlaw08.HelloMutual', WHERE WHAT IT READS IS OF BULK AT MOST 1048576: true; the input reads as it did. -/
def helloMutualUptoRow : OpenClaim := { program := "ytgfjjkckamppoaadoor", sum := "e91b0b1e702dd246466a436f7002e134098a53f21e8b3984d5fc61e7c36f59bb", func := "weft/weftlaw08.HelloMutual", spec := "helloMutual", named := ["weft/hello.family"], apart := false, laid := [("weft/hello.family", laid_weft_hello_family)], narrowed := true }
def HelloMutualUptoSaid : Prop := helloMutualUptoRow.holds Tryd.pinned (OpenSpec.upto helloMutualSpec)

/-- 'weftlaw08.HelloCut', WHERE WHAT IT READS IS OF BULK AT MOST 1048576: true; the input reads as it did. -/
def helloCutUptoRow : OpenClaim := { program := "ytgfjjkckamppoaadoor", sum := "e91b0b1e702dd246466a436f7002e134098a53f21e8b3984d5fc61e7c36f59bb", func := "weft/weftlaw08.HelloCut", spec := "helloCut", named := ["weft/hello.family"], apart := false, laid := [("weft/hello.family", laid_weft_hello_family)], narrowed := true }
def HelloCutUptoSaid : Prop := helloCutUptoRow.holds Tryd.pinned (OpenSpec.upto helloCutSpec)

end Rows
end Go.Proofs.YtgfjjkckamppoaaDoor
