/-
  DERIVED. GIVEN WITH THE SEED: THE CARDS: each row of YtgfjjkckamppoaaDoorRows.lean that lists a variable, with what it lists TIED to the program's text (the seventh form; the later family's looks); each row that meets fmt, with fmt's text TOLD by the authors' own Lean function (tested against real Go, not proved from fmt's source: count such statements apart). THE CARD IS WHAT COUNTS. Prove the row's statement (the work); the ties are given (YtgfjjkckamppoaaDoorTie.lean); close each card by the builder's one call (the guide's Derived/Test/ToyasCard.lean, 'card_holds'). Laid BY PROGRAM, IN A SANDBOX (cutbox-door.mjs). By AI agents, Wed Nov 11 2026. No macro, syntax, notation, axiom, sorry.
-/
import Derived.Test.YtgfjjkckamppoaaDoorRows
import GoSem.ClaimSeven
namespace Go.Proofs.YtgfjjkckamppoaaDoor
namespace Rows

/-- THE TIED CARD OF 'weftlaw08.HelloPuts'. -/
def helloPutsCard : Claim7 := { stood := { row := helloPutsRow, standIns := [], harness := (true, "b2d5bd322fef7140f5c107a8daeebc68475b8a362732c1623307f5a568f4506c"), looks := false }, kinds := [], alts := [], laidByText := true, laidKinds := [.data], laidTests := true, laidLooks := .later }
def HelloPutsCardSaid : Prop := Claim7.holds Tryd.pinned (.plain (OpenSpec.ofChange helloPutsSpec)) helloPutsCard

/-- THE TIED CARD OF 'weftlaw08.HelloReads'. -/
def helloReadsCard : Claim7 := { stood := { row := helloReadsRow, standIns := [], harness := (true, "b2d5bd322fef7140f5c107a8daeebc68475b8a362732c1623307f5a568f4506c"), looks := false }, kinds := [], alts := [], laidByText := true, laidKinds := [.data], laidTests := true, laidLooks := .later }
def HelloReadsCardSaid : Prop := Claim7.holds Tryd.pinned (.plain (OpenSpec.ofChange helloReadsSpec)) helloReadsCard

/-- THE TIED CARD OF 'weftlaw08.HelloAgrees'. -/
def helloAgreesCard : Claim7 := { stood := { row := helloAgreesRow, standIns := [], harness := (true, "b2d5bd322fef7140f5c107a8daeebc68475b8a362732c1623307f5a568f4506c"), looks := false }, kinds := [], alts := [], laidByText := true, laidKinds := [.data], laidTests := true, laidLooks := .later }
def HelloAgreesCardSaid : Prop := Claim7.holds Tryd.pinned (.plain (OpenSpec.ofChange helloAgreesSpec)) helloAgreesCard

/-- THE TIED CARD OF 'weftlaw08.HelloFaults'. -/
def helloFaultsCard : Claim7 := { stood := { row := helloFaultsRow, standIns := [], harness := (true, "b2d5bd322fef7140f5c107a8daeebc68475b8a362732c1623307f5a568f4506c"), looks := false }, kinds := [], alts := [], laidByText := true, laidKinds := [.data], laidTests := true, laidLooks := .later }
def HelloFaultsCardSaid : Prop := Claim7.holds Tryd.pinned (.plain (OpenSpec.ofChange helloFaultsSpec)) helloFaultsCard

/-- THE TIED CARD OF 'weftlaw08.HelloBack'. -/
def helloBackCard : Claim7 := { stood := { row := helloBackRow, standIns := [], harness := (true, "b2d5bd322fef7140f5c107a8daeebc68475b8a362732c1623307f5a568f4506c"), looks := false }, kinds := [], alts := [], laidByText := true, laidKinds := [.data], laidTests := true, laidLooks := .later }
def HelloBackCardSaid : Prop := Claim7.holds Tryd.pinned (.plain (OpenSpec.ofChange helloBackSpec)) helloBackCard

/-- THE TIED CARD OF 'weftlaw08.HelloMutual'. -/
def helloMutualCard : Claim7 := { stood := { row := helloMutualRow, standIns := [], harness := (true, "b2d5bd322fef7140f5c107a8daeebc68475b8a362732c1623307f5a568f4506c"), looks := false }, kinds := [], alts := [], laidByText := true, laidKinds := [.data], laidTests := true, laidLooks := .later }
def HelloMutualCardSaid : Prop := Claim7.holds Tryd.pinned (.plain (OpenSpec.ofChange helloMutualSpec)) helloMutualCard

/-- THE TIED CARD OF 'weftlaw08.HelloCut'. -/
def helloCutCard : Claim7 := { stood := { row := helloCutRow, standIns := [], harness := (true, "b2d5bd322fef7140f5c107a8daeebc68475b8a362732c1623307f5a568f4506c"), looks := false }, kinds := [], alts := [], laidByText := true, laidKinds := [.data], laidTests := true, laidLooks := .later }
def HelloCutCardSaid : Prop := Claim7.holds Tryd.pinned (.plain (OpenSpec.ofChange helloCutSpec)) helloCutCard

/-- THE SECOND FORM's CARD OF 'weftlaw08.HelloPuts'. -/
def helloPutsUptoCard : Claim7 := { stood := { row := helloPutsUptoRow, standIns := [], harness := (true, "b2d5bd322fef7140f5c107a8daeebc68475b8a362732c1623307f5a568f4506c"), looks := false }, kinds := [], alts := [], laidByText := true, laidKinds := [.data], laidTests := true, laidLooks := .later }
def HelloPutsUptoCardSaid : Prop := Claim7.holds Tryd.pinned (.plain (OpenSpec.upto helloPutsSpec)) helloPutsUptoCard

/-- THE SECOND FORM's CARD OF 'weftlaw08.HelloReads'. -/
def helloReadsUptoCard : Claim7 := { stood := { row := helloReadsUptoRow, standIns := [], harness := (true, "b2d5bd322fef7140f5c107a8daeebc68475b8a362732c1623307f5a568f4506c"), looks := false }, kinds := [], alts := [], laidByText := true, laidKinds := [.data], laidTests := true, laidLooks := .later }
def HelloReadsUptoCardSaid : Prop := Claim7.holds Tryd.pinned (.plain (OpenSpec.upto helloReadsSpec)) helloReadsUptoCard

/-- THE SECOND FORM's CARD OF 'weftlaw08.HelloAgrees'. -/
def helloAgreesUptoCard : Claim7 := { stood := { row := helloAgreesUptoRow, standIns := [], harness := (true, "b2d5bd322fef7140f5c107a8daeebc68475b8a362732c1623307f5a568f4506c"), looks := false }, kinds := [], alts := [], laidByText := true, laidKinds := [.data], laidTests := true, laidLooks := .later }
def HelloAgreesUptoCardSaid : Prop := Claim7.holds Tryd.pinned (.plain (OpenSpec.upto helloAgreesSpec)) helloAgreesUptoCard

/-- THE SECOND FORM's CARD OF 'weftlaw08.HelloFaults'. -/
def helloFaultsUptoCard : Claim7 := { stood := { row := helloFaultsUptoRow, standIns := [], harness := (true, "b2d5bd322fef7140f5c107a8daeebc68475b8a362732c1623307f5a568f4506c"), looks := false }, kinds := [], alts := [], laidByText := true, laidKinds := [.data], laidTests := true, laidLooks := .later }
def HelloFaultsUptoCardSaid : Prop := Claim7.holds Tryd.pinned (.plain (OpenSpec.upto helloFaultsSpec)) helloFaultsUptoCard

/-- THE SECOND FORM's CARD OF 'weftlaw08.HelloBack'. -/
def helloBackUptoCard : Claim7 := { stood := { row := helloBackUptoRow, standIns := [], harness := (true, "b2d5bd322fef7140f5c107a8daeebc68475b8a362732c1623307f5a568f4506c"), looks := false }, kinds := [], alts := [], laidByText := true, laidKinds := [.data], laidTests := true, laidLooks := .later }
def HelloBackUptoCardSaid : Prop := Claim7.holds Tryd.pinned (.plain (OpenSpec.upto helloBackSpec)) helloBackUptoCard

/-- THE SECOND FORM's CARD OF 'weftlaw08.HelloMutual'. -/
def helloMutualUptoCard : Claim7 := { stood := { row := helloMutualUptoRow, standIns := [], harness := (true, "b2d5bd322fef7140f5c107a8daeebc68475b8a362732c1623307f5a568f4506c"), looks := false }, kinds := [], alts := [], laidByText := true, laidKinds := [.data], laidTests := true, laidLooks := .later }
def HelloMutualUptoCardSaid : Prop := Claim7.holds Tryd.pinned (.plain (OpenSpec.upto helloMutualSpec)) helloMutualUptoCard

/-- THE SECOND FORM's CARD OF 'weftlaw08.HelloCut'. -/
def helloCutUptoCard : Claim7 := { stood := { row := helloCutUptoRow, standIns := [], harness := (true, "b2d5bd322fef7140f5c107a8daeebc68475b8a362732c1623307f5a568f4506c"), looks := false }, kinds := [], alts := [], laidByText := true, laidKinds := [.data], laidTests := true, laidLooks := .later }
def HelloCutUptoCardSaid : Prop := Claim7.holds Tryd.pinned (.plain (OpenSpec.upto helloCutSpec)) helloCutUptoCard
end Rows
end Go.Proofs.YtgfjjkckamppoaaDoor
