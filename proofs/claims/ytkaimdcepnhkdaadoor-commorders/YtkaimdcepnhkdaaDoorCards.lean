/-
  DERIVED. GIVEN WITH THE SEED: THE CARDS: each row of YtkaimdcepnhkdaaDoorRows.lean that lists a variable, with what it lists TIED to the program's text (the seventh form; the later family's looks); each row that meets fmt, with fmt's text TOLD by the authors' own Lean function (tested against real Go, not proved from fmt's source: count such statements apart). THE CARD IS WHAT COUNTS. Prove the row's statement (the work); the ties are given (YtkaimdcepnhkdaaDoorTie.lean); close each card by the builder's one call (the guide's Derived/Test/ToyasCard.lean, 'card_holds'). Laid BY PROGRAM, IN A SANDBOX (cutbox-door.mjs). By AI agents, Wed Nov 11 2026. No macro, syntax, notation, axiom, sorry.
-/
import Derived.Test.YtkaimdcepnhkdaaDoorRows
import GoSem.ClaimSeven
namespace Go.Proofs.YtkaimdcepnhkdaaDoor
namespace Rows

/-- THE TIED CARD OF 'weftlaw02.AddrIps'. -/
def addrIpsCard : Claim7 := { stood := { row := addrIpsRow, standIns := [], harness := (true, "6ae60b8995463039582883f38ff53a9534b5202cfb809538934305aa4cebd567"), looks := false }, kinds := [], alts := [], laidByText := true, laidKinds := [.data, .data, .data, .data, .pinned], laidTests := true, laidLooks := .later }
def AddrIpsCardSaid : Prop := Claim7.holds Tryd.pinned (.plain (OpenSpec.ofChange addrIpsSpec)) addrIpsCard

/-- THE TIED CARD OF 'weftlaw02.AddrPrefixes'. -/
def addrPrefixesCard : Claim7 := { stood := { row := addrPrefixesRow, standIns := [], harness := (true, "6ae60b8995463039582883f38ff53a9534b5202cfb809538934305aa4cebd567"), looks := false }, kinds := [], alts := [], laidByText := true, laidKinds := [.data, .data, .data, .data, .pinned], laidTests := true, laidLooks := .later }
def AddrPrefixesCardSaid : Prop := Claim7.holds Tryd.pinned (.plain (OpenSpec.ofChange addrPrefixesSpec)) addrPrefixesCard

/-- THE TIED CARD OF 'weftlaw04.CommMakes'. -/
def commMakesCard : Claim7 := { stood := { row := commMakesRow, standIns := [], harness := (true, "6ae60b8995463039582883f38ff53a9534b5202cfb809538934305aa4cebd567"), looks := false }, kinds := [], alts := [], laidByText := true, laidKinds := [.data, .data, .data], laidTests := true, laidLooks := .later }
def CommMakesCardSaid : Prop := Claim7.holds Tryd.pinned (.plain (OpenSpec.ofChange commMakesSpec)) commMakesCard

/-- THE TIED CARD OF 'weftlaw04.CommReads'. -/
def commReadsCard : Claim7 := { stood := { row := commReadsRow, standIns := [], harness := (true, "6ae60b8995463039582883f38ff53a9534b5202cfb809538934305aa4cebd567"), looks := false }, kinds := [], alts := [], laidByText := true, laidKinds := [.data, .data, .data], laidTests := true, laidLooks := .later }
def CommReadsCardSaid : Prop := Claim7.holds Tryd.pinned (.plain (OpenSpec.ofChange commReadsSpec)) commReadsCard

/-- THE TIED CARD OF 'weftlaw04.CommSets'. -/
def commSetsCard : Claim7 := { stood := { row := commSetsRow, standIns := [], harness := (true, "6ae60b8995463039582883f38ff53a9534b5202cfb809538934305aa4cebd567"), looks := false }, kinds := [], alts := [], laidByText := true, laidKinds := [.data, .data, .data], laidTests := true, laidLooks := .later }
def CommSetsCardSaid : Prop := Claim7.holds Tryd.pinned (.plain (OpenSpec.ofChange commSetsSpec)) commSetsCard

/-- THE TIED CARD OF 'weftlaw04.CommBack'. -/
def commBackCard : Claim7 := { stood := { row := commBackRow, standIns := [], harness := (true, "6ae60b8995463039582883f38ff53a9534b5202cfb809538934305aa4cebd567"), looks := false }, kinds := [], alts := [], laidByText := true, laidKinds := [.data, .data, .data], laidTests := true, laidLooks := .later }
def CommBackCardSaid : Prop := Claim7.holds Tryd.pinned (.plain (OpenSpec.ofChange commBackSpec)) commBackCard

/-- THE TIED CARD OF 'weftlaw04.CommOrders'. -/
def commOrdersCard : Claim7 := { stood := { row := commOrdersRow, standIns := [], harness := (true, "6ae60b8995463039582883f38ff53a9534b5202cfb809538934305aa4cebd567"), looks := false }, kinds := [], alts := [], laidByText := true, laidKinds := [.data, .data, .data], laidTests := true, laidLooks := .later }
def CommOrdersCardSaid : Prop := Claim7.holds Tryd.pinned (.plain (OpenSpec.ofChange commOrdersSpec)) commOrdersCard

/-- THE TIED CARD OF 'weftlaw04.CommMeets'. -/
def commMeetsCard : Claim7 := { stood := { row := commMeetsRow, standIns := [], harness := (true, "6ae60b8995463039582883f38ff53a9534b5202cfb809538934305aa4cebd567"), looks := false }, kinds := [], alts := [], laidByText := true, laidKinds := [.data, .data, .data], laidTests := true, laidLooks := .later }
def CommMeetsCardSaid : Prop := Claim7.holds Tryd.pinned (.plain (OpenSpec.ofChange commMeetsSpec)) commMeetsCard

/-- THE SECOND FORM's CARD OF 'weftlaw02.AddrIps'. -/
def addrIpsUptoCard : Claim7 := { stood := { row := addrIpsUptoRow, standIns := [], harness := (true, "6ae60b8995463039582883f38ff53a9534b5202cfb809538934305aa4cebd567"), looks := false }, kinds := [], alts := [], laidByText := true, laidKinds := [.data, .data, .data, .data, .pinned], laidTests := true, laidLooks := .later }
def AddrIpsUptoCardSaid : Prop := Claim7.holds Tryd.pinned (.plain (OpenSpec.upto addrIpsSpec)) addrIpsUptoCard

/-- THE SECOND FORM's CARD OF 'weftlaw02.AddrPrefixes'. -/
def addrPrefixesUptoCard : Claim7 := { stood := { row := addrPrefixesUptoRow, standIns := [], harness := (true, "6ae60b8995463039582883f38ff53a9534b5202cfb809538934305aa4cebd567"), looks := false }, kinds := [], alts := [], laidByText := true, laidKinds := [.data, .data, .data, .data, .pinned], laidTests := true, laidLooks := .later }
def AddrPrefixesUptoCardSaid : Prop := Claim7.holds Tryd.pinned (.plain (OpenSpec.upto addrPrefixesSpec)) addrPrefixesUptoCard

/-- THE SECOND FORM's CARD OF 'weftlaw04.CommMakes'. -/
def commMakesUptoCard : Claim7 := { stood := { row := commMakesUptoRow, standIns := [], harness := (true, "6ae60b8995463039582883f38ff53a9534b5202cfb809538934305aa4cebd567"), looks := false }, kinds := [], alts := [], laidByText := true, laidKinds := [.data, .data, .data], laidTests := true, laidLooks := .later }
def CommMakesUptoCardSaid : Prop := Claim7.holds Tryd.pinned (.plain (OpenSpec.upto commMakesSpec)) commMakesUptoCard

/-- THE SECOND FORM's CARD OF 'weftlaw04.CommReads'. -/
def commReadsUptoCard : Claim7 := { stood := { row := commReadsUptoRow, standIns := [], harness := (true, "6ae60b8995463039582883f38ff53a9534b5202cfb809538934305aa4cebd567"), looks := false }, kinds := [], alts := [], laidByText := true, laidKinds := [.data, .data, .data], laidTests := true, laidLooks := .later }
def CommReadsUptoCardSaid : Prop := Claim7.holds Tryd.pinned (.plain (OpenSpec.upto commReadsSpec)) commReadsUptoCard

/-- THE SECOND FORM's CARD OF 'weftlaw04.CommSets'. -/
def commSetsUptoCard : Claim7 := { stood := { row := commSetsUptoRow, standIns := [], harness := (true, "6ae60b8995463039582883f38ff53a9534b5202cfb809538934305aa4cebd567"), looks := false }, kinds := [], alts := [], laidByText := true, laidKinds := [.data, .data, .data], laidTests := true, laidLooks := .later }
def CommSetsUptoCardSaid : Prop := Claim7.holds Tryd.pinned (.plain (OpenSpec.upto commSetsSpec)) commSetsUptoCard

/-- THE SECOND FORM's CARD OF 'weftlaw04.CommBack'. -/
def commBackUptoCard : Claim7 := { stood := { row := commBackUptoRow, standIns := [], harness := (true, "6ae60b8995463039582883f38ff53a9534b5202cfb809538934305aa4cebd567"), looks := false }, kinds := [], alts := [], laidByText := true, laidKinds := [.data, .data, .data], laidTests := true, laidLooks := .later }
def CommBackUptoCardSaid : Prop := Claim7.holds Tryd.pinned (.plain (OpenSpec.upto commBackSpec)) commBackUptoCard

/-- THE SECOND FORM's CARD OF 'weftlaw04.CommOrders'. -/
def commOrdersUptoCard : Claim7 := { stood := { row := commOrdersUptoRow, standIns := [], harness := (true, "6ae60b8995463039582883f38ff53a9534b5202cfb809538934305aa4cebd567"), looks := false }, kinds := [], alts := [], laidByText := true, laidKinds := [.data, .data, .data], laidTests := true, laidLooks := .later }
def CommOrdersUptoCardSaid : Prop := Claim7.holds Tryd.pinned (.plain (OpenSpec.upto commOrdersSpec)) commOrdersUptoCard

/-- THE SECOND FORM's CARD OF 'weftlaw04.CommMeets'. -/
def commMeetsUptoCard : Claim7 := { stood := { row := commMeetsUptoRow, standIns := [], harness := (true, "6ae60b8995463039582883f38ff53a9534b5202cfb809538934305aa4cebd567"), looks := false }, kinds := [], alts := [], laidByText := true, laidKinds := [.data, .data, .data], laidTests := true, laidLooks := .later }
def CommMeetsUptoCardSaid : Prop := Claim7.holds Tryd.pinned (.plain (OpenSpec.upto commMeetsSpec)) commMeetsUptoCard
end Rows
end Go.Proofs.YtkaimdcepnhkdaaDoor
