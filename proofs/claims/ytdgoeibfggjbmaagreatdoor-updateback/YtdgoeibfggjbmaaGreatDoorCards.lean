/-
  DERIVED. GIVEN WITH THE SEED: THE CARDS: each row of YtdgoeibfggjbmaaGreatDoorRows.lean that lists a variable, with what it lists TIED to the program's text (the seventh form; the later family's looks); each row that meets fmt, with fmt's text TOLD by the authors' own Lean function (tested against real Go, not proved from fmt's source: count such statements apart). THE CARD IS WHAT COUNTS. Prove the row's statement (the work); the ties are given (YtdgoeibfggjbmaaGreatDoorTie.lean); close each card by the builder's one call (the guide's Derived/Test/ToyasCard.lean, 'card_holds'). Laid BY PROGRAM, IN A SANDBOX (cutbox-door.mjs). By AI agents, Wed Nov 11 2026. No macro, syntax, notation, axiom, sorry.
-/
import Derived.Test.YtdgoeibfggjbmaaGreatDoorRows
import GoSem.ClaimSeven
namespace Go.Proofs.YtdgoeibfggjbmaaGreatDoor
namespace Rows

/-- THE TIED CARD OF 'weftlaw07.UpdatePuts'. -/
def updatePutsCard : Claim7 := { stood := { row := updatePutsRow, standIns := [], harness := (true, "5fe96f3f81b9fad5d8454e42d8c2902516e5efc16dd5e9cf6d06476850ffa51f"), looks := false }, kinds := [], alts := [], laidByText := true, laidKinds := [.data], laidTests := true, laidLooks := .later }
def UpdatePutsCardSaid : Prop := Claim7.holds Tryz.pinned (.plain (OpenSpec.ofChange updatePutsSpec)) updatePutsCard

/-- THE TIED CARD OF 'weftlaw07.UpdateReads'. -/
def updateReadsCard : Claim7 := { stood := { row := updateReadsRow, standIns := [], harness := (true, "5fe96f3f81b9fad5d8454e42d8c2902516e5efc16dd5e9cf6d06476850ffa51f"), looks := false }, kinds := [], alts := [], laidByText := true, laidKinds := [.data], laidTests := true, laidLooks := .later }
def UpdateReadsCardSaid : Prop := Claim7.holds Tryz.pinned (.plain (OpenSpec.ofChange updateReadsSpec)) updateReadsCard

/-- THE TIED CARD OF 'weftlaw07.UpdateBack'. -/
def updateBackCard : Claim7 := { stood := { row := updateBackRow, standIns := [], harness := (true, "5fe96f3f81b9fad5d8454e42d8c2902516e5efc16dd5e9cf6d06476850ffa51f"), looks := false }, kinds := [], alts := [], laidByText := true, laidKinds := [.data], laidTests := true, laidLooks := .later }
def UpdateBackCardSaid : Prop := Claim7.holds Tryz.pinned (.plain (OpenSpec.ofChange updateBackSpec)) updateBackCard

/-- THE TIED CARD OF 'weftlaw07.UpdateCut'. -/
def updateCutCard : Claim7 := { stood := { row := updateCutRow, standIns := [], harness := (true, "5fe96f3f81b9fad5d8454e42d8c2902516e5efc16dd5e9cf6d06476850ffa51f"), looks := false }, kinds := [], alts := [], laidByText := true, laidKinds := [.data], laidTests := true, laidLooks := .later }
def UpdateCutCardSaid : Prop := Claim7.holds Tryz.pinned (.plain (OpenSpec.ofChange updateCutSpec)) updateCutCard

/-- THE TIED CARD OF 'weftlaw07.UpdateWithdraws'. -/
def updateWithdrawsCard : Claim7 := { stood := { row := updateWithdrawsRow, standIns := [], harness := (true, "5fe96f3f81b9fad5d8454e42d8c2902516e5efc16dd5e9cf6d06476850ffa51f"), looks := false }, kinds := [], alts := [], laidByText := true, laidKinds := [.data], laidTests := true, laidLooks := .later }
def UpdateWithdrawsCardSaid : Prop := Claim7.holds Tryz.pinned (.plain (OpenSpec.ofChange updateWithdrawsSpec)) updateWithdrawsCard

/-- THE TIED CARD OF 'weftlaw07.UpdateAlien'. -/
def updateAlienCard : Claim7 := { stood := { row := updateAlienRow, standIns := [], harness := (true, "5fe96f3f81b9fad5d8454e42d8c2902516e5efc16dd5e9cf6d06476850ffa51f"), looks := false }, kinds := [], alts := [], laidByText := true, laidKinds := [.data], laidTests := true, laidLooks := .later }
def UpdateAlienCardSaid : Prop := Claim7.holds Tryz.pinned (.plain (OpenSpec.ofChange updateAlienSpec)) updateAlienCard

/-- THE TIED CARD OF 'weftlaw07.UpdateRight'. -/
def updateRightCard : Claim7 := { stood := { row := updateRightRow, standIns := [], harness := (true, "5fe96f3f81b9fad5d8454e42d8c2902516e5efc16dd5e9cf6d06476850ffa51f"), looks := false }, kinds := [], alts := [], laidByText := true, laidKinds := [.data], laidTests := true, laidLooks := .later }
def UpdateRightCardSaid : Prop := Claim7.holds Tryz.pinned (.plain (OpenSpec.ofChange updateRightSpec)) updateRightCard

/-- THE TIED CARD OF 'weftlaw09.PackBodies'. -/
def packBodiesCard : Claim7 := { stood := { row := packBodiesRow, standIns := [], harness := (true, "5fe96f3f81b9fad5d8454e42d8c2902516e5efc16dd5e9cf6d06476850ffa51f"), looks := false }, kinds := [], alts := [], laidByText := true, laidKinds := [.data], laidTests := true, laidLooks := .later }
def PackBodiesCardSaid : Prop := Claim7.holds Tryz.pinned (.plain (OpenSpec.ofChange packBodiesSpec)) packBodiesCard

/-- THE TIED CARD OF 'weftlaw09.PackReads'. -/
def packReadsCard : Claim7 := { stood := { row := packReadsRow, standIns := [], harness := (true, "5fe96f3f81b9fad5d8454e42d8c2902516e5efc16dd5e9cf6d06476850ffa51f"), looks := false }, kinds := [], alts := [], laidByText := true, laidKinds := [.data], laidTests := true, laidLooks := .later }
def PackReadsCardSaid : Prop := Claim7.holds Tryz.pinned (.plain (OpenSpec.ofChange packReadsSpec)) packReadsCard

/-- THE TIED CARD OF 'weftlaw09.PackBack'. -/
def packBackCard : Claim7 := { stood := { row := packBackRow, standIns := [], harness := (true, "5fe96f3f81b9fad5d8454e42d8c2902516e5efc16dd5e9cf6d06476850ffa51f"), looks := false }, kinds := [], alts := [], laidByText := true, laidKinds := [.data], laidTests := true, laidLooks := .later }
def PackBackCardSaid : Prop := Claim7.holds Tryz.pinned (.plain (OpenSpec.ofChange packBackSpec)) packBackCard

/-- THE TIED CARD OF 'weftlaw09.PackFew'. -/
def packFewCard : Claim7 := { stood := { row := packFewRow, standIns := [], harness := (true, "5fe96f3f81b9fad5d8454e42d8c2902516e5efc16dd5e9cf6d06476850ffa51f"), looks := false }, kinds := [], alts := [], laidByText := true, laidKinds := [.data], laidTests := true, laidLooks := .later }
def PackFewCardSaid : Prop := Claim7.holds Tryz.pinned (.plain (OpenSpec.ofChange packFewSpec)) packFewCard

/-- THE TIED CARD OF 'weftlaw09.PackAlike'. -/
def packAlikeCard : Claim7 := { stood := { row := packAlikeRow, standIns := [], harness := (true, "5fe96f3f81b9fad5d8454e42d8c2902516e5efc16dd5e9cf6d06476850ffa51f"), looks := false }, kinds := [], alts := [], laidByText := true, laidKinds := [.data], laidTests := true, laidLooks := .later }
def PackAlikeCardSaid : Prop := Claim7.holds Tryz.pinned (.plain (OpenSpec.ofChange packAlikeSpec)) packAlikeCard

/-- THE SECOND FORM's CARD OF 'weftlaw07.UpdatePuts'. -/
def updatePutsUptoCard : Claim7 := { stood := { row := updatePutsUptoRow, standIns := [], harness := (true, "5fe96f3f81b9fad5d8454e42d8c2902516e5efc16dd5e9cf6d06476850ffa51f"), looks := false }, kinds := [], alts := [], laidByText := true, laidKinds := [.data], laidTests := true, laidLooks := .later }
def UpdatePutsUptoCardSaid : Prop := Claim7.holds Tryz.pinned (.plain (OpenSpec.upto updatePutsSpec)) updatePutsUptoCard

/-- THE SECOND FORM's CARD OF 'weftlaw07.UpdateReads'. -/
def updateReadsUptoCard : Claim7 := { stood := { row := updateReadsUptoRow, standIns := [], harness := (true, "5fe96f3f81b9fad5d8454e42d8c2902516e5efc16dd5e9cf6d06476850ffa51f"), looks := false }, kinds := [], alts := [], laidByText := true, laidKinds := [.data], laidTests := true, laidLooks := .later }
def UpdateReadsUptoCardSaid : Prop := Claim7.holds Tryz.pinned (.plain (OpenSpec.upto updateReadsSpec)) updateReadsUptoCard

/-- THE SECOND FORM's CARD OF 'weftlaw07.UpdateBack'. -/
def updateBackUptoCard : Claim7 := { stood := { row := updateBackUptoRow, standIns := [], harness := (true, "5fe96f3f81b9fad5d8454e42d8c2902516e5efc16dd5e9cf6d06476850ffa51f"), looks := false }, kinds := [], alts := [], laidByText := true, laidKinds := [.data], laidTests := true, laidLooks := .later }
def UpdateBackUptoCardSaid : Prop := Claim7.holds Tryz.pinned (.plain (OpenSpec.upto updateBackSpec)) updateBackUptoCard

/-- THE SECOND FORM's CARD OF 'weftlaw07.UpdateCut'. -/
def updateCutUptoCard : Claim7 := { stood := { row := updateCutUptoRow, standIns := [], harness := (true, "5fe96f3f81b9fad5d8454e42d8c2902516e5efc16dd5e9cf6d06476850ffa51f"), looks := false }, kinds := [], alts := [], laidByText := true, laidKinds := [.data], laidTests := true, laidLooks := .later }
def UpdateCutUptoCardSaid : Prop := Claim7.holds Tryz.pinned (.plain (OpenSpec.upto updateCutSpec)) updateCutUptoCard

/-- THE SECOND FORM's CARD OF 'weftlaw07.UpdateWithdraws'. -/
def updateWithdrawsUptoCard : Claim7 := { stood := { row := updateWithdrawsUptoRow, standIns := [], harness := (true, "5fe96f3f81b9fad5d8454e42d8c2902516e5efc16dd5e9cf6d06476850ffa51f"), looks := false }, kinds := [], alts := [], laidByText := true, laidKinds := [.data], laidTests := true, laidLooks := .later }
def UpdateWithdrawsUptoCardSaid : Prop := Claim7.holds Tryz.pinned (.plain (OpenSpec.upto updateWithdrawsSpec)) updateWithdrawsUptoCard

/-- THE SECOND FORM's CARD OF 'weftlaw07.UpdateAlien'. -/
def updateAlienUptoCard : Claim7 := { stood := { row := updateAlienUptoRow, standIns := [], harness := (true, "5fe96f3f81b9fad5d8454e42d8c2902516e5efc16dd5e9cf6d06476850ffa51f"), looks := false }, kinds := [], alts := [], laidByText := true, laidKinds := [.data], laidTests := true, laidLooks := .later }
def UpdateAlienUptoCardSaid : Prop := Claim7.holds Tryz.pinned (.plain (OpenSpec.upto updateAlienSpec)) updateAlienUptoCard

/-- THE SECOND FORM's CARD OF 'weftlaw07.UpdateRight'. -/
def updateRightUptoCard : Claim7 := { stood := { row := updateRightUptoRow, standIns := [], harness := (true, "5fe96f3f81b9fad5d8454e42d8c2902516e5efc16dd5e9cf6d06476850ffa51f"), looks := false }, kinds := [], alts := [], laidByText := true, laidKinds := [.data], laidTests := true, laidLooks := .later }
def UpdateRightUptoCardSaid : Prop := Claim7.holds Tryz.pinned (.plain (OpenSpec.upto updateRightSpec)) updateRightUptoCard

/-- THE SECOND FORM's CARD OF 'weftlaw09.PackBodies'. -/
def packBodiesUptoCard : Claim7 := { stood := { row := packBodiesUptoRow, standIns := [], harness := (true, "5fe96f3f81b9fad5d8454e42d8c2902516e5efc16dd5e9cf6d06476850ffa51f"), looks := false }, kinds := [], alts := [], laidByText := true, laidKinds := [.data], laidTests := true, laidLooks := .later }
def PackBodiesUptoCardSaid : Prop := Claim7.holds Tryz.pinned (.plain (OpenSpec.upto packBodiesSpec)) packBodiesUptoCard

/-- THE SECOND FORM's CARD OF 'weftlaw09.PackReads'. -/
def packReadsUptoCard : Claim7 := { stood := { row := packReadsUptoRow, standIns := [], harness := (true, "5fe96f3f81b9fad5d8454e42d8c2902516e5efc16dd5e9cf6d06476850ffa51f"), looks := false }, kinds := [], alts := [], laidByText := true, laidKinds := [.data], laidTests := true, laidLooks := .later }
def PackReadsUptoCardSaid : Prop := Claim7.holds Tryz.pinned (.plain (OpenSpec.upto packReadsSpec)) packReadsUptoCard

/-- THE SECOND FORM's CARD OF 'weftlaw09.PackBack'. -/
def packBackUptoCard : Claim7 := { stood := { row := packBackUptoRow, standIns := [], harness := (true, "5fe96f3f81b9fad5d8454e42d8c2902516e5efc16dd5e9cf6d06476850ffa51f"), looks := false }, kinds := [], alts := [], laidByText := true, laidKinds := [.data], laidTests := true, laidLooks := .later }
def PackBackUptoCardSaid : Prop := Claim7.holds Tryz.pinned (.plain (OpenSpec.upto packBackSpec)) packBackUptoCard

/-- THE SECOND FORM's CARD OF 'weftlaw09.PackFew'. -/
def packFewUptoCard : Claim7 := { stood := { row := packFewUptoRow, standIns := [], harness := (true, "5fe96f3f81b9fad5d8454e42d8c2902516e5efc16dd5e9cf6d06476850ffa51f"), looks := false }, kinds := [], alts := [], laidByText := true, laidKinds := [.data], laidTests := true, laidLooks := .later }
def PackFewUptoCardSaid : Prop := Claim7.holds Tryz.pinned (.plain (OpenSpec.upto packFewSpec)) packFewUptoCard

/-- THE SECOND FORM's CARD OF 'weftlaw09.PackAlike'. -/
def packAlikeUptoCard : Claim7 := { stood := { row := packAlikeUptoRow, standIns := [], harness := (true, "5fe96f3f81b9fad5d8454e42d8c2902516e5efc16dd5e9cf6d06476850ffa51f"), looks := false }, kinds := [], alts := [], laidByText := true, laidKinds := [.data], laidTests := true, laidLooks := .later }
def PackAlikeUptoCardSaid : Prop := Claim7.holds Tryz.pinned (.plain (OpenSpec.upto packAlikeSpec)) packAlikeUptoCard
end Rows
end Go.Proofs.YtdgoeibfggjbmaaGreatDoor
