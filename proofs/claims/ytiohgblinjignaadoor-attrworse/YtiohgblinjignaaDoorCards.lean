/-
  DERIVED. GIVEN WITH THE SEED: THE CARDS: each row of YtiohgblinjignaaDoorRows.lean that lists a variable, with what it lists TIED to the program's text (the seventh form; the later family's looks); each row that meets fmt, with fmt's text TOLD by the authors' own Lean function (tested against real Go, not proved from fmt's source: count such statements apart). THE CARD IS WHAT COUNTS. Prove the row's statement (the work); the ties are given (YtiohgblinjignaaDoorTie.lean); close each card by the builder's one call (the guide's Derived/Test/ToyasCard.lean, 'card_holds'). Laid BY PROGRAM, IN A SANDBOX (cutbox-door.mjs). By AI agents, Wed Nov 11 2026. No macro, syntax, notation, axiom, sorry.
-/
import Derived.Test.YtiohgblinjignaaDoorRows
import GoSem.ClaimSeven
namespace Go.Proofs.YtiohgblinjignaaDoor
namespace Rows

/-- THE TIED CARD OF 'weftlaw05.AttrSplits'. -/
def attrSplitsCard : Claim7 := { stood := { row := attrSplitsRow, standIns := [], harness := (true, "eaa9534403d26e3a1a185c6b5a0f08492ba0aa1eeb988227d2ff65cb1989a064"), looks := false }, kinds := [], alts := [], laidByText := true, laidKinds := [.data], laidTests := true, laidLooks := .later }
def AttrSplitsCardSaid : Prop := Claim7.holds Tryd.pinned (.plain (OpenSpec.ofChange attrSplitsSpec)) attrSplitsCard

/-- THE TIED CARD OF 'weftlaw05.AttrJudges'. -/
def attrJudgesCard : Claim7 := { stood := { row := attrJudgesRow, standIns := [], harness := (true, "eaa9534403d26e3a1a185c6b5a0f08492ba0aa1eeb988227d2ff65cb1989a064"), looks := false }, kinds := [], alts := [], laidByText := true, laidKinds := [.data], laidTests := true, laidLooks := .later }
def AttrJudgesCardSaid : Prop := Claim7.holds Tryd.pinned (.plain (OpenSpec.ofChange attrJudgesSpec)) attrJudgesCard

/-- THE TIED CARD OF 'weftlaw05.AttrReads'. -/
def attrReadsCard : Claim7 := { stood := { row := attrReadsRow, standIns := [], harness := (true, "eaa9534403d26e3a1a185c6b5a0f08492ba0aa1eeb988227d2ff65cb1989a064"), looks := false }, kinds := [], alts := [], laidByText := true, laidKinds := [.data], laidTests := true, laidLooks := .later }
def AttrReadsCardSaid : Prop := Claim7.holds Tryd.pinned (.plain (OpenSpec.ofChange attrReadsSpec)) attrReadsCard

/-- THE TIED CARD OF 'weftlaw05.AttrWrites'. -/
def attrWritesCard : Claim7 := { stood := { row := attrWritesRow, standIns := [], harness := (true, "eaa9534403d26e3a1a185c6b5a0f08492ba0aa1eeb988227d2ff65cb1989a064"), looks := false }, kinds := [], alts := [], laidByText := true, laidKinds := [.data], laidTests := true, laidLooks := .later }
def AttrWritesCardSaid : Prop := Claim7.holds Tryd.pinned (.plain (OpenSpec.ofChange attrWritesSpec)) attrWritesCard

/-- THE TIED CARD OF 'weftlaw05.AttrBack'. -/
def attrBackCard : Claim7 := { stood := { row := attrBackRow, standIns := [], harness := (true, "eaa9534403d26e3a1a185c6b5a0f08492ba0aa1eeb988227d2ff65cb1989a064"), looks := false }, kinds := [], alts := [], laidByText := true, laidKinds := [.data], laidTests := true, laidLooks := .later }
def AttrBackCardSaid : Prop := Claim7.holds Tryd.pinned (.plain (OpenSpec.ofChange attrBackSpec)) attrBackCard

/-- THE TIED CARD OF 'weftlaw05.AttrWorse'. -/
def attrWorseCard : Claim7 := { stood := { row := attrWorseRow, standIns := [], harness := (true, "eaa9534403d26e3a1a185c6b5a0f08492ba0aa1eeb988227d2ff65cb1989a064"), looks := false }, kinds := [], alts := [], laidByText := true, laidKinds := [.data], laidTests := true, laidLooks := .later }
def AttrWorseCardSaid : Prop := Claim7.holds Tryd.pinned (.plain (OpenSpec.ofChange attrWorseSpec)) attrWorseCard

/-- THE TIED CARD OF 'weftlaw05.AttrTwice'. -/
def attrTwiceCard : Claim7 := { stood := { row := attrTwiceRow, standIns := [], harness := (true, "eaa9534403d26e3a1a185c6b5a0f08492ba0aa1eeb988227d2ff65cb1989a064"), looks := false }, kinds := [], alts := [], laidByText := true, laidKinds := [.data], laidTests := true, laidLooks := .later }
def AttrTwiceCardSaid : Prop := Claim7.holds Tryd.pinned (.plain (OpenSpec.ofChange attrTwiceSpec)) attrTwiceCard

/-- THE SECOND FORM's CARD OF 'weftlaw05.AttrSplits'. -/
def attrSplitsUptoCard : Claim7 := { stood := { row := attrSplitsUptoRow, standIns := [], harness := (true, "eaa9534403d26e3a1a185c6b5a0f08492ba0aa1eeb988227d2ff65cb1989a064"), looks := false }, kinds := [], alts := [], laidByText := true, laidKinds := [.data], laidTests := true, laidLooks := .later }
def AttrSplitsUptoCardSaid : Prop := Claim7.holds Tryd.pinned (.plain (OpenSpec.upto attrSplitsSpec)) attrSplitsUptoCard

/-- THE SECOND FORM's CARD OF 'weftlaw05.AttrJudges'. -/
def attrJudgesUptoCard : Claim7 := { stood := { row := attrJudgesUptoRow, standIns := [], harness := (true, "eaa9534403d26e3a1a185c6b5a0f08492ba0aa1eeb988227d2ff65cb1989a064"), looks := false }, kinds := [], alts := [], laidByText := true, laidKinds := [.data], laidTests := true, laidLooks := .later }
def AttrJudgesUptoCardSaid : Prop := Claim7.holds Tryd.pinned (.plain (OpenSpec.upto attrJudgesSpec)) attrJudgesUptoCard

/-- THE SECOND FORM's CARD OF 'weftlaw05.AttrReads'. -/
def attrReadsUptoCard : Claim7 := { stood := { row := attrReadsUptoRow, standIns := [], harness := (true, "eaa9534403d26e3a1a185c6b5a0f08492ba0aa1eeb988227d2ff65cb1989a064"), looks := false }, kinds := [], alts := [], laidByText := true, laidKinds := [.data], laidTests := true, laidLooks := .later }
def AttrReadsUptoCardSaid : Prop := Claim7.holds Tryd.pinned (.plain (OpenSpec.upto attrReadsSpec)) attrReadsUptoCard

/-- THE SECOND FORM's CARD OF 'weftlaw05.AttrWrites'. -/
def attrWritesUptoCard : Claim7 := { stood := { row := attrWritesUptoRow, standIns := [], harness := (true, "eaa9534403d26e3a1a185c6b5a0f08492ba0aa1eeb988227d2ff65cb1989a064"), looks := false }, kinds := [], alts := [], laidByText := true, laidKinds := [.data], laidTests := true, laidLooks := .later }
def AttrWritesUptoCardSaid : Prop := Claim7.holds Tryd.pinned (.plain (OpenSpec.upto attrWritesSpec)) attrWritesUptoCard

/-- THE SECOND FORM's CARD OF 'weftlaw05.AttrBack'. -/
def attrBackUptoCard : Claim7 := { stood := { row := attrBackUptoRow, standIns := [], harness := (true, "eaa9534403d26e3a1a185c6b5a0f08492ba0aa1eeb988227d2ff65cb1989a064"), looks := false }, kinds := [], alts := [], laidByText := true, laidKinds := [.data], laidTests := true, laidLooks := .later }
def AttrBackUptoCardSaid : Prop := Claim7.holds Tryd.pinned (.plain (OpenSpec.upto attrBackSpec)) attrBackUptoCard

/-- THE SECOND FORM's CARD OF 'weftlaw05.AttrWorse'. -/
def attrWorseUptoCard : Claim7 := { stood := { row := attrWorseUptoRow, standIns := [], harness := (true, "eaa9534403d26e3a1a185c6b5a0f08492ba0aa1eeb988227d2ff65cb1989a064"), looks := false }, kinds := [], alts := [], laidByText := true, laidKinds := [.data], laidTests := true, laidLooks := .later }
def AttrWorseUptoCardSaid : Prop := Claim7.holds Tryd.pinned (.plain (OpenSpec.upto attrWorseSpec)) attrWorseUptoCard

/-- THE SECOND FORM's CARD OF 'weftlaw05.AttrTwice'. -/
def attrTwiceUptoCard : Claim7 := { stood := { row := attrTwiceUptoRow, standIns := [], harness := (true, "eaa9534403d26e3a1a185c6b5a0f08492ba0aa1eeb988227d2ff65cb1989a064"), looks := false }, kinds := [], alts := [], laidByText := true, laidKinds := [.data], laidTests := true, laidLooks := .later }
def AttrTwiceUptoCardSaid : Prop := Claim7.holds Tryd.pinned (.plain (OpenSpec.upto attrTwiceSpec)) attrTwiceUptoCard
end Rows
end Go.Proofs.YtiohgblinjignaaDoor
