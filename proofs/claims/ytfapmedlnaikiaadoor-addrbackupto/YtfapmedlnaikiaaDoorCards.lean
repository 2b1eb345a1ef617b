/-
  DERIVED. GIVEN WITH THE SEED: THE CARDS: each row of YtfapmedlnaikiaaDoorRows.lean that lists a variable, with what it lists TIED to the program's text (the seventh form; the later family's looks); each row that meets fmt, with fmt's text TOLD by the authors' own Lean function (tested against real Go, not proved from fmt's source: count such statements apart). THE CARD IS WHAT COUNTS. Prove the row's statement (the work); the ties are given (YtfapmedlnaikiaaDoorTie.lean); close each card by the builder's one call (the guide's Derived/Test/ToyasCard.lean, 'card_holds'). Laid BY PROGRAM, IN A SANDBOX (cutbox-door.mjs). By AI agents, Wed Nov 11 2026. No macro, syntax, notation, axiom, sorry.
-/
import Derived.Test.YtfapmedlnaikiaaDoorRows
import GoSem.ClaimSeven
namespace Go.Proofs.YtfapmedlnaikiaaDoor
namespace Rows

/-- THE TIED CARD OF 'weftlaw02.AddrCards'. -/
def addrCardsCard : Claim7 := { stood := { row := addrCardsRow, standIns := [], harness := (true, "8d885bdcd22b8d9da443840efd307968583f3cd9e9c647d798e74228f3160944"), looks := false }, kinds := [], alts := [], laidByText := true, laidKinds := [.data, .data, .data, .data, .pinned], laidTests := true, laidLooks := .later }
def AddrCardsCardSaid : Prop := Claim7.holds Tryd.pinned (.plain (OpenSpec.ofChange addrCardsSpec)) addrCardsCard

/-- THE TIED CARD OF 'weftlaw02.AddrIps'. -/
def addrIpsCard : Claim7 := { stood := { row := addrIpsRow, standIns := [], harness := (true, "8d885bdcd22b8d9da443840efd307968583f3cd9e9c647d798e74228f3160944"), looks := false }, kinds := [], alts := [], laidByText := true, laidKinds := [.data, .data, .data, .data, .pinned], laidTests := true, laidLooks := .later }
def AddrIpsCardSaid : Prop := Claim7.holds Tryd.pinned (.plain (OpenSpec.ofChange addrIpsSpec)) addrIpsCard

/-- THE TIED CARD OF 'weftlaw02.AddrPrefixes'. -/
def addrPrefixesCard : Claim7 := { stood := { row := addrPrefixesRow, standIns := [], harness := (true, "8d885bdcd22b8d9da443840efd307968583f3cd9e9c647d798e74228f3160944"), looks := false }, kinds := [], alts := [], laidByText := true, laidKinds := [.data, .data, .data, .data, .pinned], laidTests := true, laidLooks := .later }
def AddrPrefixesCardSaid : Prop := Claim7.holds Tryd.pinned (.plain (OpenSpec.ofChange addrPrefixesSpec)) addrPrefixesCard

/-- THE TIED CARD OF 'weftlaw02.AddrRds'. -/
def addrRdsCard : Claim7 := { stood := { row := addrRdsRow, standIns := [], harness := (true, "8d885bdcd22b8d9da443840efd307968583f3cd9e9c647d798e74228f3160944"), looks := false }, kinds := [], alts := [], laidByText := true, laidKinds := [.data, .data, .data, .data, .pinned], laidTests := true, laidLooks := .later }
def AddrRdsCardSaid : Prop := Claim7.holds Tryd.pinned (.plain (OpenSpec.ofChange addrRdsSpec)) addrRdsCard

/-- THE TIED CARD OF 'weftlaw02.AddrBack'. -/
def addrBackCard : Claim7 := { stood := { row := addrBackRow, standIns := [], harness := (true, "8d885bdcd22b8d9da443840efd307968583f3cd9e9c647d798e74228f3160944"), looks := false }, kinds := [], alts := [], laidByText := true, laidKinds := [.data, .data, .data, .data, .pinned], laidTests := true, laidLooks := .later }
def AddrBackCardSaid : Prop := Claim7.holds Tryd.pinned (.plain (OpenSpec.ofChange addrBackSpec)) addrBackCard

/-- THE TIED CARD OF 'weftlaw02.AddrHas'. -/
def addrHasCard : Claim7 := { stood := { row := addrHasRow, standIns := [], harness := (true, "8d885bdcd22b8d9da443840efd307968583f3cd9e9c647d798e74228f3160944"), looks := false }, kinds := [], alts := [], laidByText := true, laidKinds := [.data, .data, .data, .data, .pinned], laidTests := true, laidLooks := .later }
def AddrHasCardSaid : Prop := Claim7.holds Tryd.pinned (.plain (OpenSpec.ofChange addrHasSpec)) addrHasCard

/-- THE TIED CARD OF 'weftlaw02.AddrOrder'. -/
def addrOrderCard : Claim7 := { stood := { row := addrOrderRow, standIns := [], harness := (true, "8d885bdcd22b8d9da443840efd307968583f3cd9e9c647d798e74228f3160944"), looks := false }, kinds := [], alts := [], laidByText := true, laidKinds := [.data, .data, .data, .data, .pinned], laidTests := true, laidLooks := .later }
def AddrOrderCardSaid : Prop := Claim7.holds Tryd.pinned (.plain (OpenSpec.ofChange addrOrderSpec)) addrOrderCard

/-- THE SECOND FORM's CARD OF 'weftlaw02.AddrCards'. -/
def addrCardsUptoCard : Claim7 := { stood := { row := addrCardsUptoRow, standIns := [], harness := (true, "8d885bdcd22b8d9da443840efd307968583f3cd9e9c647d798e74228f3160944"), looks := false }, kinds := [], alts := [], laidByText := true, laidKinds := [.data, .data, .data, .data, .pinned], laidTests := true, laidLooks := .later }
def AddrCardsUptoCardSaid : Prop := Claim7.holds Tryd.pinned (.plain (OpenSpec.upto addrCardsSpec)) addrCardsUptoCard

/-- THE SECOND FORM's CARD OF 'weftlaw02.AddrIps'. -/
def addrIpsUptoCard : Claim7 := { stood := { row := addrIpsUptoRow, standIns := [], harness := (true, "8d885bdcd22b8d9da443840efd307968583f3cd9e9c647d798e74228f3160944"), looks := false }, kinds := [], alts := [], laidByText := true, laidKinds := [.data, .data, .data, .data, .pinned], laidTests := true, laidLooks := .later }
def AddrIpsUptoCardSaid : Prop := Claim7.holds Tryd.pinned (.plain (OpenSpec.upto addrIpsSpec)) addrIpsUptoCard

/-- THE SECOND FORM's CARD OF 'weftlaw02.AddrPrefixes'. -/
def addrPrefixesUptoCard : Claim7 := { stood := { row := addrPrefixesUptoRow, standIns := [], harness := (true, "8d885bdcd22b8d9da443840efd307968583f3cd9e9c647d798e74228f3160944"), looks := false }, kinds := [], alts := [], laidByText := true, laidKinds := [.data, .data, .data, .data, .pinned], laidTests := true, laidLooks := .later }
def AddrPrefixesUptoCardSaid : Prop := Claim7.holds Tryd.pinned (.plain (OpenSpec.upto addrPrefixesSpec)) addrPrefixesUptoCard

/-- THE SECOND FORM's CARD OF 'weftlaw02.AddrRds'. -/
def addrRdsUptoCard : Claim7 := { stood := { row := addrRdsUptoRow, standIns := [], harness := (true, "8d885bdcd22b8d9da443840efd307968583f3cd9e9c647d798e74228f3160944"), looks := false }, kinds := [], alts := [], laidByText := true, laidKinds := [.data, .data, .data, .data, .pinned], laidTests := true, laidLooks := .later }
def AddrRdsUptoCardSaid : Prop := Claim7.holds Tryd.pinned (.plain (OpenSpec.upto addrRdsSpec)) addrRdsUptoCard

/-- THE SECOND FORM's CARD OF 'weftlaw02.AddrBack'. -/
def addrBackUptoCard : Claim7 := { stood := { row := addrBackUptoRow, standIns := [], harness := (true, "8d885bdcd22b8d9da443840efd307968583f3cd9e9c647d798e74228f3160944"), looks := false }, kinds := [], alts := [], laidByText := true, laidKinds := [.data, .data, .data, .data, .pinned], laidTests := true, laidLooks := .later }
def AddrBackUptoCardSaid : Prop := Claim7.holds Tryd.pinned (.plain (OpenSpec.upto addrBackSpec)) addrBackUptoCard

/-- THE SECOND FORM's CARD OF 'weftlaw02.AddrHas'. -/
def addrHasUptoCard : Claim7 := { stood := { row := addrHasUptoRow, standIns := [], harness := (true, "8d885bdcd22b8d9da443840efd307968583f3cd9e9c647d798e74228f3160944"), looks := false }, kinds := [], alts := [], laidByText := true, laidKinds := [.data, .data, .data, .data, .pinned], laidTests := true, laidLooks := .later }
def AddrHasUptoCardSaid : Prop := Claim7.holds Tryd.pinned (.plain (OpenSpec.upto addrHasSpec)) addrHasUptoCard

/-- THE SECOND FORM's CARD OF 'weftlaw02.AddrOrder'. -/
def addrOrderUptoCard : Claim7 := { stood := { row := addrOrderUptoRow, standIns := [], harness := (true, "8d885bdcd22b8d9da443840efd307968583f3cd9e9c647d798e74228f3160944"), looks := false }, kinds := [], alts := [], laidByText := true, laidKinds := [.data, .data, .data, .data, .pinned], laidTests := true, laidLooks := .later }
def AddrOrderUptoCardSaid : Prop := Claim7.holds Tryd.pinned (.plain (OpenSpec.upto addrOrderSpec)) addrOrderUptoCard
end Rows
end Go.Proofs.YtfapmedlnaikiaaDoor
