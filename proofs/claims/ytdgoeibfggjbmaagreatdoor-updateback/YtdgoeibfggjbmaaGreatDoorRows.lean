/-
  NARROWER THAN 'FOR EVERY INPUT', by the rows' own cells (each row's printed sentence says how): UpdatePuts: laid · UpdateReads: laid · UpdateBack: laid · UpdateCut: laid · UpdateWithdraws: laid · UpdateAlien: laid · UpdateRight: laid · PackBodies: laid · PackReads: laid · PackBack: laid · PackFew: laid · PackAlike: laid.
  DERIVED. THE GIVEN ROWS OF THIS SEAT. 12 by the template 'for every input the law returns true; each argument reads behind the call as it read before'; 0 by the template 'total and deterministic' (their statements: YtdgoeibfggjbmaaGreatDoorTotals.lean).
  GIVEN WITH THE SEED: the statements are not yours to turn. If you find one false, say at which input.
  Laid BY PROGRAM, IN A SANDBOX (cutbox-rows.mjs): the forced cells as the released guide's own fill.sh prints them over the translation d7820f34ba44c67e… (all of the seat's roots in one cut). By AI agents, Wed Nov 11 2026. No macro, syntax, notation, axiom, sorry.
-/
import Derived.Test.YtdgoeibfggjbmaaGreatDoorChecked
import GoSem.Claim
import GoSem.ClaimJoined
import GoSem.ClaimMapViews
import Derived.JoinedTies
import Derived.KernelRfl
namespace Go.Proofs.YtdgoeibfggjbmaaGreatDoor
/- THE CELL 'sum', in the pinned program and in every row, IS THE sha256 OF THE DUMP (.gsa) THAT YtdgoeibfggjbmaaGreatDoorProg.lean LOADS. Nothing in Lean hashes anything: it is a label: what it is worth is what the hold of that sum in a sandbox is worth. -/
noncomputable def Tryz.pinned : Pinned := { name := "ytdgoeibfggjbmaagreatdoor", sum := "d7820f34ba44c67ec931b08a4040f0f08f1d1aed0040c6873cc07637b701a79f", checked := Tryz.checked }
namespace Rows
def none {H : Type} : Left H := { results := [], args := [] }

/- WHAT THE LISTED PACKAGE-LEVEL VARIABLES READ AS WHEN THE CALL BEGINS. Each datum BY PROGRAM (the guide's laid-datum.mjs) off the statement by which the dump's own 'gosem.cut.vars' lays the variable. In a bare row this is a premise. The card (YtdgoeibfggjbmaaGreatDoorCards.lean) ties it to the program's text. -/
def laid_weft_attr_known {H : Type} : DataW H := .agg [.agg [.lit (.int .i64 1), .lit (.int .i64 64), .lit (.int .i64 2)], .agg [.lit (.int .i64 2), .lit (.int .i64 64), .lit (.int .i64 2)], .agg [.lit (.int .i64 3), .lit (.int .i64 64), .lit (.int .i64 2)], .agg [.lit (.int .i64 4), .lit (.int .i64 128), .lit (.int .i64 2)], .agg [.lit (.int .i64 5), .lit (.int .i64 64), .lit (.int .i64 2)], .agg [.lit (.int .i64 6), .lit (.int .i64 64), .lit (.int .i64 1)], .agg [.lit (.int .i64 7), .lit (.int .i64 192), .lit (.int .i64 1)], .agg [.lit (.int .i64 9), .lit (.int .i64 128), .lit (.int .i64 2)], .agg [.lit (.int .i64 10), .lit (.int .i64 128), .lit (.int .i64 2)], .agg [.lit (.int .i64 14), .lit (.int .i64 128), .lit (.int .i64 3)], .agg [.lit (.int .i64 15), .lit (.int .i64 128), .lit (.int .i64 3)], .agg [.lit (.int .i64 16), .lit (.int .i64 192), .lit (.int .i64 2)], .agg [.lit (.int .i64 22), .lit (.int .i64 192), .lit (.int .i64 2)]]

/-- 'weftlaw07.UpdatePuts': WHATEVER THE INPUT: true; the input reads as it did. -/
def updatePutsSpec : ChangeSpec := { name := "updatePuts", fn := fun _ => fun
  | [d1, d2] => { results := [.lit (.bool true)], args := [d1, d2] }
  | _ => none }
def updatePutsRow : OpenClaim := { program := "ytdgoeibfggjbmaagreatdoor", sum := "d7820f34ba44c67ec931b08a4040f0f08f1d1aed0040c6873cc07637b701a79f", func := "weft/weftlaw07.UpdatePuts", spec := "updatePuts", unfollowed := true, recurses := true, named := ["weft/attr.known"], plainKeys := false, apart := false, laid := [("weft/attr.known", laid_weft_attr_known)] }
def UpdatePutsSaid : Prop := updatePutsRow.holds Tryz.pinned (OpenSpec.ofChange updatePutsSpec)

/-- ITS FALSE NEIGHBOUR: 'it returns false'. Refute it at one input. -/
def updatePutsWrong : ChangeSpec := { name := "updatePuts", fn := fun _ => fun
  | [d1, d2] => { results := [.lit (.bool false)], args := [d1, d2] }
  | _ => none }
def UpdatePutsWrongFalsely : Prop := updatePutsRow.holds Tryz.pinned (OpenSpec.ofChange updatePutsWrong)

/-- 'weftlaw07.UpdateReads': WHATEVER THE INPUT: true; the input reads as it did. -/
def updateReadsSpec : ChangeSpec := { name := "updateReads", fn := fun _ => fun
  | [d] => { results := [.lit (.bool true)], args := [d] }
  | _ => none }
def updateReadsRow : OpenClaim := { program := "ytdgoeibfggjbmaagreatdoor", sum := "d7820f34ba44c67ec931b08a4040f0f08f1d1aed0040c6873cc07637b701a79f", func := "weft/weftlaw07.UpdateReads", spec := "updateReads", unfollowed := true, recurses := true, named := ["weft/attr.known"], plainKeys := false, apart := false, laid := [("weft/attr.known", laid_weft_attr_known)] }
def UpdateReadsSaid : Prop := updateReadsRow.holds Tryz.pinned (OpenSpec.ofChange updateReadsSpec)

/-- ITS FALSE NEIGHBOUR: 'it returns false'. Refute it at one input. -/
def updateReadsWrong : ChangeSpec := { name := "updateReads", fn := fun _ => fun
  | [d] => { results := [.lit (.bool false)], args := [d] }
  | _ => none }
def UpdateReadsWrongFalsely : Prop := updateReadsRow.holds Tryz.pinned (OpenSpec.ofChange updateReadsWrong)

/-- 'weftlaw07.UpdateBack': WHATEVER THE INPUT: true; the input reads as it did. -/
def updateBackSpec : ChangeSpec := { name := "updateBack", fn := fun _ => fun
  | [d] => { results := [.lit (.bool true)], args := [d] }
  | _ => none }
def updateBackRow : OpenClaim := { program := "ytdgoeibfggjbmaagreatdoor", sum := "d7820f34ba44c67ec931b08a4040f0f08f1d1aed0040c6873cc07637b701a79f", func := "weft/weftlaw07.UpdateBack", spec := "updateBack", unfollowed := true, recurses := true, named := ["weft/attr.known"], plainKeys := false, apart := false, laid := [("weft/attr.known", laid_weft_attr_known)] }
def UpdateBackSaid : Prop := updateBackRow.holds Tryz.pinned (OpenSpec.ofChange updateBackSpec)

/-- ITS FALSE NEIGHBOUR: 'it returns false'. Refute it at one input. -/
def updateBackWrong : ChangeSpec := { name := "updateBack", fn := fun _ => fun
  | [d] => { results := [.lit (.bool false)], args := [d] }
  | _ => none }
def UpdateBackWrongFalsely : Prop := updateBackRow.holds Tryz.pinned (OpenSpec.ofChange updateBackWrong)

/-- 'weftlaw07.UpdateCut': WHATEVER THE INPUT: true; the input reads as it did. -/
def updateCutSpec : ChangeSpec := { name := "updateCut", fn := fun _ => fun
  | [d1, d2] => { results := [.lit (.bool true)], args := [d1, d2] }
  | _ => none }
def updateCutRow : OpenClaim := { program := "ytdgoeibfggjbmaagreatdoor", sum := "d7820f34ba44c67ec931b08a4040f0f08f1d1aed0040c6873cc07637b701a79f", func := "weft/weftlaw07.UpdateCut", spec := "updateCut", unfollowed := true, recurses := true, named := ["weft/attr.known"], plainKeys := false, apart := false, laid := [("weft/attr.known", laid_weft_attr_known)] }
def UpdateCutSaid : Prop := updateCutRow.holds Tryz.pinned (OpenSpec.ofChange updateCutSpec)

/-- ITS FALSE NEIGHBOUR: 'it returns false'. Refute it at one input. -/
def updateCutWrong : ChangeSpec := { name := "updateCut", fn := fun _ => fun
  | [d1, d2] => { results := [.lit (.bool false)], args := [d1, d2] }
  | _ => none }
def UpdateCutWrongFalsely : Prop := updateCutRow.holds Tryz.pinned (OpenSpec.ofChange updateCutWrong)

/-- 'weftlaw07.UpdateWithdraws': WHATEVER THE INPUT: true; the input reads as it did. -/
def updateWithdrawsSpec : ChangeSpec := { name := "updateWithdraws", fn := fun _ => fun
  | [d1, d2, d3] => { results := [.lit (.bool true)], args := [d1, d2, d3] }
  | _ => none }
def updateWithdrawsRow : OpenClaim := { program := "ytdgoeibfggjbmaagreatdoor", sum := "d7820f34ba44c67ec931b08a4040f0f08f1d1aed0040c6873cc07637b701a79f", func := "weft/weftlaw07.UpdateWithdraws", spec := "updateWithdraws", unfollowed := true, recurses := true, named := ["weft/attr.known"], plainKeys := false, apart := false, laid := [("weft/attr.known", laid_weft_attr_known)] }
def UpdateWithdrawsSaid : Prop := updateWithdrawsRow.holds Tryz.pinned (OpenSpec.ofChange updateWithdrawsSpec)

/-- ITS FALSE NEIGHBOUR: 'it returns false'. Refute it at one input. -/
def updateWithdrawsWrong : ChangeSpec := { name := "updateWithdraws", fn := fun _ => fun
  | [d1, d2, d3] => { results := [.lit (.bool false)], args := [d1, d2, d3] }
  | _ => none }
def UpdateWithdrawsWrongFalsely : Prop := updateWithdrawsRow.holds Tryz.pinned (OpenSpec.ofChange updateWithdrawsWrong)

/-- 'weftlaw07.UpdateAlien': WHATEVER THE INPUT: true; the input reads as it did. -/
def updateAlienSpec : ChangeSpec := { name := "updateAlien", fn := fun _ => fun
  | [d1, d2, d3, d4] => { results := [.lit (.bool true)], args := [d1, d2, d3, d4] }
  | _ => none }
def updateAlienRow : OpenClaim := { program := "ytdgoeibfggjbmaagreatdoor", sum := "d7820f34ba44c67ec931b08a4040f0f08f1d1aed0040c6873cc07637b701a79f", func := "weft/weftlaw07.UpdateAlien", spec := "updateAlien", unfollowed := true, recurses := true, named := ["weft/attr.known"], plainKeys := false, apart := false, laid := [("weft/attr.known", laid_weft_attr_known)] }
def UpdateAlienSaid : Prop := updateAlienRow.holds Tryz.pinned (OpenSpec.ofChange updateAlienSpec)

/-- ITS FALSE NEIGHBOUR: 'it returns false'. Refute it at one input. -/
def updateAlienWrong : ChangeSpec := { name := "updateAlien", fn := fun _ => fun
  | [d1, d2, d3, d4] => { results := [.lit (.bool false)], args := [d1, d2, d3, d4] }
  | _ => none }
def UpdateAlienWrongFalsely : Prop := updateAlienRow.holds Tryz.pinned (OpenSpec.ofChange updateAlienWrong)

/-- 'weftlaw07.UpdateRight': WHATEVER THE INPUT: true; the input reads as it did. -/
def updateRightSpec : ChangeSpec := { name := "updateRight", fn := fun _ => fun
  | [d] => { results := [.lit (.bool true)], args := [d] }
  | _ => none }
def updateRightRow : OpenClaim := { program := "ytdgoeibfggjbmaagreatdoor", sum := "d7820f34ba44c67ec931b08a4040f0f08f1d1aed0040c6873cc07637b701a79f", func := "weft/weftlaw07.UpdateRight", spec := "updateRight", unfollowed := true, recurses := true, named := ["weft/attr.known"], plainKeys := false, apart := false, laid := [("weft/attr.known", laid_weft_attr_known)] }
def UpdateRightSaid : Prop := updateRightRow.holds Tryz.pinned (OpenSpec.ofChange updateRightSpec)

/-- ITS FALSE NEIGHBOUR: 'it returns false'. Refute it at one input. -/
def updateRightWrong : ChangeSpec := { name := "updateRight", fn := fun _ => fun
  | [d] => { results := [.lit (.bool false)], args := [d] }
  | _ => none }
def UpdateRightWrongFalsely : Prop := updateRightRow.holds Tryz.pinned (OpenSpec.ofChange updateRightWrong)

/-- 'weftlaw09.PackBodies': WHATEVER THE INPUT: true; the input reads as it did. -/
def packBodiesSpec : ChangeSpec := { name := "packBodies", fn := fun _ => fun
  | [d] => { results := [.lit (.bool true)], args := [d] }
  | _ => none }
def packBodiesRow : OpenClaim := { program := "ytdgoeibfggjbmaagreatdoor", sum := "d7820f34ba44c67ec931b08a4040f0f08f1d1aed0040c6873cc07637b701a79f", func := "weft/weftlaw09.PackBodies", spec := "packBodies", unfollowed := true, recurses := true, named := ["weft/attr.known"], plainKeys := false, apart := false, laid := [("weft/attr.known", laid_weft_attr_known)] }
def PackBodiesSaid : Prop := packBodiesRow.holds Tryz.pinned (OpenSpec.ofChange packBodiesSpec)

/-- ITS FALSE NEIGHBOUR: 'it returns false'. Refute it at one input. -/
def packBodiesWrong : ChangeSpec := { name := "packBodies", fn := fun _ => fun
  | [d] => { results := [.lit (.bool false)], args := [d] }
  | _ => none }
def PackBodiesWrongFalsely : Prop := packBodiesRow.holds Tryz.pinned (OpenSpec.ofChange packBodiesWrong)

/-- 'weftlaw09.PackReads': WHATEVER THE INPUT: true; the input reads as it did. -/
def packReadsSpec : ChangeSpec := { name := "packReads", fn := fun _ => fun
  | [d] => { results := [.lit (.bool true)], args := [d] }
  | _ => none }
def packReadsRow : OpenClaim := { program := "ytdgoeibfggjbmaagreatdoor", sum := "d7820f34ba44c67ec931b08a4040f0f08f1d1aed0040c6873cc07637b701a79f", func := "weft/weftlaw09.PackReads", spec := "packReads", unfollowed := true, recurses := true, named := ["weft/attr.known"], plainKeys := false, apart := false, laid := [("weft/attr.known", laid_weft_attr_known)] }
def PackReadsSaid : Prop := packReadsRow.holds Tryz.pinned (OpenSpec.ofChange packReadsSpec)

/-- ITS FALSE NEIGHBOUR: 'it returns false'. Refute it at one input. -/
def packReadsWrong : ChangeSpec := { name := "packReads", fn := fun _ => fun
  | [d] => { results := [.lit (.bool false)], args := [d] }
  | _ => none }
def PackReadsWrongFalsely : Prop := packReadsRow.holds Tryz.pinned (OpenSpec.ofChange packReadsWrong)

/-- 'weftlaw09.PackBack': WHATEVER THE INPUT: true; the input reads as it did. -/
def packBackSpec : ChangeSpec := { name := "packBack", fn := fun _ => fun
  | [d] => { results := [.lit (.bool true)], args := [d] }
  | _ => none }
def packBackRow : OpenClaim := { program := "ytdgoeibfggjbmaagreatdoor", sum := "d7820f34ba44c67ec931b08a4040f0f08f1d1aed0040c6873cc07637b701a79f", func := "weft/weftlaw09.PackBack", spec := "packBack", unfollowed := true, recurses := true, named := ["weft/attr.known"], plainKeys := false, apart := false, laid := [("weft/attr.known", laid_weft_attr_known)] }
def PackBackSaid : Prop := packBackRow.holds Tryz.pinned (OpenSpec.ofChange packBackSpec)

/-- ITS FALSE NEIGHBOUR: 'it returns false'. Refute it at one input. -/
def packBackWrong : ChangeSpec := { name := "packBack", fn := fun _ => fun
  | [d] => { results := [.lit (.bool false)], args := [d] }
  | _ => none }
def PackBackWrongFalsely : Prop := packBackRow.holds Tryz.pinned (OpenSpec.ofChange packBackWrong)

/-- 'weftlaw09.PackFew': WHATEVER THE INPUT: true; the input reads as it did. -/
def packFewSpec : ChangeSpec := { name := "packFew", fn := fun _ => fun
  | [d] => { results := [.lit (.bool true)], args := [d] }
  | _ => none }
def packFewRow : OpenClaim := { program := "ytdgoeibfggjbmaagreatdoor", sum := "d7820f34ba44c67ec931b08a4040f0f08f1d1aed0040c6873cc07637b701a79f", func := "weft/weftlaw09.PackFew", spec := "packFew", unfollowed := true, recurses := true, named := ["weft/attr.known"], plainKeys := false, apart := false, laid := [("weft/attr.known", laid_weft_attr_known)] }
def PackFewSaid : Prop := packFewRow.holds Tryz.pinned (OpenSpec.ofChange packFewSpec)

/-- ITS FALSE NEIGHBOUR: 'it returns false'. Refute it at one input. -/
def packFewWrong : ChangeSpec := { name := "packFew", fn := fun _ => fun
  | [d] => { results := [.lit (.bool false)], args := [d] }
  | _ => none }
def PackFewWrongFalsely : Prop := packFewRow.holds Tryz.pinned (OpenSpec.ofChange packFewWrong)

/-- 'weftlaw09.PackAlike': WHATEVER THE INPUT: true; the input reads as it did. -/
def packAlikeSpec : ChangeSpec := { name := "packAlike", fn := fun _ => fun
  | [d1, d2, d3] => { results := [.lit (.bool true)], args := [d1, d2, d3] }
  | _ => none }
def packAlikeRow : OpenClaim := { program := "ytdgoeibfggjbmaagreatdoor", sum := "d7820f34ba44c67ec931b08a4040f0f08f1d1aed0040c6873cc07637b701a79f", func := "weft/weftlaw09.PackAlike", spec := "packAlike", unfollowed := true, recurses := true, named := ["weft/attr.known"], plainKeys := false, apart := false, laid := [("weft/attr.known", laid_weft_attr_known)] }
def PackAlikeSaid : Prop := packAlikeRow.holds Tryz.pinned (OpenSpec.ofChange packAlikeSpec)

/-- ITS FALSE NEIGHBOUR: 'it returns false'. Refute it at one input. -/
def packAlikeWrong : ChangeSpec := { name := "packAlike", fn := fun _ => fun
  | [d1, d2, d3] => { results := [.lit (.bool false)], args := [d1, d2, d3] }
  | _ => none }
def PackAlikeWrongFalsely : Prop := packAlikeRow.holds Tryz.pinned (OpenSpec.ofChange packAlikeWrong)

/- THE SECOND FORM. 'bulk': how many values and letters a reading holds, each counted each time it is reached (what is shared counts as often as it is met; a slice's spare places count too). A statement '..UptoSaid' is the law's where the arguments, and the package variables that the reading takes, are together of bulk at most 1048576: NARROWER than '..Said'. Prove '..Said' where nothing that the law and all that it calls make is longer than what came in: it says more and counts as full. Else prove '..UptoSaid'. A law counts once. -/
mutual
def uptoBulk {H : Type} : DataW H → Nat
  | .lit (.string bytes) => bytes.length + 1
  | .lit _ => 1
  | .nil => 1
  | .ptr d => uptoBulk d + 1
  | .slice elems spare => uptoBulkAll elems + uptoBulkAll spare + 1
  | .agg parts => uptoBulkAll parts + 1
  | .iface _ d => uptoBulk d + 1
  | .map entries => uptoBulkEntries entries + 1
  | .held _ => 1
def uptoBulkAll {H : Type} : List (DataW H) → Nat
  | [] => 0
  | d :: r => uptoBulk d + uptoBulkAll r
def uptoBulkEntries {H : Type} : List (Lit × DataW H) → Nat
  | [] => 0
  | x :: r => uptoBulkEntry x + uptoBulkEntries r
def uptoBulkEntry {H : Type} : Lit × DataW H → Nat
  | (.string bytes, d) => bytes.length + uptoBulk d + 1
  | (_, d) => uptoBulk d + 1
 end
def uptoSmall : (H : Type) → List (DataW H) → Bool := fun _ ds => decide (uptoBulkAll ds ≤ 1048576)
def OpenSpec.upto (s : _root_.Go.ChangeSpec) : _root_.Go.OpenSpec := { _root_.Go.OpenSpec.ofChange s with cond := some uptoSmall }

/-- 'weftlaw07.UpdatePuts', WHERE WHAT IT READS IS OF BULK AT MOST 1048576: true; the input reads as it did. -/
def updatePutsUptoRow : OpenClaim := { program := "ytdgoeibfggjbmaagreatdoor", sum := "d7820f34ba44c67ec931b08a4040f0f08f1d1aed0040c6873cc07637b701a79f", func := "weft/weftlaw07.UpdatePuts", spec := "updatePuts", unfollowed := true, recurses := true, named := ["weft/attr.known"], plainKeys := false, apart := false, laid := [("weft/attr.known", laid_weft_attr_known)], narrowed := true }
def UpdatePutsUptoSaid : Prop := updatePutsUptoRow.holds Tryz.pinned (OpenSpec.upto updatePutsSpec)

/-- 'weftlaw07.UpdateReads', WHERE WHAT IT READS IS OF BULK AT MOST 1048576: true; the input reads as it did. -/
def updateReadsUptoRow : OpenClaim := { program := "ytdgoeibfggjbmaagreatdoor", sum := "d7820f34ba44c67ec931b08a4040f0f08f1d1aed0040c6873cc07637b701a79f", func := "weft/weftlaw07.UpdateReads", spec := "updateReads", unfollowed := true, recurses := true, named := ["weft/attr.known"], plainKeys := false, apart := false, laid := [("weft/attr.known", laid_weft_attr_known)], narrowed := true }
def UpdateReadsUptoSaid : Prop := updateReadsUptoRow.holds Tryz.pinned (OpenSpec.upto updateReadsSpec)

/-- 'weftlaw07.UpdateBack', WHERE WHAT IT READS IS OF BULK AT MOST 1048576: true; the input reads as it did. -/
def updateBackUptoRow : OpenClaim := { program := "ytdgoeibfggjbmaagreatdoor", sum := "d7820f34ba44c67ec931b08a4040f0f08f1d1aed0040c6873cc07637b701a79f", func := "weft/weftlaw07.UpdateBack", spec := "updateBack", unfollowed := true, recurses := true, named := ["weft/attr.known"], plainKeys := false, apart := false, laid := [("weft/attr.known", laid_weft_attr_known)], narrowed := true }
def UpdateBackUptoSaid : Prop := updateBackUptoRow.holds Tryz.pinned (OpenSpec.upto updateBackSpec)

/-- 'weftlaw07.UpdateCut', WHERE WHAT IT READS IS OF BULK AT MOST 1048576: true; the input reads as it did. -/
def updateCutUptoRow : OpenClaim := { program := "ytdgoeibfggjbmaagreatdoor", sum := "d7820f34ba44c67ec931b08a4040f0f08f1d1aed0040c6873cc07637b701a79f", func := "weft/weftlaw07.UpdateCut", spec := "updateCut", unfollowed := true, recurses := true, named := ["weft/attr.known"], plainKeys := false, apart := false, laid := [("weft/attr.known", laid_weft_attr_known)], narrowed := true }
def UpdateCutUptoSaid : Prop := updateCutUptoRow.holds Tryz.pinned (OpenSpec.upto updateCutSpec)

/-- 'weftlaw07.UpdateWithdraws', WHERE WHAT IT READS IS OF BULK AT MOST 1048576: true; the input reads as it did. -/
def updateWithdrawsUptoRow : OpenClaim := { program := "ytdgoeibfggjbmaagreatdoor", sum := "d7820f34ba44c67ec931b08a4040f0f08f1d1aed0040c6873cc07637b701a79f", func := "weft/weftlaw07.UpdateWithdraws", spec := "updateWithdraws", unfollowed := true, recurses := true, named := ["weft/attr.known"], plainKeys := false, apart := false, laid := [("weft/attr.known", laid_weft_attr_known)], narrowed := true }
def UpdateWithdrawsUptoSaid : Prop := updateWithdrawsUptoRow.holds Tryz.pinned (OpenSpec.upto updateWithdrawsSpec)

/-- 'weftlaw07.UpdateAlien', WHERE WHAT IT READS IS OF BULK AT MOST 1048576: true; the input reads as it did. -/
def updateAlienUptoRow : OpenClaim := { program := "ytdgoeibfggjbmaagreatdoor", sum := "d7820f34ba44c67ec931b08a4040f0f08f1d1aed0040c6873cc07637b701a79f", func := "weft/weftlaw07.UpdateAlien", spec := "updateAlien", unfollowed := true, recurses := true, named := ["weft/attr.known"], plainKeys := false, apart := false, laid := [("weft/attr.known", laid_weft_attr_known)], narrowed := true }
def UpdateAlienUptoSaid : Prop := updateAlienUptoRow.holds Tryz.pinned (OpenSpec.upto updateAlienSpec)

/-- 'weftlaw07.UpdateRight', WHERE WHAT IT READS IS OF BULK AT MOST 1048576: true; the input reads as it did. -/
def updateRightUptoRow : OpenClaim := { program := "ytdgoeibfggjbmaagreatdoor", sum := "d7820f34ba44c67ec931b08a4040f0f08f1d1aed0040c6873cc07637b701a79f", func := "weft/weftlaw07.UpdateRight", spec := "updateRight", unfollowed := true, recurses := true, named := ["weft/attr.known"], plainKeys := false, apart := false, laid := [("weft/attr.known", laid_weft_attr_known)], narrowed := true }
def UpdateRightUptoSaid : Prop := updateRightUptoRow.holds Tryz.pinned (OpenSpec.upto updateRightSpec)

/-- 'weftlaw09.PackBodies', WHERE WHAT IT READS IS OF BULK AT MOST 1048576: true; the input reads as it did. -/
def packBodiesUptoRow : OpenClaim := { program := "ytdgoeibfggjbmaagreatdoor", sum := "d7820f34ba44c67ec931b08a4040f0f08f1d1aed0040c6873cc07637b701a79f", func := "weft/weftlaw09.PackBodies", spec := "packBodies", unfollowed := true, recurses := true, named := ["weft/attr.known"], plainKeys := false, apart := false, laid := [("weft/attr.known", laid_weft_attr_known)], narrowed := true }
def PackBodiesUptoSaid : Prop := packBodiesUptoRow.holds Tryz.pinned (OpenSpec.upto packBodiesSpec)

/-- 'weftlaw09.PackReads', WHERE WHAT IT READS IS OF BULK AT MOST 1048576: true; the input reads as it did. -/
def packReadsUptoRow : OpenClaim := { program := "ytdgoeibfggjbmaagreatdoor", sum := "d7820f34ba44c67ec931b08a4040f0f08f1d1aed0040c6873cc07637b701a79f", func := "weft/weftlaw09.PackReads", spec := "packReads", unfollowed := true, recurses := true, named := ["weft/attr.known"], plainKeys := false, apart := false, laid := [("weft/attr.known", laid_weft_attr_known)], narrowed := true }
def PackReadsUptoSaid : Prop := packReadsUptoRow.holds Tryz.pinned (OpenSpec.upto packReadsSpec)

/-- 'weftlaw09.PackBack', WHERE WHAT IT READS IS OF BULK AT MOST 1048576: true; the input reads as it did. -/
def packBackUptoRow : OpenClaim := { program := "ytdgoeibfggjbmaagreatdoor", sum := "d7820f34ba44c67ec931b08a4040f0f08f1d1aed0040c6873cc07637b701a79f", func := "weft/weftlaw09.PackBack", spec := "packBack", unfollowed := true, recurses := true, named := ["weft/attr.known"], plainKeys := false, apart := false, laid := [("weft/attr.known", laid_weft_attr_known)], narrowed := true }
def PackBackUptoSaid : Prop := packBackUptoRow.holds Tryz.pinned (OpenSpec.upto packBackSpec)

/-- 'weftlaw09.PackFew', WHERE WHAT IT READS IS OF BULK AT MOST 1048576: true; the input reads as it did. -/
def packFewUptoRow : OpenClaim := { program := "ytdgoeibfggjbmaagreatdoor", sum := "d7820f34ba44c67ec931b08a4040f0f08f1d1aed0040c6873cc07637b701a79f", func := "weft/weftlaw09.PackFew", spec := "packFew", unfollowed := true, recurses := true, named := ["weft/attr.known"], plainKeys := false, apart := false, laid := [("weft/attr.known", laid_weft_attr_known)], narrowed := true }
def PackFewUptoSaid : Prop := packFewUptoRow.holds Tryz.pinned (OpenSpec.upto packFewSpec)

/-- 'weftlaw09.PackAlike', WHERE WHAT IT READS IS OF BULK AT MOST 1048576: true; the input reads as it did. -/
def packAlikeUptoRow : OpenClaim := { program := "ytdgoeibfggjbmaagreatdoor", sum := "d7820f34ba44c67ec931b08a4040f0f08f1d1aed0040c6873cc07637b701a79f", func := "weft/weftlaw09.PackAlike", spec := "packAlike", unfollowed := true, recurses := true, named := ["weft/attr.known"], plainKeys := false, apart := false, laid := [("weft/attr.known", laid_weft_attr_known)], narrowed := true }
def PackAlikeUptoSaid : Prop := packAlikeUptoRow.holds Tryz.pinned (OpenSpec.upto packAlikeSpec)

end Rows
end Go.Proofs.YtdgoeibfggjbmaaGreatDoor
