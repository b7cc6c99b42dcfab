/-
  DERIVED. GIVEN WITH THE SEED: THE CARDS: each row of YtidjnnnigcmdpaaGreatDoorRows.lean that lists a variable, with what it lists TIED to the program's text (the seventh form; the later family's looks); each row that meets fmt, with fmt's text TOLD by the authors' own Lean function (tested against real Go, not proved from fmt's source: count such statements apart). THE CARD IS WHAT COUNTS. Prove the row's statement (the work); the ties are given (YtidjnnnigcmdpaaGreatDoorTie.lean); close each card by the builder's one call (the guide's Derived/Test/ToyasCard.lean, 'card_holds'). Laid BY PROGRAM, IN A SANDBOX (cutbox-door.mjs). By AI agents, Wed Nov 11 2026. No macro, syntax, notation, axiom, sorry.
-/
import Derived.Test.YtidjnnnigcmdpaaGreatDoorRows
import GoSem.ClaimSeven
namespace Go.Proofs.YtidjnnnigcmdpaaGreatDoor
namespace Rows

/-- THE TIED CARD OF 'folkmootlaw16.BlockAny'. -/
def blockAnyCard : Claim7 := { stood := { row := blockAnyRow, standIns := [], harness := (true, "89912d509683345d4dbad48d4c1a63c7f84507e0f7795d54949e7b8a40e0ad58"), looks := false }, kinds := [], alts := [], laidByText := true, laidKinds := [.data, .data, .data], laidTests := true, laidLooks := .later }
def BlockAnyCardSaid : Prop := Claim7.holds Tryz.pinned (.plain (OpenSpec.ofChange blockAnySpec)) blockAnyCard

/-- THE TIED CARD OF 'folkmootlaw16.VoteAny'. -/
def voteAnyCard : Claim7 := { stood := { row := voteAnyRow, standIns := [], harness := (true, "89912d509683345d4dbad48d4c1a63c7f84507e0f7795d54949e7b8a40e0ad58"), looks := false }, kinds := [], alts := [], laidByText := true, laidKinds := [.data, .data, .data], laidTests := true, laidLooks := .later }
def VoteAnyCardSaid : Prop := Claim7.holds Tryz.pinned (.plain (OpenSpec.ofChange voteAnySpec)) voteAnyCard

/-- THE TIED CARD OF 'folkmootlaw16.QuorumsMeet'. -/
def quorumsMeetCard : Claim7 := { stood := { row := quorumsMeetRow, standIns := [], harness := (true, "89912d509683345d4dbad48d4c1a63c7f84507e0f7795d54949e7b8a40e0ad58"), looks := false }, kinds := [], alts := [], laidByText := true, laidKinds := [.data, .data, .data], laidTests := true, laidLooks := .later }
def QuorumsMeetCardSaid : Prop := Claim7.holds Tryz.pinned (.plain (OpenSpec.ofChange quorumsMeetSpec)) quorumsMeetCard

/-- THE TIED CARD OF 'folkmootlaw16.BlockTells'. -/
def blockTellsCard : Claim7 := { stood := { row := blockTellsRow, standIns := [], harness := (true, "89912d509683345d4dbad48d4c1a63c7f84507e0f7795d54949e7b8a40e0ad58"), looks := false }, kinds := [], alts := [], laidByText := true, laidKinds := [.data, .data, .data], laidTests := true, laidLooks := .later }
def BlockTellsCardSaid : Prop := Claim7.holds Tryz.pinned (.plain (OpenSpec.ofChange blockTellsSpec)) blockTellsCard

/-- THE TIED CARD OF 'folkmootlaw16.QCNeeds'. -/
def qCNeedsCard : Claim7 := { stood := { row := qCNeedsRow, standIns := [], harness := (true, "89912d509683345d4dbad48d4c1a63c7f84507e0f7795d54949e7b8a40e0ad58"), looks := false }, kinds := [], alts := [], laidByText := true, laidKinds := [.data, .data, .data], laidTests := true, laidLooks := .later }
def QCNeedsCardSaid : Prop := Claim7.holds Tryz.pinned (.plain (OpenSpec.ofChange qCNeedsSpec)) qCNeedsCard

/-- THE TIED CARD OF 'folkmootlaw19.ViewAny'. -/
def viewAnyCard : Claim7 := { stood := { row := viewAnyRow, standIns := [], harness := (true, "89912d509683345d4dbad48d4c1a63c7f84507e0f7795d54949e7b8a40e0ad58"), looks := false }, kinds := [], alts := [], laidByText := true, laidKinds := [.data, .data, .data], laidTests := true, laidLooks := .later }
def ViewAnyCardSaid : Prop := Claim7.holds Tryz.pinned (.plain (OpenSpec.ofChange viewAnySpec)) viewAnyCard

/-- THE TIED CARD OF 'folkmootlaw19.LeaderTurns'. -/
def leaderTurnsCard : Claim7 := { stood := { row := leaderTurnsRow, standIns := [], harness := (true, "89912d509683345d4dbad48d4c1a63c7f84507e0f7795d54949e7b8a40e0ad58"), looks := false }, kinds := [], alts := [], laidByText := true, laidKinds := [.data, .data, .data], laidTests := true, laidLooks := .later }
def LeaderTurnsCardSaid : Prop := Claim7.holds Tryz.pinned (.plain (OpenSpec.ofChange leaderTurnsSpec)) leaderTurnsCard

/-- THE TIED CARD OF 'folkmootlaw19.PaceRuns'. -/
def paceRunsCard : Claim7 := { stood := { row := paceRunsRow, standIns := [], harness := (true, "89912d509683345d4dbad48d4c1a63c7f84507e0f7795d54949e7b8a40e0ad58"), looks := false }, kinds := [], alts := [], laidByText := true, laidKinds := [.data, .data, .data], laidTests := true, laidLooks := .later }
def PaceRunsCardSaid : Prop := Claim7.holds Tryz.pinned (.plain (OpenSpec.ofChange paceRunsSpec)) paceRunsCard

/-- THE TIED CARD OF 'folkmootlaw19.ViewBest'. -/
def viewBestCard : Claim7 := { stood := { row := viewBestRow, standIns := [], harness := (true, "89912d509683345d4dbad48d4c1a63c7f84507e0f7795d54949e7b8a40e0ad58"), looks := false }, kinds := [], alts := [], laidByText := true, laidKinds := [.data, .data, .data], laidTests := true, laidLooks := .later }
def ViewBestCardSaid : Prop := Claim7.holds Tryz.pinned (.plain (OpenSpec.ofChange viewBestSpec)) viewBestCard

/-- THE SECOND FORM's CARD OF 'folkmootlaw16.BlockAny'. -/
def blockAnyUptoCard : Claim7 := { stood := { row := blockAnyUptoRow, standIns := [], harness := (true, "89912d509683345d4dbad48d4c1a63c7f84507e0f7795d54949e7b8a40e0ad58"), looks := false }, kinds := [], alts := [], laidByText := true, laidKinds := [.data, .data, .data], laidTests := true, laidLooks := .later }
def BlockAnyUptoCardSaid : Prop := Claim7.holds Tryz.pinned (.plain (OpenSpec.upto blockAnySpec)) blockAnyUptoCard

/-- THE SECOND FORM's CARD OF 'folkmootlaw16.VoteAny'. -/
def voteAnyUptoCard : Claim7 := { stood := { row := voteAnyUptoRow, standIns := [], harness := (true, "89912d509683345d4dbad48d4c1a63c7f84507e0f7795d54949e7b8a40e0ad58"), looks := false }, kinds := [], alts := [], laidByText := true, laidKinds := [.data, .data, .data], laidTests := true, laidLooks := .later }
def VoteAnyUptoCardSaid : Prop := Claim7.holds Tryz.pinned (.plain (OpenSpec.upto voteAnySpec)) voteAnyUptoCard

/-- THE SECOND FORM's CARD OF 'folkmootlaw16.QuorumsMeet'. -/
def quorumsMeetUptoCard : Claim7 := { stood := { row := quorumsMeetUptoRow, standIns := [], harness := (true, "89912d509683345d4dbad48d4c1a63c7f84507e0f7795d54949e7b8a40e0ad58"), looks := false }, kinds := [], alts := [], laidByText := true, laidKinds := [.data, .data, .data], laidTests := true, laidLooks := .later }
def QuorumsMeetUptoCardSaid : Prop := Claim7.holds Tryz.pinned (.plain (OpenSpec.upto quorumsMeetSpec)) quorumsMeetUptoCard

/-- THE SECOND FORM's CARD OF 'folkmootlaw16.BlockTells'. -/
def blockTellsUptoCard : Claim7 := { stood := { row := blockTellsUptoRow, standIns := [], harness := (true, "89912d509683345d4dbad48d4c1a63c7f84507e0f7795d54949e7b8a40e0ad58"), looks := false }, kinds := [], alts := [], laidByText := true, laidKinds := [.data, .data, .data], laidTests := true, laidLooks := .later }
def BlockTellsUptoCardSaid : Prop := Claim7.holds Tryz.pinned (.plain (OpenSpec.upto blockTellsSpec)) blockTellsUptoCard

/-- THE SECOND FORM's CARD OF 'folkmootlaw16.QCNeeds'. -/
def qCNeedsUptoCard : Claim7 := { stood := { row := qCNeedsUptoRow, standIns := [], harness := (true, "89912d509683345d4dbad48d4c1a63c7f84507e0f7795d54949e7b8a40e0ad58"), looks := false }, kinds := [], alts := [], laidByText := true, laidKinds := [.data, .data, .data], laidTests := true, laidLooks := .later }
def QCNeedsUptoCardSaid : Prop := Claim7.holds Tryz.pinned (.plain (OpenSpec.upto qCNeedsSpec)) qCNeedsUptoCard

/-- THE SECOND FORM's CARD OF 'folkmootlaw19.ViewAny'. -/
def viewAnyUptoCard : Claim7 := { stood := { row := viewAnyUptoRow, standIns := [], harness := (true, "89912d509683345d4dbad48d4c1a63c7f84507e0f7795d54949e7b8a40e0ad58"), looks := false }, kinds := [], alts := [], laidByText := true, laidKinds := [.data, .data, .data], laidTests := true, laidLooks := .later }
def ViewAnyUptoCardSaid : Prop := Claim7.holds Tryz.pinned (.plain (OpenSpec.upto viewAnySpec)) viewAnyUptoCard

/-- THE SECOND FORM's CARD OF 'folkmootlaw19.LeaderTurns'. -/
def leaderTurnsUptoCard : Claim7 := { stood := { row := leaderTurnsUptoRow, standIns := [], harness := (true, "89912d509683345d4dbad48d4c1a63c7f84507e0f7795d54949e7b8a40e0ad58"), looks := false }, kinds := [], alts := [], laidByText := true, laidKinds := [.data, .data, .data], laidTests := true, laidLooks := .later }
def LeaderTurnsUptoCardSaid : Prop := Claim7.holds Tryz.pinned (.plain (OpenSpec.upto leaderTurnsSpec)) leaderTurnsUptoCard

/-- THE SECOND FORM's CARD OF 'folkmootlaw19.PaceRuns'. -/
def paceRunsUptoCard : Claim7 := { stood := { row := paceRunsUptoRow, standIns := [], harness := (true, "89912d509683345d4dbad48d4c1a63c7f84507e0f7795d54949e7b8a40e0ad58"), looks := false }, kinds := [], alts := [], laidByText := true, laidKinds := [.data, .data, .data], laidTests := true, laidLooks := .later }
def PaceRunsUptoCardSaid : Prop := Claim7.holds Tryz.pinned (.plain (OpenSpec.upto paceRunsSpec)) paceRunsUptoCard

/-- THE SECOND FORM's CARD OF 'folkmootlaw19.ViewBest'. -/
def viewBestUptoCard : Claim7 := { stood := { row := viewBestUptoRow, standIns := [], harness := (true, "89912d509683345d4dbad48d4c1a63c7f84507e0f7795d54949e7b8a40e0ad58"), looks := false }, kinds := [], alts := [], laidByText := true, laidKinds := [.data, .data, .data], laidTests := true, laidLooks := .later }
def ViewBestUptoCardSaid : Prop := Claim7.holds Tryz.pinned (.plain (OpenSpec.upto viewBestSpec)) viewBestUptoCard
end Rows
end Go.Proofs.YtidjnnnigcmdpaaGreatDoor
