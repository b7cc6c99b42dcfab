/-
  DERIVED. GIVEN WITH THE SEED: THE CARDS: each row of YtpgbfglfgcidaaaDoorRows.lean that lists a variable, with what it lists TIED to the program's text (the seventh form; the later family's looks); each row that meets fmt, with fmt's text TOLD by the authors' own Lean function (tested against real Go, not proved from fmt's source: count such statements apart). THE CARD IS WHAT COUNTS. Prove the row's statement (the work); the ties are given (YtpgbfglfgcidaaaDoorTie.lean); close each card by the builder's one call (the guide's Derived/Test/ToyasCard.lean, 'card_holds'). Laid BY PROGRAM, IN A SANDBOX (cutbox-door.mjs). By AI agents, Wed Nov 11 2026. No macro, syntax, notation, axiom, sorry.
-/
import Derived.Test.YtpgbfglfgcidaaaDoorRows
import GoSem.ClaimSeven
namespace Go.Proofs.YtpgbfglfgcidaaaDoor
namespace Rows

/-- THE TIED CARD OF 'folkmootlaw9.CmdAny'. -/
def cmdAnyCard : Claim7 := { stood := { row := cmdAnyRow, standIns := [], harness := (true, "0c09dfa582653e80fc92161425ba542d0944a6bdf0f30d51b146590c4dc80f32"), looks := true }, kinds := [], alts := [], laidByText := true, laidKinds := [.data, .data, .data, .data, .sentinel, .sentinel, .pinned], laidTests := true, laidLooks := .later }
def CmdAnyCardSaid : Prop := Claim7.holds Tryd.pinned (.plain (OpenSpec.ofChange cmdAnySpec)) cmdAnyCard

/-- THE TIED CARD OF 'folkmootlaw9.CmdWords'. -/
def cmdWordsCard : Claim7 := { stood := { row := cmdWordsRow, standIns := [], harness := (true, "0c09dfa582653e80fc92161425ba542d0944a6bdf0f30d51b146590c4dc80f32"), looks := true }, kinds := [], alts := [], laidByText := true, laidKinds := [.data, .data, .data, .data, .sentinel, .sentinel, .pinned], laidTests := true, laidLooks := .later }
def CmdWordsCardSaid : Prop := Claim7.holds Tryd.pinned (.plain (OpenSpec.ofChange cmdWordsSpec)) cmdWordsCard

/-- THE TIED CARD OF 'folkmootlaw9.CmdEdges'. -/
def cmdEdgesCard : Claim7 := { stood := { row := cmdEdgesRow, standIns := [], harness := (true, "0c09dfa582653e80fc92161425ba542d0944a6bdf0f30d51b146590c4dc80f32"), looks := true }, kinds := [], alts := [], laidByText := true, laidKinds := [.data, .data, .data, .data, .sentinel, .sentinel, .pinned], laidTests := true, laidLooks := .later }
def CmdEdgesCardSaid : Prop := Claim7.holds Tryd.pinned (.plain (OpenSpec.ofChange cmdEdgesSpec)) cmdEdgesCard

/-- THE TIED CARD OF 'folkmootlaw9.CmdTells'. -/
def cmdTellsCard : Claim7 := { stood := { row := cmdTellsRow, standIns := [], harness := (true, "0c09dfa582653e80fc92161425ba542d0944a6bdf0f30d51b146590c4dc80f32"), looks := true }, kinds := [], alts := [], laidByText := true, laidKinds := [.data, .data, .data, .data, .sentinel, .sentinel, .pinned], laidTests := true, laidLooks := .later }
def CmdTellsCardSaid : Prop := Claim7.holds Tryd.pinned (.plain (OpenSpec.ofChange cmdTellsSpec)) cmdTellsCard

/-- THE TIED CARD OF 'folkmootlaw9.CmdDigests'. -/
def cmdDigestsCard : Claim7 := { stood := { row := cmdDigestsRow, standIns := [], harness := (true, "0c09dfa582653e80fc92161425ba542d0944a6bdf0f30d51b146590c4dc80f32"), looks := true }, kinds := [], alts := [], laidByText := true, laidKinds := [.data, .data, .data, .data, .sentinel, .sentinel, .pinned], laidTests := true, laidLooks := .later }
def CmdDigestsCardSaid : Prop := Claim7.holds Tryd.pinned (.plain (OpenSpec.ofChange cmdDigestsSpec)) cmdDigestsCard

/-- THE SECOND FORM's CARD OF 'folkmootlaw9.CmdAny'. -/
def cmdAnyUptoCard : Claim7 := { stood := { row := cmdAnyUptoRow, standIns := [], harness := (true, "0c09dfa582653e80fc92161425ba542d0944a6bdf0f30d51b146590c4dc80f32"), looks := true }, kinds := [], alts := [], laidByText := true, laidKinds := [.data, .data, .data, .data, .sentinel, .sentinel, .pinned], laidTests := true, laidLooks := .later }
def CmdAnyUptoCardSaid : Prop := Claim7.holds Tryd.pinned (.plain (OpenSpec.upto cmdAnySpec)) cmdAnyUptoCard

/-- THE SECOND FORM's CARD OF 'folkmootlaw9.CmdWords'. -/
def cmdWordsUptoCard : Claim7 := { stood := { row := cmdWordsUptoRow, standIns := [], harness := (true, "0c09dfa582653e80fc92161425ba542d0944a6bdf0f30d51b146590c4dc80f32"), looks := true }, kinds := [], alts := [], laidByText := true, laidKinds := [.data, .data, .data, .data, .sentinel, .sentinel, .pinned], laidTests := true, laidLooks := .later }
def CmdWordsUptoCardSaid : Prop := Claim7.holds Tryd.pinned (.plain (OpenSpec.upto cmdWordsSpec)) cmdWordsUptoCard

/-- THE SECOND FORM's CARD OF 'folkmootlaw9.CmdEdges'. -/
def cmdEdgesUptoCard : Claim7 := { stood := { row := cmdEdgesUptoRow, standIns := [], harness := (true, "0c09dfa582653e80fc92161425ba542d0944a6bdf0f30d51b146590c4dc80f32"), looks := true }, kinds := [], alts := [], laidByText := true, laidKinds := [.data, .data, .data, .data, .sentinel, .sentinel, .pinned], laidTests := true, laidLooks := .later }
def CmdEdgesUptoCardSaid : Prop := Claim7.holds Tryd.pinned (.plain (OpenSpec.upto cmdEdgesSpec)) cmdEdgesUptoCard

/-- THE SECOND FORM's CARD OF 'folkmootlaw9.CmdTells'. -/
def cmdTellsUptoCard : Claim7 := { stood := { row := cmdTellsUptoRow, standIns := [], harness := (true, "0c09dfa582653e80fc92161425ba542d0944a6bdf0f30d51b146590c4dc80f32"), looks := true }, kinds := [], alts := [], laidByText := true, laidKinds := [.data, .data, .data, .data, .sentinel, .sentinel, .pinned], laidTests := true, laidLooks := .later }
def CmdTellsUptoCardSaid : Prop := Claim7.holds Tryd.pinned (.plain (OpenSpec.upto cmdTellsSpec)) cmdTellsUptoCard

/-- THE SECOND FORM's CARD OF 'folkmootlaw9.CmdDigests'. -/
def cmdDigestsUptoCard : Claim7 := { stood := { row := cmdDigestsUptoRow, standIns := [], harness := (true, "0c09dfa582653e80fc92161425ba542d0944a6bdf0f30d51b146590c4dc80f32"), looks := true }, kinds := [], alts := [], laidByText := true, laidKinds := [.data, .data, .data, .data, .sentinel, .sentinel, .pinned], laidTests := true, laidLooks := .later }
def CmdDigestsUptoCardSaid : Prop := Claim7.holds Tryd.pinned (.plain (OpenSpec.upto cmdDigestsSpec)) cmdDigestsUptoCard
end Rows
end Go.Proofs.YtpgbfglfgcidaaaDoor
