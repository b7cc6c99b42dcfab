/-
  DERIVED. GIVEN WITH THE SEED: THE CARDS: each row of YtpgbfglfgcidaaaGreatDoorRows.lean that lists a variable, with what it lists TIED to the program's text (the seventh form; the later family's looks); each row that meets fmt, with fmt's text TOLD by the authors' own Lean function (tested against real Go, not proved from fmt's source: count such statements apart). THE CARD IS WHAT COUNTS. Prove the row's statement (the work); the ties are given (YtpgbfglfgcidaaaGreatDoorTie.lean); close each card by the builder's one call (the guide's Derived/Test/ToyasCard.lean, 'card_holds'). Laid BY PROGRAM, IN A SANDBOX (cutbox-door.mjs). By AI agents, Wed Nov 11 2026. No macro, syntax, notation, axiom, sorry.
-/
import Derived.Test.YtpgbfglfgcidaaaGreatDoorRows
import GoSem.ClaimSeven
namespace Go.Proofs.YtpgbfglfgcidaaaGreatDoor
namespace Rows

/-- THE TIED CARD OF 'folkmootlaw5.KeyPlays'. -/
def keyPlaysCard : Claim7 := { stood := { row := keyPlaysRow, standIns := [], harness := (true, "f8e556d842e712b89b1ba8a76a1d3d4dffffdfddd9d9c83007a0eb16928dd2d5"), looks := true }, kinds := [], alts := [], laidByText := true, laidKinds := [.data, .data, .data, .data, .sentinel, .sentinel, .pinned], laidTests := true, laidLooks := .later }
def KeyPlaysCardSaid : Prop := Claim7.holds Tryz.pinned (.plain (OpenSpec.ofChange keyPlaysSpec)) keyPlaysCard

/-- THE TIED CARD OF 'folkmootlaw5.KeyHolds'. -/
def keyHoldsCard : Claim7 := { stood := { row := keyHoldsRow, standIns := [], harness := (true, "f8e556d842e712b89b1ba8a76a1d3d4dffffdfddd9d9c83007a0eb16928dd2d5"), looks := true }, kinds := [], alts := [], laidByText := true, laidKinds := [.data, .data, .data, .data, .sentinel, .sentinel, .pinned], laidTests := true, laidLooks := .later }
def KeyHoldsCardSaid : Prop := Claim7.holds Tryz.pinned (.plain (OpenSpec.ofChange keyHoldsSpec)) keyHoldsCard

/-- THE TIED CARD OF 'folkmootlaw5.SigWords'. -/
def sigWordsCard : Claim7 := { stood := { row := sigWordsRow, standIns := [], harness := (true, "f8e556d842e712b89b1ba8a76a1d3d4dffffdfddd9d9c83007a0eb16928dd2d5"), looks := true }, kinds := [], alts := [], laidByText := true, laidKinds := [.data, .data, .data, .data, .sentinel, .sentinel, .pinned], laidTests := true, laidLooks := .later }
def SigWordsCardSaid : Prop := Claim7.holds Tryz.pinned (.plain (OpenSpec.ofChange sigWordsSpec)) sigWordsCard

/-- THE TIED CARD OF 'folkmootlaw5.KeyRoots'. -/
def keyRootsCard : Claim7 := { stood := { row := keyRootsRow, standIns := [], harness := (true, "f8e556d842e712b89b1ba8a76a1d3d4dffffdfddd9d9c83007a0eb16928dd2d5"), looks := true }, kinds := [], alts := [], laidByText := true, laidKinds := [.data, .data, .data, .data, .sentinel, .sentinel, .pinned], laidTests := true, laidLooks := .later }
def KeyRootsCardSaid : Prop := Claim7.holds Tryz.pinned (.plain (OpenSpec.ofChange keyRootsSpec)) keyRootsCard

/-- THE TIED CARD OF 'folkmootlaw5.KeyTwins'. -/
def keyTwinsCard : Claim7 := { stood := { row := keyTwinsRow, standIns := [], harness := (true, "f8e556d842e712b89b1ba8a76a1d3d4dffffdfddd9d9c83007a0eb16928dd2d5"), looks := true }, kinds := [], alts := [], laidByText := true, laidKinds := [.data, .data, .data, .data, .sentinel, .sentinel, .pinned], laidTests := true, laidLooks := .later }
def KeyTwinsCardSaid : Prop := Claim7.holds Tryz.pinned (.plain (OpenSpec.ofChange keyTwinsSpec)) keyTwinsCard

/-- THE TIED CARD OF 'folkmootlaw5.KeyPromises'. -/
def keyPromisesCard : Claim7 := { stood := { row := keyPromisesRow, standIns := [], harness := (true, "f8e556d842e712b89b1ba8a76a1d3d4dffffdfddd9d9c83007a0eb16928dd2d5"), looks := true }, kinds := [], alts := [], laidByText := true, laidKinds := [.data, .data, .data, .data, .sentinel, .sentinel, .pinned], laidTests := true, laidLooks := .later }
def KeyPromisesCardSaid : Prop := Claim7.holds Tryz.pinned (.plain (OpenSpec.ofChange keyPromisesSpec)) keyPromisesCard

/-- THE SECOND FORM's CARD OF 'folkmootlaw5.KeyPlays'. -/
def keyPlaysUptoCard : Claim7 := { stood := { row := keyPlaysUptoRow, standIns := [], harness := (true, "f8e556d842e712b89b1ba8a76a1d3d4dffffdfddd9d9c83007a0eb16928dd2d5"), looks := true }, kinds := [], alts := [], laidByText := true, laidKinds := [.data, .data, .data, .data, .sentinel, .sentinel, .pinned], laidTests := true, laidLooks := .later }
def KeyPlaysUptoCardSaid : Prop := Claim7.holds Tryz.pinned (.plain (OpenSpec.upto keyPlaysSpec)) keyPlaysUptoCard

/-- THE SECOND FORM's CARD OF 'folkmootlaw5.KeyHolds'. -/
def keyHoldsUptoCard : Claim7 := { stood := { row := keyHoldsUptoRow, standIns := [], harness := (true, "f8e556d842e712b89b1ba8a76a1d3d4dffffdfddd9d9c83007a0eb16928dd2d5"), looks := true }, kinds := [], alts := [], laidByText := true, laidKinds := [.data, .data, .data, .data, .sentinel, .sentinel, .pinned], laidTests := true, laidLooks := .later }
def KeyHoldsUptoCardSaid : Prop := Claim7.holds Tryz.pinned (.plain (OpenSpec.upto keyHoldsSpec)) keyHoldsUptoCard

/-- THE SECOND FORM's CARD OF 'folkmootlaw5.SigWords'. -/
def sigWordsUptoCard : Claim7 := { stood := { row := sigWordsUptoRow, standIns := [], harness := (true, "f8e556d842e712b89b1ba8a76a1d3d4dffffdfddd9d9c83007a0eb16928dd2d5"), looks := true }, kinds := [], alts := [], laidByText := true, laidKinds := [.data, .data, .data, .data, .sentinel, .sentinel, .pinned], laidTests := true, laidLooks := .later }
def SigWordsUptoCardSaid : Prop := Claim7.holds Tryz.pinned (.plain (OpenSpec.upto sigWordsSpec)) sigWordsUptoCard

/-- THE SECOND FORM's CARD OF 'folkmootlaw5.KeyRoots'. -/
def keyRootsUptoCard : Claim7 := { stood := { row := keyRootsUptoRow, standIns := [], harness := (true, "f8e556d842e712b89b1ba8a76a1d3d4dffffdfddd9d9c83007a0eb16928dd2d5"), looks := true }, kinds := [], alts := [], laidByText := true, laidKinds := [.data, .data, .data, .data, .sentinel, .sentinel, .pinned], laidTests := true, laidLooks := .later }
def KeyRootsUptoCardSaid : Prop := Claim7.holds Tryz.pinned (.plain (OpenSpec.upto keyRootsSpec)) keyRootsUptoCard

/-- THE SECOND FORM's CARD OF 'folkmootlaw5.KeyTwins'. -/
def keyTwinsUptoCard : Claim7 := { stood := { row := keyTwinsUptoRow, standIns := [], harness := (true, "f8e556d842e712b89b1ba8a76a1d3d4dffffdfddd9d9c83007a0eb16928dd2d5"), looks := true }, kinds := [], alts := [], laidByText := true, laidKinds := [.data, .data, .data, .data, .sentinel, .sentinel, .pinned], laidTests := true, laidLooks := .later }
def KeyTwinsUptoCardSaid : Prop := Claim7.holds Tryz.pinned (.plain (OpenSpec.upto keyTwinsSpec)) keyTwinsUptoCard

/-- THE SECOND FORM's CARD OF 'folkmootlaw5.KeyPromises'. -/
def keyPromisesUptoCard : Claim7 := { stood := { row := keyPromisesUptoRow, standIns := [], harness := (true, "f8e556d842e712b89b1ba8a76a1d3d4dffffdfddd9d9c83007a0eb16928dd2d5"), looks := true }, kinds := [], alts := [], laidByText := true, laidKinds := [.data, .data, .data, .data, .sentinel, .sentinel, .pinned], laidTests := true, laidLooks := .later }
def KeyPromisesUptoCardSaid : Prop := Claim7.holds Tryz.pinned (.plain (OpenSpec.upto keyPromisesSpec)) keyPromisesUptoCard
end Rows
end Go.Proofs.YtpgbfglfgcidaaaGreatDoor
