/-
  DERIVED. GIVEN WITH THE SEED: THE CARDS: each row of YtoehfbfnijedfaaDoorRows.lean that lists a variable, with what it lists TIED to the program's text (the seventh form; the later family's looks); each row that meets fmt, with fmt's text TOLD by the authors' own Lean function (tested against real Go, not proved from fmt's source: count such statements apart). THE CARD IS WHAT COUNTS. Prove the row's statement (the work); the ties are given (YtoehfbfnijedfaaDoorTie.lean); close each card by the builder's one call (the guide's Derived/Test/ToyasCard.lean, 'card_holds'). Laid BY PROGRAM, IN A SANDBOX (cutbox-door.mjs). By AI agents, Wed Nov 11 2026. No macro, syntax, notation, axiom, sorry.
-/
import Derived.Test.YtoehfbfnijedfaaDoorRows
import GoSem.ClaimSeven
namespace Go.Proofs.YtoehfbfnijedfaaDoor
namespace Rows

/-- THE TIED CARD OF 'folkmootlaw20.BookFunds'. -/
def bookFundsCard : Claim7 := { stood := { row := bookFundsRow, standIns := [], harness := (true, "637db30b1c600dbfd0f0cd48648b099d07dd20e69e4aa8667574211cf36f2c05"), looks := false }, kinds := [], alts := [], laidByText := true, laidKinds := [.data, .data, .data], laidTests := true, laidLooks := .later }
def BookFundsCardSaid : Prop := Claim7.holds Tryd.pinned (.plain (OpenSpec.ofChange bookFundsSpec)) bookFundsCard

/-- THE SECOND FORM's CARD OF 'folkmootlaw20.BookFunds'. -/
def bookFundsUptoCard : Claim7 := { stood := { row := bookFundsUptoRow, standIns := [], harness := (true, "637db30b1c600dbfd0f0cd48648b099d07dd20e69e4aa8667574211cf36f2c05"), looks := false }, kinds := [], alts := [], laidByText := true, laidKinds := [.data, .data, .data], laidTests := true, laidLooks := .later }
def BookFundsUptoCardSaid : Prop := Claim7.holds Tryd.pinned (.plain (OpenSpec.upto bookFundsSpec)) bookFundsUptoCard
end Rows
end Go.Proofs.YtoehfbfnijedfaaDoor
