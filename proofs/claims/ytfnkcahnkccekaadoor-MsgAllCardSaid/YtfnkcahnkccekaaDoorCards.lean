/-
  DERIVED. GIVEN WITH THE SEED: THE CARDS: each row of YtfnkcahnkccekaaDoorRows.lean that lists a variable, with what it lists TIED to the program's text (the seventh form; the later family's looks); each row that meets fmt, with fmt's text TOLD by the authors' own Lean function (tested against real Go, not proved from fmt's source: count such statements apart). THE CARD IS WHAT COUNTS. Prove the row's statement (the work); the ties are given (YtfnkcahnkccekaaDoorTie.lean); close each card by the builder's one call (the guide's Derived/Test/ToyasCard.lean, 'card_holds'). Laid BY PROGRAM, IN A SANDBOX (cutbox-door.mjs). By AI agents, Wed Nov 11 2026. No macro, syntax, notation, axiom, sorry.
-/
import Derived.Test.YtfnkcahnkccekaaDoorRows
import GoSem.ClaimSeven
namespace Go.Proofs.YtfnkcahnkccekaaDoor
namespace Rows

/-- THE TIED CARD OF 'folkmootlaw22.MsgAll'. -/
def msgAllCard : Claim7 := { stood := { row := msgAllRow, standIns := [], harness := (true, "56fec1b9347f45b8e7676add44850bc8a432807d6df0005aef54f417cc20d15d"), looks := false }, kinds := [], alts := [], laidByText := true, laidKinds := [.data, .data, .data], laidTests := true, laidLooks := .later }
def MsgAllCardSaid : Prop := Claim7.holds Tryd.pinned (.plain (OpenSpec.ofChange msgAllSpec)) msgAllCard

/-- THE SECOND FORM's CARD OF 'folkmootlaw22.MsgAll'. -/
def msgAllUptoCard : Claim7 := { stood := { row := msgAllUptoRow, standIns := [], harness := (true, "56fec1b9347f45b8e7676add44850bc8a432807d6df0005aef54f417cc20d15d"), looks := false }, kinds := [], alts := [], laidByText := true, laidKinds := [.data, .data, .data], laidTests := true, laidLooks := .later }
def MsgAllUptoCardSaid : Prop := Claim7.holds Tryd.pinned (.plain (OpenSpec.upto msgAllSpec)) msgAllUptoCard
end Rows
end Go.Proofs.YtfnkcahnkccekaaDoor
