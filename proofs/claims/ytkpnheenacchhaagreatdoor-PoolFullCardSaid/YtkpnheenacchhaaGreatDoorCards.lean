/-
  DERIVED. GIVEN WITH THE SEED: THE CARDS: each row of YtkpnheenacchhaaGreatDoorRows.lean that lists a variable, with what it lists TIED to the program's text (the seventh form; the later family's looks); each row that meets fmt, with fmt's text TOLD by the authors' own Lean function (tested against real Go, not proved from fmt's source: count such statements apart). THE CARD IS WHAT COUNTS. Prove the row's statement (the work); the ties are given (YtkpnheenacchhaaGreatDoorTie.lean); close each card by the builder's one call (the guide's Derived/Test/ToyasCard.lean, 'card_holds'). Laid BY PROGRAM, IN A SANDBOX (cutbox-door.mjs). By AI agents, Wed Nov 11 2026. No macro, syntax, notation, axiom, sorry.
-/
import Derived.Test.YtkpnheenacchhaaGreatDoorRows
import GoSem.ClaimSeven
namespace Go.Proofs.YtkpnheenacchhaaGreatDoor
namespace Rows

/-- THE TIED CARD OF 'folkmootlaw13.PoolPlays'. -/
def poolPlaysCard : Claim7 := { stood := { row := poolPlaysRow, standIns := [], harness := (true, "e0c55fb00da19441398c78171f4b001051f7dd7a6a6092e063a9d7f03d2e99c1"), looks := true }, kinds := [], alts := [], laidByText := true, laidKinds := [.data, .data, .data], laidTests := true, laidLooks := .later }
def PoolPlaysCardSaid : Prop := Claim7.holds Tryz.pinned (.plain (OpenSpec.ofChange poolPlaysSpec)) poolPlaysCard

/-- THE TIED CARD OF 'folkmootlaw13.PoolFull'. -/
def poolFullCard : Claim7 := { stood := { row := poolFullRow, standIns := [], harness := (true, "e0c55fb00da19441398c78171f4b001051f7dd7a6a6092e063a9d7f03d2e99c1"), looks := true }, kinds := [], alts := [], laidByText := true, laidKinds := [.data, .data, .data], laidTests := true, laidLooks := .later }
def PoolFullCardSaid : Prop := Claim7.holds Tryz.pinned (.plain (OpenSpec.ofChange poolFullSpec)) poolFullCard

/-- THE TIED CARD OF 'folkmootlaw14.AckAny'. -/
def ackAnyCard : Claim7 := { stood := { row := ackAnyRow, standIns := [], harness := (true, "e0c55fb00da19441398c78171f4b001051f7dd7a6a6092e063a9d7f03d2e99c1"), looks := true }, kinds := [], alts := [], laidByText := true, laidKinds := [.data, .data, .data, .data, .sentinel, .sentinel, .pinned], laidTests := true, laidLooks := .later }
def AckAnyCardSaid : Prop := Claim7.holds Tryz.pinned (.plain (OpenSpec.ofChange ackAnySpec)) ackAnyCard

/-- THE TIED CARD OF 'folkmootlaw14.AckWords'. -/
def ackWordsCard : Claim7 := { stood := { row := ackWordsRow, standIns := [], harness := (true, "e0c55fb00da19441398c78171f4b001051f7dd7a6a6092e063a9d7f03d2e99c1"), looks := true }, kinds := [], alts := [], laidByText := true, laidKinds := [.data, .data, .data, .data, .sentinel, .sentinel, .pinned], laidTests := true, laidLooks := .later }
def AckWordsCardSaid : Prop := Claim7.holds Tryz.pinned (.plain (OpenSpec.ofChange ackWordsSpec)) ackWordsCard

/-- THE TIED CARD OF 'folkmootlaw14.SeqAny'. -/
def seqAnyCard : Claim7 := { stood := { row := seqAnyRow, standIns := [], harness := (true, "e0c55fb00da19441398c78171f4b001051f7dd7a6a6092e063a9d7f03d2e99c1"), looks := true }, kinds := [], alts := [], laidByText := true, laidKinds := [.data, .data, .data, .data, .sentinel, .sentinel, .pinned], laidTests := true, laidLooks := .later }
def SeqAnyCardSaid : Prop := Claim7.holds Tryz.pinned (.plain (OpenSpec.ofChange seqAnySpec)) seqAnyCard

/-- THE TIED CARD OF 'folkmootlaw14.SeqNeeds'. -/
def seqNeedsCard : Claim7 := { stood := { row := seqNeedsRow, standIns := [], harness := (true, "e0c55fb00da19441398c78171f4b001051f7dd7a6a6092e063a9d7f03d2e99c1"), looks := true }, kinds := [], alts := [], laidByText := true, laidKinds := [.data, .data, .data, .data, .sentinel, .sentinel, .pinned], laidTests := true, laidLooks := .later }
def SeqNeedsCardSaid : Prop := Claim7.holds Tryz.pinned (.plain (OpenSpec.ofChange seqNeedsSpec)) seqNeedsCard

/-- THE SECOND FORM's CARD OF 'folkmootlaw13.PoolPlays'. -/
def poolPlaysUptoCard : Claim7 := { stood := { row := poolPlaysUptoRow, standIns := [], harness := (true, "e0c55fb00da19441398c78171f4b001051f7dd7a6a6092e063a9d7f03d2e99c1"), looks := true }, kinds := [], alts := [], laidByText := true, laidKinds := [.data, .data, .data], laidTests := true, laidLooks := .later }
def PoolPlaysUptoCardSaid : Prop := Claim7.holds Tryz.pinned (.plain (OpenSpec.upto poolPlaysSpec)) poolPlaysUptoCard

/-- THE SECOND FORM's CARD OF 'folkmootlaw13.PoolFull'. -/
def poolFullUptoCard : Claim7 := { stood := { row := poolFullUptoRow, standIns := [], harness := (true, "e0c55fb00da19441398c78171f4b001051f7dd7a6a6092e063a9d7f03d2e99c1"), looks := true }, kinds := [], alts := [], laidByText := true, laidKinds := [.data, .data, .data], laidTests := true, laidLooks := .later }
def PoolFullUptoCardSaid : Prop := Claim7.holds Tryz.pinned (.plain (OpenSpec.upto poolFullSpec)) poolFullUptoCard

/-- THE SECOND FORM's CARD OF 'folkmootlaw14.AckAny'. -/
def ackAnyUptoCard : Claim7 := { stood := { row := ackAnyUptoRow, standIns := [], harness := (true, "e0c55fb00da19441398c78171f4b001051f7dd7a6a6092e063a9d7f03d2e99c1"), looks := true }, kinds := [], alts := [], laidByText := true, laidKinds := [.data, .data, .data, .data, .sentinel, .sentinel, .pinned], laidTests := true, laidLooks := .later }
def AckAnyUptoCardSaid : Prop := Claim7.holds Tryz.pinned (.plain (OpenSpec.upto ackAnySpec)) ackAnyUptoCard

/-- THE SECOND FORM's CARD OF 'folkmootlaw14.AckWords'. -/
def ackWordsUptoCard : Claim7 := { stood := { row := ackWordsUptoRow, standIns := [], harness := (true, "e0c55fb00da19441398c78171f4b001051f7dd7a6a6092e063a9d7f03d2e99c1"), looks := true }, kinds := [], alts := [], laidByText := true, laidKinds := [.data, .data, .data, .data, .sentinel, .sentinel, .pinned], laidTests := true, laidLooks := .later }
def AckWordsUptoCardSaid : Prop := Claim7.holds Tryz.pinned (.plain (OpenSpec.upto ackWordsSpec)) ackWordsUptoCard

/-- THE SECOND FORM's CARD OF 'folkmootlaw14.SeqAny'. -/
def seqAnyUptoCard : Claim7 := { stood := { row := seqAnyUptoRow, standIns := [], harness := (true, "e0c55fb00da19441398c78171f4b001051f7dd7a6a6092e063a9d7f03d2e99c1"), looks := true }, kinds := [], alts := [], laidByText := true, laidKinds := [.data, .data, .data, .data, .sentinel, .sentinel, .pinned], laidTests := true, laidLooks := .later }
def SeqAnyUptoCardSaid : Prop := Claim7.holds Tryz.pinned (.plain (OpenSpec.upto seqAnySpec)) seqAnyUptoCard

/-- THE SECOND FORM's CARD OF 'folkmootlaw14.SeqNeeds'. -/
def seqNeedsUptoCard : Claim7 := { stood := { row := seqNeedsUptoRow, standIns := [], harness := (true, "e0c55fb00da19441398c78171f4b001051f7dd7a6a6092e063a9d7f03d2e99c1"), looks := true }, kinds := [], alts := [], laidByText := true, laidKinds := [.data, .data, .data, .data, .sentinel, .sentinel, .pinned], laidTests := true, laidLooks := .later }
def SeqNeedsUptoCardSaid : Prop := Claim7.holds Tryz.pinned (.plain (OpenSpec.upto seqNeedsSpec)) seqNeedsUptoCard
end Rows
end Go.Proofs.YtkpnheenacchhaaGreatDoor
