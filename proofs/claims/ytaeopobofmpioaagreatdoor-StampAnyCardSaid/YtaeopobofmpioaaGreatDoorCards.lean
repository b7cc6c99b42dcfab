/-
  DERIVED. GIVEN WITH THE SEED: THE CARDS: each row of YtaeopobofmpioaaGreatDoorRows.lean that lists a variable, with what it lists TIED to the program's text (the seventh form; the later family's looks); each row that meets fmt, with fmt's text TOLD by the authors' own Lean function (tested against real Go, not proved from fmt's source: count such statements apart). THE CARD IS WHAT COUNTS. Prove the row's statement (the work); the ties are given (YtaeopobofmpioaaGreatDoorTie.lean); close each card by the builder's one call (the guide's Derived/Test/ToyasCard.lean, 'card_holds'). Laid BY PROGRAM, IN A SANDBOX (cutbox-door.mjs). By AI agents, Wed Nov 11 2026. No macro, syntax, notation, axiom, sorry.
-/
import Derived.Test.YtaeopobofmpioaaGreatDoorRows
import GoSem.ClaimSeven
namespace Go.Proofs.YtaeopobofmpioaaGreatDoor
namespace Rows

/-- THE TIED CARD OF 'folkmootlaw11.StampAny'. -/
def stampAnyCard : Claim7 := { stood := { row := stampAnyRow, standIns := [], harness := (true, "d33bd698e0551b39c79beec9e3879af08dc029a94ecf18d8f773b580a187a878"), looks := true }, kinds := [], alts := [], laidByText := true, laidKinds := [.data, .data, .data, .data, .sentinel, .sentinel, .pinned], laidTests := true, laidLooks := .later }
def StampAnyCardSaid : Prop := Claim7.holds Tryz.pinned (.plain (OpenSpec.ofChange stampAnySpec)) stampAnyCard

/-- THE TIED CARD OF 'folkmootlaw11.StampWords'. -/
def stampWordsCard : Claim7 := { stood := { row := stampWordsRow, standIns := [], harness := (true, "d33bd698e0551b39c79beec9e3879af08dc029a94ecf18d8f773b580a187a878"), looks := true }, kinds := [], alts := [], laidByText := true, laidKinds := [.data, .data, .data, .data, .sentinel, .sentinel, .pinned], laidTests := true, laidLooks := .later }
def StampWordsCardSaid : Prop := Claim7.holds Tryz.pinned (.plain (OpenSpec.ofChange stampWordsSpec)) stampWordsCard

/-- THE TIED CARD OF 'folkmootlaw11.StampHolds'. -/
def stampHoldsCard : Claim7 := { stood := { row := stampHoldsRow, standIns := [], harness := (true, "d33bd698e0551b39c79beec9e3879af08dc029a94ecf18d8f773b580a187a878"), looks := true }, kinds := [], alts := [], laidByText := true, laidKinds := [.data, .data, .data, .data, .sentinel, .sentinel, .pinned], laidTests := true, laidLooks := .later }
def StampHoldsCardSaid : Prop := Claim7.holds Tryz.pinned (.plain (OpenSpec.ofChange stampHoldsSpec)) stampHoldsCard

/-- THE TIED CARD OF 'folkmootlaw11.StampTells'. -/
def stampTellsCard : Claim7 := { stood := { row := stampTellsRow, standIns := [], harness := (true, "d33bd698e0551b39c79beec9e3879af08dc029a94ecf18d8f773b580a187a878"), looks := true }, kinds := [], alts := [], laidByText := true, laidKinds := [.data, .data, .data, .data, .sentinel, .sentinel, .pinned], laidTests := true, laidLooks := .later }
def StampTellsCardSaid : Prop := Claim7.holds Tryz.pinned (.plain (OpenSpec.ofChange stampTellsSpec)) stampTellsCard

/-- THE TIED CARD OF 'folkmootlaw11.StampMany'. -/
def stampManyCard : Claim7 := { stood := { row := stampManyRow, standIns := [], harness := (true, "d33bd698e0551b39c79beec9e3879af08dc029a94ecf18d8f773b580a187a878"), looks := true }, kinds := [], alts := [], laidByText := true, laidKinds := [.data, .data, .data, .data, .sentinel, .sentinel, .pinned], laidTests := true, laidLooks := .later }
def StampManyCardSaid : Prop := Claim7.holds Tryz.pinned (.plain (OpenSpec.ofChange stampManySpec)) stampManyCard

/-- THE TIED CARD OF 'folkmootlaw12.CertAny'. -/
def certAnyCard : Claim7 := { stood := { row := certAnyRow, standIns := [], harness := (true, "d33bd698e0551b39c79beec9e3879af08dc029a94ecf18d8f773b580a187a878"), looks := true }, kinds := [], alts := [], laidByText := true, laidKinds := [.data, .data, .data, .data, .sentinel, .sentinel, .pinned], laidTests := true, laidLooks := .later }
def CertAnyCardSaid : Prop := Claim7.holds Tryz.pinned (.plain (OpenSpec.ofChange certAnySpec)) certAnyCard

/-- THE TIED CARD OF 'folkmootlaw12.CertMakes'. -/
def certMakesCard : Claim7 := { stood := { row := certMakesRow, standIns := [], harness := (true, "d33bd698e0551b39c79beec9e3879af08dc029a94ecf18d8f773b580a187a878"), looks := true }, kinds := [], alts := [], laidByText := true, laidKinds := [.data, .data, .data, .data, .sentinel, .sentinel, .pinned], laidTests := true, laidLooks := .later }
def CertMakesCardSaid : Prop := Claim7.holds Tryz.pinned (.plain (OpenSpec.ofChange certMakesSpec)) certMakesCard

/-- THE TIED CARD OF 'folkmootlaw12.MedianOf'. -/
def medianOfCard : Claim7 := { stood := { row := medianOfRow, standIns := [], harness := (true, "d33bd698e0551b39c79beec9e3879af08dc029a94ecf18d8f773b580a187a878"), looks := true }, kinds := [], alts := [], laidByText := true, laidKinds := [.data, .data, .data, .data, .sentinel, .sentinel, .pinned], laidTests := true, laidLooks := .later }
def MedianOfCardSaid : Prop := Claim7.holds Tryz.pinned (.plain (OpenSpec.ofChange medianOfSpec)) medianOfCard

/-- THE TIED CARD OF 'folkmootlaw12.MedianFair'. -/
def medianFairCard : Claim7 := { stood := { row := medianFairRow, standIns := [], harness := (true, "d33bd698e0551b39c79beec9e3879af08dc029a94ecf18d8f773b580a187a878"), looks := true }, kinds := [], alts := [], laidByText := true, laidKinds := [.data, .data, .data, .data, .sentinel, .sentinel, .pinned], laidTests := true, laidLooks := .later }
def MedianFairCardSaid : Prop := Claim7.holds Tryz.pinned (.plain (OpenSpec.ofChange medianFairSpec)) medianFairCard

/-- THE TIED CARD OF 'folkmootlaw12.MedianMoves'. -/
def medianMovesCard : Claim7 := { stood := { row := medianMovesRow, standIns := [], harness := (true, "d33bd698e0551b39c79beec9e3879af08dc029a94ecf18d8f773b580a187a878"), looks := true }, kinds := [], alts := [], laidByText := true, laidKinds := [.data, .data, .data, .data, .sentinel, .sentinel, .pinned], laidTests := true, laidLooks := .later }
def MedianMovesCardSaid : Prop := Claim7.holds Tryz.pinned (.plain (OpenSpec.ofChange medianMovesSpec)) medianMovesCard

/-- THE TIED CARD OF 'folkmootlaw12.CertOrder'. -/
def certOrderCard : Claim7 := { stood := { row := certOrderRow, standIns := [], harness := (true, "d33bd698e0551b39c79beec9e3879af08dc029a94ecf18d8f773b580a187a878"), looks := true }, kinds := [], alts := [], laidByText := true, laidKinds := [.data, .data, .data, .data, .sentinel, .sentinel, .pinned], laidTests := true, laidLooks := .later }
def CertOrderCardSaid : Prop := Claim7.holds Tryz.pinned (.plain (OpenSpec.ofChange certOrderSpec)) certOrderCard

/-- THE TIED CARD OF 'folkmootlaw12.CertNeeds'. -/
def certNeedsCard : Claim7 := { stood := { row := certNeedsRow, standIns := [], harness := (true, "d33bd698e0551b39c79beec9e3879af08dc029a94ecf18d8f773b580a187a878"), looks := true }, kinds := [], alts := [], laidByText := true, laidKinds := [.data, .data, .data, .data, .sentinel, .sentinel, .pinned], laidTests := true, laidLooks := .later }
def CertNeedsCardSaid : Prop := Claim7.holds Tryz.pinned (.plain (OpenSpec.ofChange certNeedsSpec)) certNeedsCard

/-- THE SECOND FORM's CARD OF 'folkmootlaw11.StampAny'. -/
def stampAnyUptoCard : Claim7 := { stood := { row := stampAnyUptoRow, standIns := [], harness := (true, "d33bd698e0551b39c79beec9e3879af08dc029a94ecf18d8f773b580a187a878"), looks := true }, kinds := [], alts := [], laidByText := true, laidKinds := [.data, .data, .data, .data, .sentinel, .sentinel, .pinned], laidTests := true, laidLooks := .later }
def StampAnyUptoCardSaid : Prop := Claim7.holds Tryz.pinned (.plain (OpenSpec.upto stampAnySpec)) stampAnyUptoCard

/-- THE SECOND FORM's CARD OF 'folkmootlaw11.StampWords'. -/
def stampWordsUptoCard : Claim7 := { stood := { row := stampWordsUptoRow, standIns := [], harness := (true, "d33bd698e0551b39c79beec9e3879af08dc029a94ecf18d8f773b580a187a878"), looks := true }, kinds := [], alts := [], laidByText := true, laidKinds := [.data, .data, .data, .data, .sentinel, .sentinel, .pinned], laidTests := true, laidLooks := .later }
def StampWordsUptoCardSaid : Prop := Claim7.holds Tryz.pinned (.plain (OpenSpec.upto stampWordsSpec)) stampWordsUptoCard

/-- THE SECOND FORM's CARD OF 'folkmootlaw11.StampHolds'. -/
def stampHoldsUptoCard : Claim7 := { stood := { row := stampHoldsUptoRow, standIns := [], harness := (true, "d33bd698e0551b39c79beec9e3879af08dc029a94ecf18d8f773b580a187a878"), looks := true }, kinds := [], alts := [], laidByText := true, laidKinds := [.data, .data, .data, .data, .sentinel, .sentinel, .pinned], laidTests := true, laidLooks := .later }
def StampHoldsUptoCardSaid : Prop := Claim7.holds Tryz.pinned (.plain (OpenSpec.upto stampHoldsSpec)) stampHoldsUptoCard

/-- THE SECOND FORM's CARD OF 'folkmootlaw11.StampTells'. -/
def stampTellsUptoCard : Claim7 := { stood := { row := stampTellsUptoRow, standIns := [], harness := (true, "d33bd698e0551b39c79beec9e3879af08dc029a94ecf18d8f773b580a187a878"), looks := true }, kinds := [], alts := [], laidByText := true, laidKinds := [.data, .data, .data, .data, .sentinel, .sentinel, .pinned], laidTests := true, laidLooks := .later }
def StampTellsUptoCardSaid : Prop := Claim7.holds Tryz.pinned (.plain (OpenSpec.upto stampTellsSpec)) stampTellsUptoCard

/-- THE SECOND FORM's CARD OF 'folkmootlaw11.StampMany'. -/
def stampManyUptoCard : Claim7 := { stood := { row := stampManyUptoRow, standIns := [], harness := (true, "d33bd698e0551b39c79beec9e3879af08dc029a94ecf18d8f773b580a187a878"), looks := true }, kinds := [], alts := [], laidByText := true, laidKinds := [.data, .data, .data, .data, .sentinel, .sentinel, .pinned], laidTests := true, laidLooks := .later }
def StampManyUptoCardSaid : Prop := Claim7.holds Tryz.pinned (.plain (OpenSpec.upto stampManySpec)) stampManyUptoCard

/-- THE SECOND FORM's CARD OF 'folkmootlaw12.CertAny'. -/
def certAnyUptoCard : Claim7 := { stood := { row := certAnyUptoRow, standIns := [], harness := (true, "d33bd698e0551b39c79beec9e3879af08dc029a94ecf18d8f773b580a187a878"), looks := true }, kinds := [], alts := [], laidByText := true, laidKinds := [.data, .data, .data, .data, .sentinel, .sentinel, .pinned], laidTests := true, laidLooks := .later }
def CertAnyUptoCardSaid : Prop := Claim7.holds Tryz.pinned (.plain (OpenSpec.upto certAnySpec)) certAnyUptoCard

/-- THE SECOND FORM's CARD OF 'folkmootlaw12.CertMakes'. -/
def certMakesUptoCard : Claim7 := { stood := { row := certMakesUptoRow, standIns := [], harness := (true, "d33bd698e0551b39c79beec9e3879af08dc029a94ecf18d8f773b580a187a878"), looks := true }, kinds := [], alts := [], laidByText := true, laidKinds := [.data, .data, .data, .data, .sentinel, .sentinel, .pinned], laidTests := true, laidLooks := .later }
def CertMakesUptoCardSaid : Prop := Claim7.holds Tryz.pinned (.plain (OpenSpec.upto certMakesSpec)) certMakesUptoCard

/-- THE SECOND FORM's CARD OF 'folkmootlaw12.MedianOf'. -/
def medianOfUptoCard : Claim7 := { stood := { row := medianOfUptoRow, standIns := [], harness := (true, "d33bd698e0551b39c79beec9e3879af08dc029a94ecf18d8f773b580a187a878"), looks := true }, kinds := [], alts := [], laidByText := true, laidKinds := [.data, .data, .data, .data, .sentinel, .sentinel, .pinned], laidTests := true, laidLooks := .later }
def MedianOfUptoCardSaid : Prop := Claim7.holds Tryz.pinned (.plain (OpenSpec.upto medianOfSpec)) medianOfUptoCard

/-- THE SECOND FORM's CARD OF 'folkmootlaw12.MedianFair'. -/
def medianFairUptoCard : Claim7 := { stood := { row := medianFairUptoRow, standIns := [], harness := (true, "d33bd698e0551b39c79beec9e3879af08dc029a94ecf18d8f773b580a187a878"), looks := true }, kinds := [], alts := [], laidByText := true, laidKinds := [.data, .data, .data, .data, .sentinel, .sentinel, .pinned], laidTests := true, laidLooks := .later }
def MedianFairUptoCardSaid : Prop := Claim7.holds Tryz.pinned (.plain (OpenSpec.upto medianFairSpec)) medianFairUptoCard

/-- THE SECOND FORM's CARD OF 'folkmootlaw12.MedianMoves'. -/
def medianMovesUptoCard : Claim7 := { stood := { row := medianMovesUptoRow, standIns := [], harness := (true, "d33bd698e0551b39c79beec9e3879af08dc029a94ecf18d8f773b580a187a878"), looks := true }, kinds := [], alts := [], laidByText := true, laidKinds := [.data, .data, .data, .data, .sentinel, .sentinel, .pinned], laidTests := true, laidLooks := .later }
def MedianMovesUptoCardSaid : Prop := Claim7.holds Tryz.pinned (.plain (OpenSpec.upto medianMovesSpec)) medianMovesUptoCard

/-- THE SECOND FORM's CARD OF 'folkmootlaw12.CertOrder'. -/
def certOrderUptoCard : Claim7 := { stood := { row := certOrderUptoRow, standIns := [], harness := (true, "d33bd698e0551b39c79beec9e3879af08dc029a94ecf18d8f773b580a187a878"), looks := true }, kinds := [], alts := [], laidByText := true, laidKinds := [.data, .data, .data, .data, .sentinel, .sentinel, .pinned], laidTests := true, laidLooks := .later }
def CertOrderUptoCardSaid : Prop := Claim7.holds Tryz.pinned (.plain (OpenSpec.upto certOrderSpec)) certOrderUptoCard

/-- THE SECOND FORM's CARD OF 'folkmootlaw12.CertNeeds'. -/
def certNeedsUptoCard : Claim7 := { stood := { row := certNeedsUptoRow, standIns := [], harness := (true, "d33bd698e0551b39c79beec9e3879af08dc029a94ecf18d8f773b580a187a878"), looks := true }, kinds := [], alts := [], laidByText := true, laidKinds := [.data, .data, .data, .data, .sentinel, .sentinel, .pinned], laidTests := true, laidLooks := .later }
def CertNeedsUptoCardSaid : Prop := Claim7.holds Tryz.pinned (.plain (OpenSpec.upto certNeedsSpec)) certNeedsUptoCard
end Rows
end Go.Proofs.YtaeopobofmpioaaGreatDoor
