/-
  DERIVED. GIVEN WITH THE SEED: THE CARDS: each row of YtbohmmcmlabcdaaDoorRows.lean that lists a variable, with what it lists TIED to the program's text (the seventh form; the later family's looks); each row that meets fmt, with fmt's text TOLD by the authors' own Lean function (tested against real Go, not proved from fmt's source: count such statements apart). THE CARD IS WHAT COUNTS. Prove the row's statement (the work); the ties are given (YtbohmmcmlabcdaaDoorTie.lean); close each card by the builder's one call (the guide's Derived/Test/ToyasCard.lean, 'card_holds'). Laid BY PROGRAM, IN A SANDBOX (cutbox-door.mjs). By AI agents, Wed Nov 11 2026. No macro, syntax, notation, axiom, sorry.
-/
import Derived.Test.YtbohmmcmlabcdaaDoorRows
import GoSem.ClaimSeven
namespace Go.Proofs.YtbohmmcmlabcdaaDoor
namespace Rows

/-- THE TIED CARD OF 'folkmootlaw17.TreeForks'. -/
def treeForksCard : Claim7 := { stood := { row := treeForksRow, standIns := [], harness := (true, "bf37d02b5004df1910cf4ada32ea566488b39a1af58fbe3e29cb78133222d5a8"), looks := true }, kinds := [], alts := [], laidByText := true, laidKinds := [.data, .data, .data], laidTests := true, laidLooks := .later }
def TreeForksCardSaid : Prop := Claim7.holds Tryd.pinned (.plain (OpenSpec.ofChange treeForksSpec)) treeForksCard

/-- THE TIED CARD OF 'folkmootlaw17.TreeOrder'. -/
def treeOrderCard : Claim7 := { stood := { row := treeOrderRow, standIns := [], harness := (true, "bf37d02b5004df1910cf4ada32ea566488b39a1af58fbe3e29cb78133222d5a8"), looks := true }, kinds := [], alts := [], laidByText := true, laidKinds := [.data, .data, .data], laidTests := true, laidLooks := .later }
def TreeOrderCardSaid : Prop := Claim7.holds Tryd.pinned (.plain (OpenSpec.ofChange treeOrderSpec)) treeOrderCard

/-- THE TIED CARD OF 'folkmootlaw18.SafeHolds'. -/
def safeHoldsCard : Claim7 := { stood := { row := safeHoldsRow, standIns := [], harness := (true, "bf37d02b5004df1910cf4ada32ea566488b39a1af58fbe3e29cb78133222d5a8"), looks := true }, kinds := [], alts := [], laidByText := true, laidKinds := [.data, .data, .data], laidTests := true, laidLooks := .later }
def SafeHoldsCardSaid : Prop := Claim7.holds Tryd.pinned (.plain (OpenSpec.ofChange safeHoldsSpec)) safeHoldsCard

/-- THE SECOND FORM's CARD OF 'folkmootlaw17.TreeForks'. -/
def treeForksUptoCard : Claim7 := { stood := { row := treeForksUptoRow, standIns := [], harness := (true, "bf37d02b5004df1910cf4ada32ea566488b39a1af58fbe3e29cb78133222d5a8"), looks := true }, kinds := [], alts := [], laidByText := true, laidKinds := [.data, .data, .data], laidTests := true, laidLooks := .later }
def TreeForksUptoCardSaid : Prop := Claim7.holds Tryd.pinned (.plain (OpenSpec.upto treeForksSpec)) treeForksUptoCard

/-- THE SECOND FORM's CARD OF 'folkmootlaw17.TreeOrder'. -/
def treeOrderUptoCard : Claim7 := { stood := { row := treeOrderUptoRow, standIns := [], harness := (true, "bf37d02b5004df1910cf4ada32ea566488b39a1af58fbe3e29cb78133222d5a8"), looks := true }, kinds := [], alts := [], laidByText := true, laidKinds := [.data, .data, .data], laidTests := true, laidLooks := .later }
def TreeOrderUptoCardSaid : Prop := Claim7.holds Tryd.pinned (.plain (OpenSpec.upto treeOrderSpec)) treeOrderUptoCard

/-- THE SECOND FORM's CARD OF 'folkmootlaw18.SafeHolds'. -/
def safeHoldsUptoCard : Claim7 := { stood := { row := safeHoldsUptoRow, standIns := [], harness := (true, "bf37d02b5004df1910cf4ada32ea566488b39a1af58fbe3e29cb78133222d5a8"), looks := true }, kinds := [], alts := [], laidByText := true, laidKinds := [.data, .data, .data], laidTests := true, laidLooks := .later }
def SafeHoldsUptoCardSaid : Prop := Claim7.holds Tryd.pinned (.plain (OpenSpec.upto safeHoldsSpec)) safeHoldsUptoCard
end Rows
end Go.Proofs.YtbohmmcmlabcdaaDoor
