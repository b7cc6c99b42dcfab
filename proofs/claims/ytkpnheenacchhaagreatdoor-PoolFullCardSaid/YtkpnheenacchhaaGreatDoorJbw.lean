/- The rows of laws: for every input the call returns true, and what came in reads as it did. The card: the row's listed variables are tied to the program's text. -/
import Derived.Test.YtkpnheenacchhaaGreatDoorCards
import Derived.Test.YtkpnheenacchhaaGreatDoorTie
import Derived.Test.YtkpnheenacchhaaGreatDoorJbe
import Derived.Test.YtkpnheenacchhaaGreatDoorJbv
set_option linter.unusedSimpArgs false
set_option linter.unusedVariables false
namespace Go.Proofs.YtkpnheenacchhaaGreatDoor
open Go.ChangeShapes Go.WideShapes Go.ChangeAt Go.RowKit Go.ChangeMaps
theorem xR:(Rows.poolFullRow.inPlace==Tryz.pinned.checked.prog.inPlace 4)=true:=by kernel_rfl
theorem xS:(Rows.poolFullRow.unfollowed==Tryz.pinned.checked.prog.unfollowed 4)=true:=by kernel_rfl
theorem xT:(Rows.poolFullRow.recurses==Tryz.pinned.checked.prog.recurses 4)=true:=by kernel_rfl
theorem xU:(Rows.poolFullRow.named==Tryz.pinned.checked.prog.varsNamed 4)=true:=by kernel_rfl
theorem xV:joinedFacts Tryz.pinned.checked.prog 4 Tryz.f4 (OpenSpec.ofChange Rows.poolFullSpec).bare Rows.poolFullRow=true:=by
 unfold joinedFacts
 rw [xR,xS,xT,xU]
 kernel_rfl
end Go.Proofs.YtkpnheenacchhaaGreatDoor
