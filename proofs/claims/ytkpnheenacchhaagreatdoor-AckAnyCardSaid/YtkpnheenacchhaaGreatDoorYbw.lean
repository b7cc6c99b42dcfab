/- The rows of laws: for every input the call returns true, and what came in reads as it did. The card: the row's listed variables are tied to the program's text. -/
import Derived.Test.YtkpnheenacchhaaGreatDoorCards
import Derived.Test.YtkpnheenacchhaaGreatDoorTie
import Derived.Test.YtkpnheenacchhaaGreatDoorYba
import Derived.Test.YtkpnheenacchhaaGreatDoorYbu
import Derived.Test.YtkpnheenacchhaaGreatDoorYbv
set_option linter.unusedSimpArgs false
set_option linter.unusedVariables false
namespace Go.Proofs.YtkpnheenacchhaaGreatDoor
open Go.ChangeShapes Go.WideShapes Go.ChangeAt Go.RowKit Go.ChangeMaps
theorem zkf:(Rows.ackAnyRow.inPlace==Tryz.pinned.checked.prog.inPlace 5)=true:=by kernel_rfl
theorem zkg:(Rows.ackAnyRow.unfollowed==Tryz.pinned.checked.prog.unfollowed 5)=true:=by kernel_rfl
theorem zkh:(Rows.ackAnyRow.recurses==Tryz.pinned.checked.prog.recurses 5)=true:=by kernel_rfl
theorem zki:(Rows.ackAnyRow.named==Tryz.pinned.checked.prog.varsNamed 5)=true:=by kernel_rfl
theorem zkj:joinedFacts Tryz.pinned.checked.prog 5 Tryz.f5 (OpenSpec.ofChange Rows.ackAnySpec).bare Rows.ackAnyRow=true:=by
 unfold joinedFacts
 rw [zkf,zkg,zkh,zki]
 kernel_rfl
end Go.Proofs.YtkpnheenacchhaaGreatDoor
