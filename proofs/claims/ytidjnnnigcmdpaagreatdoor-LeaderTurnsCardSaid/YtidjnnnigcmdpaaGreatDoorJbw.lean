/- The rows of laws: for every input the call returns true, and what came in reads as it did. The card: the row's listed variables are tied to the program's text. -/
import Derived.Test.YtidjnnnigcmdpaaGreatDoorCards
import Derived.Test.YtidjnnnigcmdpaaGreatDoorTie
import Derived.Test.YtidjnnnigcmdpaaGreatDoorJaz
import Derived.Test.YtidjnnnigcmdpaaGreatDoorJbv
set_option linter.unusedSimpArgs false
set_option linter.unusedVariables false
set_option linter.unnecessarySimpa false
namespace Go.Proofs.YtidjnnnigcmdpaaGreatDoor
open Go.ChangeShapes Go.WideShapes Go.ChangeAt Go.RowKit Go.ChangeMaps
theorem jW:(Rows.leaderTurnsRow.inPlace==Tryz.pinned.checked.prog.inPlace 9)=true:=by kernel_rfl
theorem jX:(Rows.leaderTurnsRow.unfollowed==Tryz.pinned.checked.prog.unfollowed 9)=true:=by kernel_rfl
theorem jY:(Rows.leaderTurnsRow.recurses==Tryz.pinned.checked.prog.recurses 9)=true:=by kernel_rfl
theorem jZ:(Rows.leaderTurnsRow.named==Tryz.pinned.checked.prog.varsNamed 9)=true:=by kernel_rfl
theorem qg:joinedFacts Tryz.pinned.checked.prog 9 Tryz.f9 (OpenSpec.ofChange Rows.leaderTurnsSpec).bare Rows.leaderTurnsRow=true:=by
 unfold joinedFacts
 rw [jW,jX,jY,jZ]
 kernel_rfl
end Go.Proofs.YtidjnnnigcmdpaaGreatDoor
