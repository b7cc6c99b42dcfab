/- The rows of laws: for every input the call returns true, and what came in reads as it did. The card: the row's listed variables are tied to the program's text. -/
import Derived.Test.YtidjnnnigcmdpaaGreatDoorCards
import Derived.Test.YtidjnnnigcmdpaaGreatDoorTie
import Derived.Test.YtidjnnnigcmdpaaGreatDoorUaz
import Derived.Test.YtidjnnnigcmdpaaGreatDoorUbv
set_option linter.unusedSimpArgs false
set_option linter.unusedVariables false
set_option linter.unnecessarySimpa false
namespace Go.Proofs.YtidjnnnigcmdpaaGreatDoor
open Go.ChangeShapes Go.WideShapes Go.ChangeAt Go.RowKit Go.ChangeMaps
theorem jW:(Rows.quorumsMeetRow.inPlace==Tryz.pinned.checked.prog.inPlace 5)=true:=by kernel_rfl
theorem jX:(Rows.quorumsMeetRow.unfollowed==Tryz.pinned.checked.prog.unfollowed 5)=true:=by kernel_rfl
theorem jY:(Rows.quorumsMeetRow.recurses==Tryz.pinned.checked.prog.recurses 5)=true:=by kernel_rfl
theorem jZ:(Rows.quorumsMeetRow.named==Tryz.pinned.checked.prog.varsNamed 5)=true:=by kernel_rfl
theorem qd:joinedFacts Tryz.pinned.checked.prog 5 Tryz.f5 (OpenSpec.ofChange Rows.quorumsMeetSpec).bare Rows.quorumsMeetRow=true:=by
 unfold joinedFacts
 rw [jW,jX,jY,jZ]
 kernel_rfl
end Go.Proofs.YtidjnnnigcmdpaaGreatDoor
