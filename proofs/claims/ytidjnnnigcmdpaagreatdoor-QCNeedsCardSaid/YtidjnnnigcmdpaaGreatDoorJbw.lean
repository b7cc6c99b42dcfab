/- The rows of laws: for every input the call returns true, and what came in reads as it did. The card: the row's listed variables are tied to the program's text. -/
import Derived.Test.YtidjnnnigcmdpaaGreatDoorCards
import Derived.Test.YtidjnnnigcmdpaaGreatDoorTie
import Derived.Test.YtidjnnnigcmdpaaGreatDoorJaz
import Derived.Test.YtidjnnnigcmdpaaGreatDoorJbv
set_option linter.unusedSimpArgs false
set_option linter.unusedVariables false
set_option linter.unnecessarySimpa false
namespace Go.Proofs.YtidjnnnigcmdpaaGreatDoor
open Go.ChangeShapes Go.WideShapes Go.ChangeAt Go.RowKit Go.ChangeMaps
theorem zbz:(Rows.qCNeedsRow.inPlace==Tryz.pinned.checked.prog.inPlace 7)=true:=by kernel_rfl
theorem zb0:(Rows.qCNeedsRow.unfollowed==Tryz.pinned.checked.prog.unfollowed 7)=true:=by kernel_rfl
theorem zb1:(Rows.qCNeedsRow.recurses==Tryz.pinned.checked.prog.recurses 7)=true:=by kernel_rfl
theorem zb2:(Rows.qCNeedsRow.named==Tryz.pinned.checked.prog.varsNamed 7)=true:=by kernel_rfl
theorem zb6:joinedFacts Tryz.pinned.checked.prog 7 Tryz.f7 (OpenSpec.ofChange Rows.qCNeedsSpec).bare Rows.qCNeedsRow=true:=by
 unfold joinedFacts
 rw [zbz,zb0,zb1,zb2]
 kernel_rfl
end Go.Proofs.YtidjnnnigcmdpaaGreatDoor
