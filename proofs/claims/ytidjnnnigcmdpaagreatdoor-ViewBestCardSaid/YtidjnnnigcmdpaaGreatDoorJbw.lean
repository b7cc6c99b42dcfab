/- The rows of laws: for every input the call returns true, and what came in reads as it did. The card: the row's listed variables are tied to the program's text. -/
import Derived.Test.YtidjnnnigcmdpaaGreatDoorCards
import Derived.Test.YtidjnnnigcmdpaaGreatDoorTie
import Derived.Test.YtidjnnnigcmdpaaGreatDoorJax
import Derived.Test.YtidjnnnigcmdpaaGreatDoorJbv
set_option linter.unusedSimpArgs false
set_option linter.unusedVariables false
set_option linter.unnecessarySimpa false
namespace Go.Proofs.YtidjnnnigcmdpaaGreatDoor
open Go.ChangeShapes Go.WideShapes Go.ChangeAt Go.RowKit Go.ChangeMaps
theorem za2:(Rows.viewBestRow.inPlace==Tryz.pinned.checked.prog.inPlace 11)=true:=by kernel_rfl
theorem za3:(Rows.viewBestRow.unfollowed==Tryz.pinned.checked.prog.unfollowed 11)=true:=by kernel_rfl
theorem za4:(Rows.viewBestRow.recurses==Tryz.pinned.checked.prog.recurses 11)=true:=by kernel_rfl
theorem za5:(Rows.viewBestRow.named==Tryz.pinned.checked.prog.varsNamed 11)=true:=by kernel_rfl
theorem za6:joinedFacts Tryz.pinned.checked.prog 11 Tryz.f11 (OpenSpec.ofChange Rows.viewBestSpec).bare Rows.viewBestRow=true:=by
 unfold joinedFacts
 rw [za2,za3,za4,za5]
 kernel_rfl
end Go.Proofs.YtidjnnnigcmdpaaGreatDoor
