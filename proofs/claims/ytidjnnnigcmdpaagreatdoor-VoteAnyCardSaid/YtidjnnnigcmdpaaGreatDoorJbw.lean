/- The rows of laws: for every input the call returns true, and what came in reads as it did. The card: the row's listed variables are tied to the program's text. -/
import Derived.Test.YtidjnnnigcmdpaaGreatDoorCards
import Derived.Test.YtidjnnnigcmdpaaGreatDoorTie
import Derived.Test.YtidjnnnigcmdpaaGreatDoorJbc
import Derived.Test.YtidjnnnigcmdpaaGreatDoorJbu
import Derived.Test.YtidjnnnigcmdpaaGreatDoorJbp
import Derived.Test.YtidjnnnigcmdpaaGreatDoorJbv
set_option linter.unusedSimpArgs false
set_option linter.unusedVariables false
set_option linter.unnecessarySimpa false
namespace Go.Proofs.YtidjnnnigcmdpaaGreatDoor
open Go.ChangeShapes Go.WideShapes Go.ChangeAt Go.RowKit Go.ChangeMaps
theorem zey:(Rows.voteAnyRow.inPlace==Tryz.pinned.checked.prog.inPlace 4)=true:=by kernel_rfl
theorem zez:(Rows.voteAnyRow.unfollowed==Tryz.pinned.checked.prog.unfollowed 4)=true:=by kernel_rfl
theorem ze0:(Rows.voteAnyRow.recurses==Tryz.pinned.checked.prog.recurses 4)=true:=by kernel_rfl
theorem ze1:(Rows.voteAnyRow.named==Tryz.pinned.checked.prog.varsNamed 4)=true:=by kernel_rfl
theorem ze2:joinedFacts Tryz.pinned.checked.prog 4 Tryz.f4 (OpenSpec.ofChange Rows.voteAnySpec).bare Rows.voteAnyRow=true:=by
 unfold joinedFacts
 rw [zey,zez,ze0,ze1]
 kernel_rfl
end Go.Proofs.YtidjnnnigcmdpaaGreatDoor
