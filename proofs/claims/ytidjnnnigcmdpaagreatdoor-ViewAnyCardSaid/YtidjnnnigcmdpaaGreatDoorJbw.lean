/- The rows of laws: for every input the call returns true, and what came in reads as it did. The card: the row's listed variables are tied to the program's text. -/
import Derived.Test.YtidjnnnigcmdpaaGreatDoorCards
import Derived.Test.YtidjnnnigcmdpaaGreatDoorTie
import Derived.Test.YtidjnnnigcmdpaaGreatDoorJbc
import Derived.Test.YtidjnnnigcmdpaaGreatDoorJbu
import Derived.Test.YtidjnnnigcmdpaaGreatDoorJbt
import Derived.Test.YtidjnnnigcmdpaaGreatDoorJbv
set_option linter.unusedSimpArgs false
set_option linter.unusedVariables false
set_option linter.unnecessarySimpa false
namespace Go.Proofs.YtidjnnnigcmdpaaGreatDoor
open Go.ChangeShapes Go.WideShapes Go.ChangeAt Go.RowKit Go.ChangeMaps
theorem zfn:(Rows.viewAnyRow.inPlace==Tryz.pinned.checked.prog.inPlace 8)=true:=by kernel_rfl
theorem zfo:(Rows.viewAnyRow.unfollowed==Tryz.pinned.checked.prog.unfollowed 8)=true:=by kernel_rfl
theorem zfp:(Rows.viewAnyRow.recurses==Tryz.pinned.checked.prog.recurses 8)=true:=by kernel_rfl
theorem zfq:(Rows.viewAnyRow.named==Tryz.pinned.checked.prog.varsNamed 8)=true:=by kernel_rfl
theorem zfr:joinedFacts Tryz.pinned.checked.prog 8 Tryz.f8 (OpenSpec.ofChange Rows.viewAnySpec).bare Rows.viewAnyRow=true:=by
 unfold joinedFacts
 rw [zfn,zfo,zfp,zfq]
 kernel_rfl
end Go.Proofs.YtidjnnnigcmdpaaGreatDoor
