/- The rows of laws: for every input the call returns true, and what came in reads as it did. The card: the row's listed variables are tied to the program's text. -/
import Derived.Test.YtkpnheenacchhaaGreatDoorCards
import Derived.Test.YtkpnheenacchhaaGreatDoorTie
import Derived.Test.YtkpnheenacchhaaGreatDoorZbb
import Derived.Test.YtkpnheenacchhaaGreatDoorZbv
set_option linter.unusedSimpArgs false
set_option linter.unusedVariables false
namespace Go.Proofs.YtkpnheenacchhaaGreatDoor
open Go.ChangeShapes Go.WideShapes Go.ChangeAt Go.RowKit Go.ChangeMaps
theorem zdh:(Rows.seqNeedsRow.inPlace==Tryz.pinned.checked.prog.inPlace 8)=true:=by kernel_rfl
theorem zdi:(Rows.seqNeedsRow.unfollowed==Tryz.pinned.checked.prog.unfollowed 8)=true:=by kernel_rfl
theorem zdj:(Rows.seqNeedsRow.recurses==Tryz.pinned.checked.prog.recurses 8)=true:=by kernel_rfl
theorem zdk:(Rows.seqNeedsRow.named==Tryz.pinned.checked.prog.varsNamed 8)=true:=by kernel_rfl
theorem zdl:joinedFacts Tryz.pinned.checked.prog 8 Tryz.f8 (OpenSpec.ofChange Rows.seqNeedsSpec).bare Rows.seqNeedsRow=true:=by
 unfold joinedFacts
 rw [zdh,zdi,zdj,zdk]
 kernel_rfl
end Go.Proofs.YtkpnheenacchhaaGreatDoor
