/- The rows of laws: for every input the call returns true, and what came in reads as it did. The card: the row's listed variables are tied to the program's text. -/
import Derived.Test.YtkpnheenacchhaaGreatDoorCards
import Derived.Test.YtkpnheenacchhaaGreatDoorTie
import Derived.Test.YtkpnheenacchhaaGreatDoorPaz
import Derived.Test.YtkpnheenacchhaaGreatDoorPbu
import Derived.Test.YtkpnheenacchhaaGreatDoorPbv
set_option linter.unusedSimpArgs false
set_option linter.unusedVariables false
namespace Go.Proofs.YtkpnheenacchhaaGreatDoor
open Go.ChangeShapes Go.WideShapes Go.ChangeAt Go.RowKit Go.ChangeMaps
theorem zls:(Rows.seqAnyRow.inPlace==Tryz.pinned.checked.prog.inPlace 7)=true:=by kernel_rfl
theorem zlt:(Rows.seqAnyRow.unfollowed==Tryz.pinned.checked.prog.unfollowed 7)=true:=by kernel_rfl
theorem zlu:(Rows.seqAnyRow.recurses==Tryz.pinned.checked.prog.recurses 7)=true:=by kernel_rfl
theorem zlv:(Rows.seqAnyRow.named==Tryz.pinned.checked.prog.varsNamed 7)=true:=by kernel_rfl
theorem zlw:joinedFacts Tryz.pinned.checked.prog 7 Tryz.f7 (OpenSpec.ofChange Rows.seqAnySpec).bare Rows.seqAnyRow=true:=by
 unfold joinedFacts
 rw [zls,zlt,zlu,zlv]
 kernel_rfl
end Go.Proofs.YtkpnheenacchhaaGreatDoor
