/- The rows of laws: for every input the call returns true, and what came in reads as it did. The card: the row's listed variables are tied to the program's text. -/
import Derived.Test.YtkpnheenacchhaaGreatDoorCards
import Derived.Test.YtkpnheenacchhaaGreatDoorTie
import Derived.Test.YtkpnheenacchhaaGreatDoorPbi
import Derived.Test.YtkpnheenacchhaaGreatDoorPbv
namespace Go.Proofs.YtkpnheenacchhaaGreatDoor
set_option linter.unusedSimpArgs false
set_option linter.unusedVariables false
open Go.ChangeShapes Go.WideShapes Go.ChangeAt Go.RowKit Go.ChangeMaps
set_option linter.unusedVariables false
theorem ackWords_pa : (Rows.ackWordsRow.inPlace == Tryz.pinned.checked.prog.inPlace 6) = true := by kernel_rfl
theorem ackWords_pb : (Rows.ackWordsRow.unfollowed == Tryz.pinned.checked.prog.unfollowed 6) = true := by kernel_rfl
theorem ackWords_pc : (Rows.ackWordsRow.recurses == Tryz.pinned.checked.prog.recurses 6) = true := by kernel_rfl
theorem ackWords_pd : (Rows.ackWordsRow.named == Tryz.pinned.checked.prog.varsNamed 6) = true := by kernel_rfl
theorem ackWords_jf : joinedFacts Tryz.pinned.checked.prog 6 Tryz.f6 (OpenSpec.ofChange Rows.ackWordsSpec).bare Rows.ackWordsRow = true := by
 unfold joinedFacts
 rw [ackWords_pa, ackWords_pb, ackWords_pc, ackWords_pd]
 kernel_rfl
end Go.Proofs.YtkpnheenacchhaaGreatDoor
