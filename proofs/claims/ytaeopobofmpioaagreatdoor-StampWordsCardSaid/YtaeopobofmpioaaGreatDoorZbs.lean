/- The rows of laws: for every input the call returns true, and what came in reads as it did. The card: the row's listed variables are tied to the program's text. -/
import Derived.Test.YtaeopobofmpioaaGreatDoorCards
import Derived.Test.YtaeopobofmpioaaGreatDoorTie
import Derived.Test.YtaeopobofmpioaaGreatDoorZba
import Derived.Test.YtaeopobofmpioaaGreatDoorZbp
namespace Go.Proofs.YtaeopobofmpioaaGreatDoor
set_option linter.unusedSimpArgs false
set_option linter.unusedVariables false
open Go.ChangeShapes Go.WideShapes Go.ChangeAt Go.RowKit Go.ChangeMaps
set_option linter.unusedVariables false
theorem stampWords_pa : (Rows.stampWordsRow.inPlace == Tryz.pinned.checked.prog.inPlace 4) = true := by kernel_rfl
theorem stampWords_pb : (Rows.stampWordsRow.unfollowed == Tryz.pinned.checked.prog.unfollowed 4) = true := by kernel_rfl
theorem stampWords_pc : (Rows.stampWordsRow.recurses == Tryz.pinned.checked.prog.recurses 4) = true := by kernel_rfl
theorem stampWords_pd : (Rows.stampWordsRow.named == Tryz.pinned.checked.prog.varsNamed 4) = true := by kernel_rfl
theorem stampWords_jf : joinedFacts Tryz.pinned.checked.prog 4 Tryz.f4 (OpenSpec.ofChange Rows.stampWordsSpec).bare Rows.stampWordsRow = true := by
  unfold joinedFacts
  rw [stampWords_pa, stampWords_pb, stampWords_pc, stampWords_pd]
  kernel_rfl
end Go.Proofs.YtaeopobofmpioaaGreatDoor
