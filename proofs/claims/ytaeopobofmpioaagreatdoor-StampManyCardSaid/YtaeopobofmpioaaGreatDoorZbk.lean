/- The rows of laws: for every input the call returns true, and what came in reads as it did. The card: the row's listed variables are tied to the program's text. -/
import Derived.Test.YtaeopobofmpioaaGreatDoorCards
import Derived.Test.YtaeopobofmpioaaGreatDoorTie
import Derived.Test.YtaeopobofmpioaaGreatDoorZba
import Derived.Test.YtaeopobofmpioaaGreatDoorZbj
namespace Go.Proofs.YtaeopobofmpioaaGreatDoor
set_option linter.unusedSimpArgs false
set_option linter.unusedVariables false
open Go.ChangeShapes Go.WideShapes Go.ChangeAt Go.RowKit Go.ChangeMaps
set_option linter.unusedVariables false
theorem stampMany_pa : (Rows.stampManyRow.inPlace == Tryz.pinned.checked.prog.inPlace 7) = true := by kernel_rfl
theorem stampMany_pb : (Rows.stampManyRow.unfollowed == Tryz.pinned.checked.prog.unfollowed 7) = true := by kernel_rfl
theorem stampMany_pc : (Rows.stampManyRow.recurses == Tryz.pinned.checked.prog.recurses 7) = true := by kernel_rfl
theorem stampMany_pd : (Rows.stampManyRow.named == Tryz.pinned.checked.prog.varsNamed 7) = true := by kernel_rfl
theorem stampMany_jf : joinedFacts Tryz.pinned.checked.prog 7 Tryz.f7 (OpenSpec.ofChange Rows.stampManySpec).bare Rows.stampManyRow = true := by
  unfold joinedFacts
  rw [stampMany_pa, stampMany_pb, stampMany_pc, stampMany_pd]
  kernel_rfl
end Go.Proofs.YtaeopobofmpioaaGreatDoor
