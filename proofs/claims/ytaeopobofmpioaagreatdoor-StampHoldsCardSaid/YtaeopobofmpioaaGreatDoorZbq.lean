/- The rows of laws: for every input the call returns true, and what came in reads as it did. The card: the row's listed variables are tied to the program's text. -/
import Derived.Test.YtaeopobofmpioaaGreatDoorCards
import Derived.Test.YtaeopobofmpioaaGreatDoorTie
import Derived.Test.YtaeopobofmpioaaGreatDoorZba
import Derived.Test.YtaeopobofmpioaaGreatDoorZbp
namespace Go.Proofs.YtaeopobofmpioaaGreatDoor
set_option linter.unusedSimpArgs false
set_option linter.unusedVariables false
open Go.ChangeShapes Go.WideShapes Go.ChangeAt Go.RowKit Go.ChangeMaps
set_option linter.unusedVariables false
theorem stampHolds_pa : (Rows.stampHoldsRow.inPlace == Tryz.pinned.checked.prog.inPlace 5) = true := by kernel_rfl
theorem stampHolds_pb : (Rows.stampHoldsRow.unfollowed == Tryz.pinned.checked.prog.unfollowed 5) = true := by kernel_rfl
theorem stampHolds_pc : (Rows.stampHoldsRow.recurses == Tryz.pinned.checked.prog.recurses 5) = true := by kernel_rfl
theorem stampHolds_pd : (Rows.stampHoldsRow.named == Tryz.pinned.checked.prog.varsNamed 5) = true := by kernel_rfl
theorem stampHolds_jf : joinedFacts Tryz.pinned.checked.prog 5 Tryz.f5 (OpenSpec.ofChange Rows.stampHoldsSpec).bare Rows.stampHoldsRow = true := by
  unfold joinedFacts
  rw [stampHolds_pa, stampHolds_pb, stampHolds_pc, stampHolds_pd]
  kernel_rfl
end Go.Proofs.YtaeopobofmpioaaGreatDoor
