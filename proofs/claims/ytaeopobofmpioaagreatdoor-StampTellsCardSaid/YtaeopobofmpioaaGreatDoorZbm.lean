/- The rows of laws: for every input the call returns true, and what came in reads as it did. The card: the row's listed variables are tied to the program's text. -/
import Derived.Test.YtaeopobofmpioaaGreatDoorCards
import Derived.Test.YtaeopobofmpioaaGreatDoorTie
import Derived.Test.YtaeopobofmpioaaGreatDoorZba
import Derived.Test.YtaeopobofmpioaaGreatDoorZbj
namespace Go.Proofs.YtaeopobofmpioaaGreatDoor
set_option linter.unusedSimpArgs false
set_option linter.unusedVariables false
open Go.ChangeShapes Go.WideShapes Go.ChangeAt Go.RowKit Go.ChangeMaps
set_option linter.unusedVariables false
theorem stampTells_pa : (Rows.stampTellsRow.inPlace == Tryz.pinned.checked.prog.inPlace 6) = true := by kernel_rfl
theorem stampTells_pb : (Rows.stampTellsRow.unfollowed == Tryz.pinned.checked.prog.unfollowed 6) = true := by kernel_rfl
theorem stampTells_pc : (Rows.stampTellsRow.recurses == Tryz.pinned.checked.prog.recurses 6) = true := by kernel_rfl
theorem stampTells_pd : (Rows.stampTellsRow.named == Tryz.pinned.checked.prog.varsNamed 6) = true := by kernel_rfl
theorem stampTells_jf : joinedFacts Tryz.pinned.checked.prog 6 Tryz.f6 (OpenSpec.ofChange Rows.stampTellsSpec).bare Rows.stampTellsRow = true := by
  unfold joinedFacts
  rw [stampTells_pa, stampTells_pb, stampTells_pc, stampTells_pd]
  kernel_rfl
end Go.Proofs.YtaeopobofmpioaaGreatDoor
