/- The rows of laws: for every input the call returns true, and what came in reads as it did. The card: the row's listed variables are tied to the program's text. -/
import Derived.Test.YtaeopobofmpioaaGreatDoorCards
import Derived.Test.YtaeopobofmpioaaGreatDoorTie
import Derived.Test.YtaeopobofmpioaaGreatDoorZba
import Derived.Test.YtaeopobofmpioaaGreatDoorZbn
import Derived.Test.YtaeopobofmpioaaGreatDoorZbu
namespace Go.Proofs.YtaeopobofmpioaaGreatDoor
set_option linter.unusedSimpArgs false
set_option linter.unusedVariables false
open Go.ChangeShapes Go.WideShapes Go.ChangeAt Go.RowKit Go.ChangeMaps
set_option linter.unusedVariables false
theorem stampAny_pa : (Rows.stampAnyRow.inPlace == Tryz.pinned.checked.prog.inPlace 3) = true := by kernel_rfl
theorem stampAny_pb : (Rows.stampAnyRow.unfollowed == Tryz.pinned.checked.prog.unfollowed 3) = true := by kernel_rfl
theorem stampAny_pc : (Rows.stampAnyRow.recurses == Tryz.pinned.checked.prog.recurses 3) = true := by kernel_rfl
theorem stampAny_pd : (Rows.stampAnyRow.named == Tryz.pinned.checked.prog.varsNamed 3) = true := by kernel_rfl
theorem stampAny_jf : joinedFacts Tryz.pinned.checked.prog 3 Tryz.f3 (OpenSpec.ofChange Rows.stampAnySpec).bare Rows.stampAnyRow = true := by
  unfold joinedFacts
  rw [stampAny_pa, stampAny_pb, stampAny_pc, stampAny_pd]
  kernel_rfl
end Go.Proofs.YtaeopobofmpioaaGreatDoor
