/- The rows of laws: for every input the call returns true, and what came in reads as it did. The card: the row's listed variables are tied to the program's text. -/
import Derived.Test.YtpppegnojmnicaaGreatDoorCards
import Derived.Test.YtpppegnojmnicaaGreatDoorTie
import Derived.Test.YtpppegnojmnicaaGreatDoorYbf
import Derived.Test.YtpppegnojmnicaaGreatDoorYby
namespace Go.Proofs.YtpppegnojmnicaaGreatDoor
set_option linter.unusedSimpArgs false
set_option linter.unusedVariables false
open Go.ChangeShapes Go.WideShapes Go.ChangeAt Go.RowKit Go.ChangeMaps
set_option linter.unusedVariables false
theorem certOrder_pa : (Rows.certOrderRow.inPlace == Tryz.pinned.checked.prog.inPlace 9) = true := by kernel_rfl
theorem certOrder_pb : (Rows.certOrderRow.unfollowed == Tryz.pinned.checked.prog.unfollowed 9) = true := by kernel_rfl
theorem certOrder_pc : (Rows.certOrderRow.recurses == Tryz.pinned.checked.prog.recurses 9) = true := by kernel_rfl
theorem certOrder_pd : (Rows.certOrderRow.named == Tryz.pinned.checked.prog.varsNamed 9) = true := by kernel_rfl
theorem certOrder_jf : joinedFacts Tryz.pinned.checked.prog 9 Tryz.f9 (OpenSpec.ofChange Rows.certOrderSpec).bare Rows.certOrderRow = true := by
  unfold joinedFacts
  rw [certOrder_pa, certOrder_pb, certOrder_pc, certOrder_pd]
  kernel_rfl
end Go.Proofs.YtpppegnojmnicaaGreatDoor
