/- The rows of laws: for every input the call returns true, and what came in reads as it did. The card: the row's listed variables are tied to the program's text. -/
import Derived.Test.YtpppegnojmnicaaGreatDoorCards
import Derived.Test.YtpppegnojmnicaaGreatDoorTie
import Derived.Test.YtpppegnojmnicaaGreatDoorZbf
import Derived.Test.YtpppegnojmnicaaGreatDoorZbx
namespace Go.Proofs.YtpppegnojmnicaaGreatDoor
set_option linter.unusedSimpArgs false
set_option linter.unusedVariables false
open Go.ChangeShapes Go.WideShapes Go.ChangeAt Go.RowKit Go.ChangeMaps
set_option linter.unusedVariables false
theorem medianFair_pa : (Rows.medianFairRow.inPlace == Tryz.pinned.checked.prog.inPlace 6) = true := by kernel_rfl
theorem medianFair_pb : (Rows.medianFairRow.unfollowed == Tryz.pinned.checked.prog.unfollowed 6) = true := by kernel_rfl
theorem medianFair_pc : (Rows.medianFairRow.recurses == Tryz.pinned.checked.prog.recurses 6) = true := by kernel_rfl
theorem medianFair_pd : (Rows.medianFairRow.named == Tryz.pinned.checked.prog.varsNamed 6) = true := by kernel_rfl
theorem medianFair_jf : joinedFacts Tryz.pinned.checked.prog 6 Tryz.f6 (OpenSpec.ofChange Rows.medianFairSpec).bare Rows.medianFairRow = true := by
  unfold joinedFacts
  rw [medianFair_pa, medianFair_pb, medianFair_pc, medianFair_pd]
  kernel_rfl
end Go.Proofs.YtpppegnojmnicaaGreatDoor
