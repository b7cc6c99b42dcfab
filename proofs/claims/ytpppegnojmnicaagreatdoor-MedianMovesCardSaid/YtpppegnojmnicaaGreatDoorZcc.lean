/- The rows of laws: for every input the call returns true, and what came in reads as it did. The card: the row's listed variables are tied to the program's text. -/
import Derived.Test.YtpppegnojmnicaaGreatDoorCards
import Derived.Test.YtpppegnojmnicaaGreatDoorTie
import Derived.Test.YtpppegnojmnicaaGreatDoorZbf
import Derived.Test.YtpppegnojmnicaaGreatDoorZbx
namespace Go.Proofs.YtpppegnojmnicaaGreatDoor
set_option linter.unusedSimpArgs false
set_option linter.unusedVariables false
open Go.ChangeShapes Go.WideShapes Go.ChangeAt Go.RowKit Go.ChangeMaps
set_option linter.unusedVariables false
theorem medianMoves_pa : (Rows.medianMovesRow.inPlace == Tryz.pinned.checked.prog.inPlace 8) = true := by kernel_rfl
theorem medianMoves_pb : (Rows.medianMovesRow.unfollowed == Tryz.pinned.checked.prog.unfollowed 8) = true := by kernel_rfl
theorem medianMoves_pc : (Rows.medianMovesRow.recurses == Tryz.pinned.checked.prog.recurses 8) = true := by kernel_rfl
theorem medianMoves_pd : (Rows.medianMovesRow.named == Tryz.pinned.checked.prog.varsNamed 8) = true := by kernel_rfl
theorem medianMoves_jf : joinedFacts Tryz.pinned.checked.prog 8 Tryz.f8 (OpenSpec.ofChange Rows.medianMovesSpec).bare Rows.medianMovesRow = true := by
  unfold joinedFacts
  rw [medianMoves_pa, medianMoves_pb, medianMoves_pc, medianMoves_pd]
  kernel_rfl
end Go.Proofs.YtpppegnojmnicaaGreatDoor
