/- The rows of laws: for every input the call returns true, and what came in reads as it did. The card: the row's listed variables are tied to the program's text. -/
import Derived.Test.YtpppegnojmnicaaGreatDoorCards
import Derived.Test.YtpppegnojmnicaaGreatDoorTie
import Derived.Test.YtpppegnojmnicaaGreatDoorVbc
import Derived.Test.YtpppegnojmnicaaGreatDoorVbv
namespace Go.Proofs.YtpppegnojmnicaaGreatDoor
set_option linter.unusedSimpArgs false
set_option linter.unusedVariables false
open Go.ChangeShapes Go.WideShapes Go.ChangeAt Go.RowKit Go.ChangeMaps
set_option linter.unusedVariables false
theorem certNeeds_pa : (Rows.certNeedsRow.inPlace == Tryz.pinned.checked.prog.inPlace 10) = true := by kernel_rfl
theorem certNeeds_pb : (Rows.certNeedsRow.unfollowed == Tryz.pinned.checked.prog.unfollowed 10) = true := by kernel_rfl
theorem certNeeds_pc : (Rows.certNeedsRow.recurses == Tryz.pinned.checked.prog.recurses 10) = true := by kernel_rfl
theorem certNeeds_pd : (Rows.certNeedsRow.named == Tryz.pinned.checked.prog.varsNamed 10) = true := by kernel_rfl
theorem certNeeds_jf : joinedFacts Tryz.pinned.checked.prog 10 Tryz.f10 (OpenSpec.ofChange Rows.certNeedsSpec).bare Rows.certNeedsRow = true := by
 unfold joinedFacts
 rw [certNeeds_pa, certNeeds_pb, certNeeds_pc, certNeeds_pd]
 kernel_rfl
end Go.Proofs.YtpppegnojmnicaaGreatDoor
