/- The rows of laws: for every input the call returns true, and what came in reads as it did. The card: the row's listed variables are tied to the program's text. -/
import Derived.Test.YtpppegnojmnicaaGreatDoorCards
import Derived.Test.YtpppegnojmnicaaGreatDoorTie
import Derived.Test.YtpppegnojmnicaaGreatDoorXbs
namespace Go.Proofs.YtpppegnojmnicaaGreatDoor
set_option linter.unusedSimpArgs false
set_option linter.unusedVariables false
open Go.ChangeShapes Go.WideShapes Go.ChangeAt Go.RowKit Go.ChangeMaps
set_option linter.unusedVariables false
theorem certWords_pa : (Rows.certWordsRow.inPlace == Tryz.pinned.checked.prog.inPlace 7) = true := by kernel_rfl
theorem certWords_pb : (Rows.certWordsRow.unfollowed == Tryz.pinned.checked.prog.unfollowed 7) = true := by kernel_rfl
theorem certWords_pc : (Rows.certWordsRow.recurses == Tryz.pinned.checked.prog.recurses 7) = true := by kernel_rfl
theorem certWords_pd : (Rows.certWordsRow.named == Tryz.pinned.checked.prog.varsNamed 7) = true := by kernel_rfl
theorem certWords_jf : joinedFacts Tryz.pinned.checked.prog 7 Tryz.f7 (OpenSpec.ofChange Rows.certWordsSpec).bare Rows.certWordsRow = true := by
 unfold joinedFacts
 rw [certWords_pa, certWords_pb, certWords_pc, certWords_pd]
 kernel_rfl
end Go.Proofs.YtpppegnojmnicaaGreatDoor
