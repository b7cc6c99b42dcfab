/- The reference's ParseNum. -/
import Derived.Deep.DeepCutAuto
import Derived.Deep.CutBlock
import Derived.Test.YtpppegnojmnicaaGreatDoorWaz
import Derived.Laws.MakeOwn
import Derived.Test.YtpppegnojmnicaaGreatDoorWbb
namespace Go.Proofs.YtpppegnojmnicaaGreatDoor
set_option linter.unusedSimpArgs false
set_option linter.unusedVariables false
open Go.RowKit
set_option linter.unusedVariables false
def pnumRes (l : List UInt8) : Value := .tuple #[.int .i64 (pnum l).1, .int .i64 (pnum l).2]
end Go.Proofs.YtpppegnojmnicaaGreatDoor

namespace Go.Proofs.YtpppegnojmnicaaGreatDoor
set_option linter.unusedSimpArgs false
set_option linter.unusedVariables false
open Go.RowKit
set_option linter.unusedVariables false
end Go.Proofs.YtpppegnojmnicaaGreatDoor

namespace Go.Proofs.YtpppegnojmnicaaGreatDoor
set_option linter.unusedSimpArgs false
set_option linter.unusedVariables false
open Go.RowKit
set_option linter.unusedVariables false
end Go.Proofs.YtpppegnojmnicaaGreatDoor
