/- The reference's parseHexes, of whatever text. -/
import Derived.Test.YtpppegnojmnicaaGreatDoorYbn
import Derived.Test.YtpppegnojmnicaaGreatDoorYbk
import Derived.Test.YtpppegnojmnicaaGreatDoorYau
namespace Go.Proofs.YtpppegnojmnicaaGreatDoor
set_option linter.unusedSimpArgs false
set_option linter.unusedVariables false
open Go.RowKit
set_option linter.unusedVariables false
set_option linter.unusedSimpArgs false
end Go.Proofs.YtpppegnojmnicaaGreatDoor
