/- twice, doubled. -/
import Derived.Laws.MakeOwn
import Derived.Test.YtpgbfglfgcidaaaGreatDoorZaw
import Derived.Test.YtpgbfglfgcidaaaGreatDoorZav
namespace Go.Proofs.YtpgbfglfgcidaaaGreatDoor
set_option linter.unusedSimpArgs false
set_option linter.unusedVariables false
open Go.RowKit
set_option linter.unusedVariables false
def tw (n : Int) : Int := wrap64 (2 * n)
end Go.Proofs.YtpgbfglfgcidaaaGreatDoor

namespace Go.Proofs.YtpgbfglfgcidaaaGreatDoor
set_option linter.unusedSimpArgs false
set_option linter.unusedVariables false
open Go.RowKit
set_option linter.unusedVariables false
end Go.Proofs.YtpgbfglfgcidaaaGreatDoor
