/- The reference's Num. -/
import Derived.Outline
import Derived.Test.YtbohmmcmlabcdaaDoorPak
import Derived.Test.YtbohmmcmlabcdaaDoorPaa
namespace Go.Proofs.YtbohmmcmlabcdaaDoor
set_option linter.unusedSimpArgs false
set_option linter.unusedVariables false
open Go.RowKit
set_option linter.unusedVariables false
end Go.Proofs.YtbohmmcmlabcdaaDoor
