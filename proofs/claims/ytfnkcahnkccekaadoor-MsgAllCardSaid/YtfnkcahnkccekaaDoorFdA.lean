/- Fields: isSpecial; the reference's Join. -/
import Derived.Test.YtfnkcahnkccekaaDoorStr
namespace Go.Proofs.YtfnkcahnkccekaaDoor
open Go.RowKit
set_option linter.unusedVariables false
end Go.Proofs.YtfnkcahnkccekaaDoor
