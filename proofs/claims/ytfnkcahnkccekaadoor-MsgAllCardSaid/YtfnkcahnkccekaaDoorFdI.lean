/- short: are fields few, and short. -/
import Derived.Test.YtfnkcahnkccekaaDoorFdH
namespace Go.Proofs.YtfnkcahnkccekaaDoor
open Go.RowKit
set_option linter.unusedVariables false
def shortB (l : List ByteArray) : Bool := decide (l.length ≤ 100) && l.all fun s => decide (s.size ≤ 200)
end Go.Proofs.YtfnkcahnkccekaaDoor
