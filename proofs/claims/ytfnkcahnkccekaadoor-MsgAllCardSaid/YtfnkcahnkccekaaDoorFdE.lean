/- field.count. -/
import Derived.Test.YtfnkcahnkccekaaDoorFdD
namespace Go.Proofs.YtfnkcahnkccekaaDoor
open Go.RowKit
set_option linter.unusedVariables false
theorem get_list (s : ByteArray) (k : Nat) (h : k < s.size) (h' : k < s.data.toList.length) : s.data.toList[k] = s[k] := rfl
end Go.Proofs.YtfnkcahnkccekaaDoor
