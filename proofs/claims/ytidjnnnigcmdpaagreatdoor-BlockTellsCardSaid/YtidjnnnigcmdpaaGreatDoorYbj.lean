/- key.parseUpTo; key.Parse of a signature's words. -/
import Derived.Test.YtidjnnnigcmdpaaGreatDoorYbe
import Derived.Test.YtidjnnnigcmdpaaGreatDoorYbf
import Derived.Test.YtidjnnnigcmdpaaGreatDoorYbi
import Derived.Test.YtidjnnnigcmdpaaGreatDoorYaw
import Derived.Test.YtidjnnnigcmdpaaGreatDoorYah
import Derived.Test.YtidjnnnigcmdpaaGreatDoorYak
import Derived.Test.YtidjnnnigcmdpaaGreatDoorYbb
set_option linter.unusedSimpArgs false
set_option linter.unusedVariables false
set_option linter.unnecessarySimpa false
namespace Go.Proofs.YtidjnnnigcmdpaaGreatDoor
open Go.RowKit
theorem zgg (s t:List UInt8):((⟨s.toArray⟩:ByteArray).toList==(⟨t.toArray⟩:ByteArray).toList)=decide (s=t):=by
 rw [ByteArray.toList_eq,ByteArray.toList_eq]
 by_cases h:s=t
 ·simp [h]
 ·simp [h]
end Go.Proofs.YtidjnnnigcmdpaaGreatDoor
