/- The reference's Num. -/
import Derived.Outline
import Derived.Test.YtkpnheenacchhaaGreatDoorPaj
import Derived.Test.YtkpnheenacchhaaGreatDoorPaa
namespace Go.Proofs.YtkpnheenacchhaaGreatDoor
set_option linter.unusedSimpArgs false
set_option linter.unusedVariables false
open Go.RowKit
set_option linter.unusedVariables false
theorem ba_app (a b : List UInt8) : (⟨a.toArray⟩ : ByteArray) ++ ⟨b.toArray⟩ = ⟨(a ++ b).toArray⟩ := by
 apply ByteArray.ext
 simp [ByteArray.data_append]
end Go.Proofs.YtkpnheenacchhaaGreatDoor
