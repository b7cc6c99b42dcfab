/- cmd.isName, cmd.Check, the reference's CheckCmd, small; SameID. -/
import Derived.Test.YtfnkcahnkccekaaDoorCmP
import Derived.Test.YtfnkcahnkccekaaDoorMem
import Derived.Test.YtfnkcahnkccekaaDoorProg
namespace Go.Proofs.YtfnkcahnkccekaaDoor
open Go.RowKit
set_option linter.unusedVariables false
set_option maxRecDepth 100000 in
theorem wideFn_at (n : Int) (h : in64 n) (w : World) (hs : Std w) : Calls Tryd.prog 39 #[.int .i64 n] w fun e w' => e = .returned (.int .i64 (id n)) ∧ Grew w w' := by
  clear hs
  go_enter Tryd.func39, Tryd.ntmps39
  go_wp2_with fail
  go_ret
  exact ⟨rfl, grew_refl w⟩
end Go.Proofs.YtfnkcahnkccekaaDoor
