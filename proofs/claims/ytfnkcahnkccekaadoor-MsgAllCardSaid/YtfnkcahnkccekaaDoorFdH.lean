/- The reference's Split. -/
import Derived.Test.YtfnkcahnkccekaaDoorFdG
namespace Go.Proofs.YtfnkcahnkccekaaDoor
open Go.RowKit
set_option linter.unusedVariables false
/-- what Split hands back -/
def SplOut (S : List UInt8) (w : World) (e : Ending) (w' : World) : Prop :=
  (splitF S = none ∧ e = .returned (.tuple #[.slice none 0 0, .int .i64 2])) ∨
  ∃ l, splitF S = some l ∧ ((4096 < l.length ∧ e = .returned (.tuple #[.slice none 0 0, .int .i64 4])) ∨ (l.length ≤ 4096 ∧ ∃ v, e = .returned (.tuple #[v, .int .i64 0]) ∧ w'.ownsRow w.heap.size 9 1 v l.length (strL (txt l))))
end Go.Proofs.YtfnkcahnkccekaaDoor
