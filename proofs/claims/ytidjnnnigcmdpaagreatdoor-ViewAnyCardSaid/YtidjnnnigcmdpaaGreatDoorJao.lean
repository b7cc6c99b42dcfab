/- quorum: N, Q, Check alone. -/
import Derived.IntWalk
import Derived.Lib.Hide
import Derived.Test.YtidjnnnigcmdpaaGreatDoorProg
import Derived.Test.YtidjnnnigcmdpaaGreatDoorJan
set_option maxRecDepth 100000
set_option linter.unusedSimpArgs false
set_option linter.unusedVariables false
set_option linter.unnecessarySimpa false
namespace Go.Proofs.YtidjnnnigcmdpaaGreatDoor
open Go.RowKit
theorem qn_ok (f:Int) (hf:1≤f∧f≤3) (w:World):Calls Tryz.prog 61 #[.agg #[.int .i64 f]] w fun e w'=>e=.returned (.int .i64 (3*f+1))∧Grew w w':=by
 have e1:IntKind.i64.wrap (3*f)=3*f:=IntWalk.i64_in _ (by omega)
 have e2:IntKind.i64.wrap (3*f+1)=3*f+1:=IntWalk.i64_in _ (by omega)
 go_enter Tryz.func61,Tryz.ntmps61
 go_wp2_with fail
 go_ret
 exact⟨rfl,(Below.refl _ w).alloc (Nat.le_refl _) _⟩
theorem qq_ok (f:Int) (hf:1≤f∧f≤3) (w:World):Calls Tryz.prog 122 #[.agg #[.int .i64 f]] w fun e w'=>e=.returned (.int .i64 (2*f+1))∧Grew w w':=by
 have e1:IntKind.i64.wrap (2*f)=2*f:=IntWalk.i64_in _ (by omega)
 have e2:IntKind.i64.wrap (2*f+1)=2*f+1:=IntWalk.i64_in _ (by omega)
 go_enter Tryz.func122,Tryz.ntmps122
 go_wp2_with fail
 go_ret
 exact⟨rfl,(Below.refl _ w).alloc (Nat.le_refl _) _⟩
theorem rn_ok (f:Int) (hf:1≤f∧f≤3) (w:World):Calls Tryz.prog 69 #[.int .i64 f] w fun e w'=>e=.returned (.int .i64 (3*f+1))∧w'=w:=by
 have e1:IntKind.i64.wrap (3*f)=3*f:=IntWalk.i64_in _ (by omega)
 have e2:IntKind.i64.wrap (3*f+1)=3*f+1:=IntWalk.i64_in _ (by omega)
 go_enter Tryz.func69,Tryz.ntmps69
 go_wp2_with fail
 go_ret
 exact⟨rfl,rfl⟩
theorem rq_ok (f:Int) (hf:1≤f∧f≤3) (w:World):Calls Tryz.prog 79 #[.int .i64 f] w fun e w'=>e=.returned (.int .i64 (2*f+1))∧w'=w:=by
 have e1:IntKind.i64.wrap (2*f)=2*f:=IntWalk.i64_in _ (by omega)
 have e2:IntKind.i64.wrap (2*f+1)=2*f+1:=IntWalk.i64_in _ (by omega)
 go_enter Tryz.func79,Tryz.ntmps79
 go_wp2_with fail
 go_ret
 exact⟨rfl,rfl⟩
theorem zf3 (f:Int) (w:World):Calls Tryz.prog 68 #[.int .i64 f] w fun e w'=>e=.returned (.int .i64 (if f<1∨3<f then 1 else 0))∧w'=w:=by
 by_cases h1:f<1
 ·rw [if_pos (.inl h1)]
  go_enter Tryz.func68,Tryz.ntmps68
  go_wp2_with fail
  go_ret
  exact⟨rfl,rfl⟩
 ·by_cases h2:3<f
  ·rw [if_pos (.inr h2)]
   go_enter Tryz.func68,Tryz.ntmps68
   go_wp2_with fail
   go_ret
   exact⟨rfl,rfl⟩
  ·rw [if_neg (by omega)]
   go_enter Tryz.func68,Tryz.ntmps68
   go_wp2_with fail
   go_ret
   exact⟨rfl,rfl⟩
end Go.Proofs.YtidjnnnigcmdpaaGreatDoor
