/- quorum: N, Q, Check alone. -/
import Derived.IntWalk
import Derived.Lib.Hide
import Derived.Test.YtaeopobofmpioaaGreatDoorProg
import Derived.Test.YtaeopobofmpioaaGreatDoorZam
namespace Go.Proofs.YtaeopobofmpioaaGreatDoor
set_option linter.unusedSimpArgs false
set_option linter.unusedVariables false
open Go.RowKit
set_option linter.unusedVariables false
set_option maxRecDepth 100000 in
theorem qn_ok (f : Int) (hf : 1 ≤ f ∧ f ≤ 3) (w : World) : Calls Tryz.prog 72 #[.agg #[.int .i64 f]] w fun e w' => e = .returned (.int .i64 (3 * f + 1)) ∧ Grew w w' := by
  have e1 : IntKind.i64.wrap (3 * f) = 3 * f := IntWalk.i64_in _ (by omega)
  have e2 : IntKind.i64.wrap (3 * f + 1) = 3 * f + 1 := IntWalk.i64_in _ (by omega)
  go_enter Tryz.func72, Tryz.ntmps72
  go_wp2_with fail
  go_ret
  exact ⟨rfl, (Below.refl _ w).alloc (Nat.le_refl _) _⟩
set_option maxRecDepth 100000 in
theorem qcheck_ok (f : Int) (w : World) : Calls Tryz.prog 71 #[.agg #[.int .i64 f]] w fun e w' => e = .returned (.int .i64 (if f < 1 ∨ 3 < f then 1 else 0)) ∧ Grew w w' := by
  by_cases h1 : f < 1
  · rw [if_pos (.inl h1)]
    go_enter Tryz.func71, Tryz.ntmps71
    go_wp2_with fail
    go_ret
    exact ⟨rfl, (Below.refl _ w).alloc (Nat.le_refl _) _⟩
  · by_cases h2 : 3 < f
    · rw [if_pos (.inr h2)]
      go_enter Tryz.func71, Tryz.ntmps71
      go_wp2_with fail
      go_ret
      exact ⟨rfl, (Below.refl _ w).alloc (Nat.le_refl _) _⟩
    · rw [if_neg (by omega)]
      go_enter Tryz.func71, Tryz.ntmps71
      go_wp2_with fail
      go_ret
      exact ⟨rfl, (Below.refl _ w).alloc (Nat.le_refl _) _⟩
end Go.Proofs.YtaeopobofmpioaaGreatDoor

namespace Go.Proofs.YtaeopobofmpioaaGreatDoor
set_option linter.unusedSimpArgs false
set_option linter.unusedVariables false
open Go.RowKit
set_option linter.unusedVariables false
set_option maxRecDepth 100000 in
theorem rn_ok (f : Int) (hf : 1 ≤ f ∧ f ≤ 3) (w : World) : Calls Tryz.prog 70 #[.int .i64 f] w fun e w' => e = .returned (.int .i64 (3 * f + 1)) ∧ w' = w := by
  have e1 : IntKind.i64.wrap (3 * f) = 3 * f := IntWalk.i64_in _ (by omega)
  have e2 : IntKind.i64.wrap (3 * f + 1) = 3 * f + 1 := IntWalk.i64_in _ (by omega)
  go_enter Tryz.func70, Tryz.ntmps70
  go_wp2_with fail
  go_ret
  exact ⟨rfl, rfl⟩
set_option maxRecDepth 100000 in
theorem rcheck_ok (f : Int) (w : World) : Calls Tryz.prog 69 #[.int .i64 f] w fun e w' => e = .returned (.int .i64 (if f < 1 ∨ 3 < f then 1 else 0)) ∧ w' = w := by
  by_cases h1 : f < 1
  · rw [if_pos (.inl h1)]
    go_enter Tryz.func69, Tryz.ntmps69
    go_wp2_with fail
    go_ret
    exact ⟨rfl, rfl⟩
  · by_cases h2 : 3 < f
    · rw [if_pos (.inr h2)]
      go_enter Tryz.func69, Tryz.ntmps69
      go_wp2_with fail
      go_ret
      exact ⟨rfl, rfl⟩
    · rw [if_neg (by omega)]
      go_enter Tryz.func69, Tryz.ntmps69
      go_wp2_with fail
      go_ret
      exact ⟨rfl, rfl⟩
end Go.Proofs.YtaeopobofmpioaaGreatDoor
