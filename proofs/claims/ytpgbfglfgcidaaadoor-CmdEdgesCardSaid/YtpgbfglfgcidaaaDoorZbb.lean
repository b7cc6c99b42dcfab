/- CmdEdges. -/
import Derived.Deep.DeepFit
import Derived.Deep.DeepMust
import Derived.Test.YtpgbfglfgcidaaaDoorZaz
namespace Go.Proofs.YtpgbfglfgcidaaaDoor
set_option linter.unusedSimpArgs false
set_option linter.unusedVariables false
open Go.RowKit
set_option linter.unusedVariables false
set_option maxRecDepth 100000 in
set_option maxHeartbeats 1000000 in
theorem cmdEdges_law (x n : Int) (hx : 0 ≤ x ∧ x ≤ 255) (hn : 0 ≤ n ∧ n ≤ 255) (w : World) (hS : Std w) :
    Calls Tryd.prog 5 #[.int .u8 x, .int .u8 n] w fun e w' => e = .returned (.bool true) ∧ Grew w w' := by
  have CK := Lib.hid (cknown_ok w hS)
  clear hS
  go_enter Tryd.func5, Tryd.ntmps5
  go_wp2_with fail
  refine CK.out.mono ?_
  rintro e w1 ⟨rfl, G1⟩
  clear CK
  have hx8 : x % 8 = 0 ∨ x % 8 = 1 ∨ x % 8 = 2 ∨ x % 8 = 3 ∨ x % 8 = 4 ∨ x % 8 = 5 ∨ x % 8 = 6 ∨ x % 8 = 7 := by omega
  have hn3 : n % 3 = 0 ∨ n % 3 = 1 ∨ n % 3 = 2 := by omega
  rcases hx8 with h8 | h8 | h8 | h8 | h8 | h8 | h8 | h8
  · rcases hn3 with h3 | h3 | h3
    · have C := Lib.hid (fun W => check_any ⟨14, 0, 1, 2, 1⟩ W)
      rw [show chkC ⟨14, 0, 1, 2, 1⟩ = 0 from by decide] at C
      unfold Cm.v at C
      dsimp only at C
      go_wp2_with (go_at_call 13; go_must (go_fit (C.out _)); rintro e w2 ⟨rfl, g2⟩)
      go_ret
      exact ⟨rfl, grew_trans (grew_alloc G1 _) g2⟩
    · have C := Lib.hid (fun W => check_any ⟨15, 0, 1, 2, 1⟩ W)
      rw [show chkC ⟨15, 0, 1, 2, 1⟩ = 0 from by decide] at C
      unfold Cm.v at C
      dsimp only at C
      go_wp2_with (go_at_call 13; go_must (go_fit (C.out _)); rintro e w2 ⟨rfl, g2⟩)
      go_ret
      exact ⟨rfl, grew_trans (grew_alloc G1 _) g2⟩
    · have C := Lib.hid (fun W => check_any ⟨16, 0, 1, 2, 1⟩ W)
      rw [show chkC ⟨16, 0, 1, 2, 1⟩ = 1 from by decide] at C
      unfold Cm.v at C
      dsimp only at C
      go_wp2_with (go_at_call 13; go_must (go_fit (C.out _)); rintro e w2 ⟨rfl, g2⟩)
      go_ret
      exact ⟨rfl, grew_trans (grew_alloc G1 _) g2⟩
  · rcases hn3 with h3 | h3 | h3
    · have C := Lib.hid (fun W => check_any ⟨-1, 0, 1, 2, 1⟩ W)
      rw [show chkC ⟨-1, 0, 1, 2, 1⟩ = 1 from by decide] at C
      unfold Cm.v at C
      dsimp only at C
      go_wp2_with (go_at_call 13; go_must (go_fit (C.out _)); rintro e w2 ⟨rfl, g2⟩)
      go_ret
      exact ⟨rfl, grew_trans (grew_alloc G1 _) g2⟩
    · have C := Lib.hid (fun W => check_any ⟨0, 0, 1, 2, 1⟩ W)
      rw [show chkC ⟨0, 0, 1, 2, 1⟩ = 0 from by decide] at C
      unfold Cm.v at C
      dsimp only at C
      go_wp2_with (go_at_call 13; go_must (go_fit (C.out _)); rintro e w2 ⟨rfl, g2⟩)
      go_ret
      exact ⟨rfl, grew_trans (grew_alloc G1 _) g2⟩
    · have C := Lib.hid (fun W => check_any ⟨1, 0, 1, 2, 1⟩ W)
      rw [show chkC ⟨1, 0, 1, 2, 1⟩ = 0 from by decide] at C
      unfold Cm.v at C
      dsimp only at C
      go_wp2_with (go_at_call 13; go_must (go_fit (C.out _)); rintro e w2 ⟨rfl, g2⟩)
      go_ret
      exact ⟨rfl, grew_trans (grew_alloc G1 _) g2⟩
  · rcases hn3 with h3 | h3 | h3
    · have C := Lib.hid (fun W => check_any ⟨0, 1048575, 1, 2, 1⟩ W)
      rw [show chkC ⟨0, 1048575, 1, 2, 1⟩ = 0 from by decide] at C
      unfold Cm.v at C
      dsimp only at C
      go_wp2_with (go_at_call 13; go_must (go_fit (C.out _)); rintro e w2 ⟨rfl, g2⟩)
      go_ret
      exact ⟨rfl, grew_trans (grew_alloc G1 _) g2⟩
    · have C := Lib.hid (fun W => check_any ⟨0, 1048576, 1, 2, 1⟩ W)
      rw [show chkC ⟨0, 1048576, 1, 2, 1⟩ = 0 from by decide] at C
      unfold Cm.v at C
      dsimp only at C
      go_wp2_with (go_at_call 13; go_must (go_fit (C.out _)); rintro e w2 ⟨rfl, g2⟩)
      go_ret
      exact ⟨rfl, grew_trans (grew_alloc G1 _) g2⟩
    · have C := Lib.hid (fun W => check_any ⟨0, 1048577, 1, 2, 1⟩ W)
      rw [show chkC ⟨0, 1048577, 1, 2, 1⟩ = 1 from by decide] at C
      unfold Cm.v at C
      dsimp only at C
      go_wp2_with (go_at_call 13; go_must (go_fit (C.out _)); rintro e w2 ⟨rfl, g2⟩)
      go_ret
      exact ⟨rfl, grew_trans (grew_alloc G1 _) g2⟩
  · rcases hn3 with h3 | h3 | h3
    · have C := Lib.hid (fun W => check_any ⟨0, 0, 14, 2, 1⟩ W)
      rw [show chkC ⟨0, 0, 14, 2, 1⟩ = 0 from by decide] at C
      unfold Cm.v at C
      dsimp only at C
      go_wp2_with (go_at_call 13; go_must (go_fit (C.out _)); rintro e w2 ⟨rfl, g2⟩)
      go_ret
      exact ⟨rfl, grew_trans (grew_alloc G1 _) g2⟩
    · have C := Lib.hid (fun W => check_any ⟨0, 0, 15, 2, 1⟩ W)
      rw [show chkC ⟨0, 0, 15, 2, 1⟩ = 0 from by decide] at C
      unfold Cm.v at C
      dsimp only at C
      go_wp2_with (go_at_call 13; go_must (go_fit (C.out _)); rintro e w2 ⟨rfl, g2⟩)
      go_ret
      exact ⟨rfl, grew_trans (grew_alloc G1 _) g2⟩
    · have C := Lib.hid (fun W => check_any ⟨0, 0, 16, 2, 1⟩ W)
      rw [show chkC ⟨0, 0, 16, 2, 1⟩ = 1 from by decide] at C
      unfold Cm.v at C
      dsimp only at C
      go_wp2_with (go_at_call 13; go_must (go_fit (C.out _)); rintro e w2 ⟨rfl, g2⟩)
      go_ret
      exact ⟨rfl, grew_trans (grew_alloc G1 _) g2⟩
  · rcases hn3 with h3 | h3 | h3
    · have C := Lib.hid (fun W => check_any ⟨0, 0, 1, -1, 1⟩ W)
      rw [show chkC ⟨0, 0, 1, -1, 1⟩ = 1 from by decide] at C
      unfold Cm.v at C
      dsimp only at C
      go_wp2_with (go_at_call 13; go_must (go_fit (C.out _)); rintro e w2 ⟨rfl, g2⟩)
      go_ret
      exact ⟨rfl, grew_trans (grew_alloc G1 _) g2⟩
    · have C := Lib.hid (fun W => check_any ⟨0, 0, 1, 0, 1⟩ W)
      rw [show chkC ⟨0, 0, 1, 0, 1⟩ = 0 from by decide] at C
      unfold Cm.v at C
      dsimp only at C
      go_wp2_with (go_at_call 13; go_must (go_fit (C.out _)); rintro e w2 ⟨rfl, g2⟩)
      go_ret
      exact ⟨rfl, grew_trans (grew_alloc G1 _) g2⟩
    · have C := Lib.hid (fun W => check_any ⟨0, 0, 1, 1, 1⟩ W)
      rw [show chkC ⟨0, 0, 1, 1, 1⟩ = 1 from by decide] at C
      unfold Cm.v at C
      dsimp only at C
      go_wp2_with (go_at_call 13; go_must (go_fit (C.out _)); rintro e w2 ⟨rfl, g2⟩)
      go_ret
      exact ⟨rfl, grew_trans (grew_alloc G1 _) g2⟩
  · rcases hn3 with h3 | h3 | h3
    · have C := Lib.hid (fun W => check_any ⟨0, 0, 1, 2, 1099511627775⟩ W)
      rw [show chkC ⟨0, 0, 1, 2, 1099511627775⟩ = 0 from by decide] at C
      unfold Cm.v at C
      dsimp only at C
      go_wp2_with (go_at_call 13; go_must (go_fit (C.out _)); rintro e w2 ⟨rfl, g2⟩)
      go_ret
      exact ⟨rfl, grew_trans (grew_alloc G1 _) g2⟩
    · have C := Lib.hid (fun W => check_any ⟨0, 0, 1, 2, 1099511627776⟩ W)
      rw [show chkC ⟨0, 0, 1, 2, 1099511627776⟩ = 0 from by decide] at C
      unfold Cm.v at C
      dsimp only at C
      go_wp2_with (go_at_call 13; go_must (go_fit (C.out _)); rintro e w2 ⟨rfl, g2⟩)
      go_ret
      exact ⟨rfl, grew_trans (grew_alloc G1 _) g2⟩
    · have C := Lib.hid (fun W => check_any ⟨0, 0, 1, 2, 1099511627777⟩ W)
      rw [show chkC ⟨0, 0, 1, 2, 1099511627777⟩ = 1 from by decide] at C
      unfold Cm.v at C
      dsimp only at C
      go_wp2_with (go_at_call 13; go_must (go_fit (C.out _)); rintro e w2 ⟨rfl, g2⟩)
      go_ret
      exact ⟨rfl, grew_trans (grew_alloc G1 _) g2⟩
  · rcases hn3 with h3 | h3 | h3
    · have C := Lib.hid (fun W => check_any ⟨0, 0, 1, 2, 0⟩ W)
      rw [show chkC ⟨0, 0, 1, 2, 0⟩ = 1 from by decide] at C
      unfold Cm.v at C
      dsimp only at C
      go_wp2_with (go_at_call 13; go_must (go_fit (C.out _)); rintro e w2 ⟨rfl, g2⟩)
      go_ret
      exact ⟨rfl, grew_trans (grew_alloc G1 _) g2⟩
    · have C := Lib.hid (fun W => check_any ⟨0, 0, 1, 2, 1⟩ W)
      rw [show chkC ⟨0, 0, 1, 2, 1⟩ = 0 from by decide] at C
      unfold Cm.v at C
      dsimp only at C
      go_wp2_with (go_at_call 13; go_must (go_fit (C.out _)); rintro e w2 ⟨rfl, g2⟩)
      go_ret
      exact ⟨rfl, grew_trans (grew_alloc G1 _) g2⟩
    · have C := Lib.hid (fun W => check_any ⟨0, 0, 1, 2, 2⟩ W)
      rw [show chkC ⟨0, 0, 1, 2, 2⟩ = 0 from by decide] at C
      unfold Cm.v at C
      dsimp only at C
      go_wp2_with (go_at_call 13; go_must (go_fit (C.out _)); rintro e w2 ⟨rfl, g2⟩)
      go_ret
      exact ⟨rfl, grew_trans (grew_alloc G1 _) g2⟩
  · rcases hn3 with h3 | h3 | h3
    · have C := Lib.hid (fun W => check_any ⟨0, 0, 1, 2, 1⟩ W)
      rw [show chkC ⟨0, 0, 1, 2, 1⟩ = 0 from by decide] at C
      unfold Cm.v at C
      dsimp only at C
      go_wp2_with (go_at_call 13; go_must (go_fit (C.out _)); rintro e w2 ⟨rfl, g2⟩)
      go_ret
      exact ⟨rfl, grew_trans (grew_alloc G1 _) g2⟩
    · have C := Lib.hid (fun W => check_any ⟨0, 0, 2, 2, 1⟩ W)
      rw [show chkC ⟨0, 0, 2, 2, 1⟩ = 1 from by decide] at C
      unfold Cm.v at C
      dsimp only at C
      go_wp2_with (go_at_call 13; go_must (go_fit (C.out _)); rintro e w2 ⟨rfl, g2⟩)
      go_ret
      exact ⟨rfl, grew_trans (grew_alloc G1 _) g2⟩
    · have C := Lib.hid (fun W => check_any ⟨0, 0, 3, 2, 1⟩ W)
      rw [show chkC ⟨0, 0, 3, 2, 1⟩ = 0 from by decide] at C
      unfold Cm.v at C
      dsimp only at C
      go_wp2_with (go_at_call 13; go_must (go_fit (C.out _)); rintro e w2 ⟨rfl, g2⟩)
      go_ret
      exact ⟨rfl, grew_trans (grew_alloc G1 _) g2⟩
end Go.Proofs.YtpgbfglfgcidaaaDoor
