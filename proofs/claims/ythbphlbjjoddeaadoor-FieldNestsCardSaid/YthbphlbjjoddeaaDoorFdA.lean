/- Fields: isSpecial; the reference's Join. -/
import Derived.Test.YthbphlbjjoddeaaDoorStr
namespace Go.Proofs.YthbphlbjjoddeaaDoor
open Go.RowKit
set_option linter.unusedVariables false
theorem special_ok (c : UInt8) (w : World) : Calls Tryd.prog 47 #[.int .u8 (c.toNat : Int)] w fun e w' => e = .returned (.bool (spec c)) ∧ w' = w := by
  have hsp : spec c = (decide ((c.toNat : Int) = 124) || decide ((c.toNat : Int) = 92)) := by
    have h1 : (c == 124) = decide ((c.toNat : Int) = 124) := by
      rw [Bool.eq_iff_iff, beq_iff_eq, decide_eq_true_iff]
      constructor
      · intro h; subst h; rfl
      · intro h; exact UInt8.toNat_inj.1 (by rw [show (124 : UInt8).toNat = 124 from rfl]; omega)
    have h2 : (c == 92) = decide ((c.toNat : Int) = 92) := by
      rw [Bool.eq_iff_iff, beq_iff_eq, decide_eq_true_iff]
      constructor
      · intro h; subst h; rfl
      · intro h; exact UInt8.toNat_inj.1 (by rw [show (92 : UInt8).toNat = 92 from rfl]; omega)
    rw [spec, h1, h2]
  have HS := Lib.hid hsp
  clear hsp
  by_cases h1 : (c.toNat : Int) = 124
  · have hs : spec c = true := by rw [HS.out, decide_eq_true h1]; rfl
    rw [hs]
    clear hs
    go_enter Tryd.func47, Tryd.ntmps47
    go_wp2_with fail
    go_ret
    exact ⟨rfl, rfl⟩
  · by_cases h2 : (c.toNat : Int) = 92
    · have hs : spec c = true := by rw [HS.out, decide_eq_true h2]; simp
      rw [hs]
      clear hs
      go_enter Tryd.func47, Tryd.ntmps47
      go_wp2_with fail
      go_ret
      exact ⟨rfl, rfl⟩
    · have hs : spec c = false := by rw [HS.out, decide_eq_false h1, decide_eq_false h2]; rfl
      rw [hs]
      clear hs
      go_enter Tryd.func47, Tryd.ntmps47
      go_wp2_with fail
      go_ret
      exact ⟨by simp [h1, h2], rfl⟩
end Go.Proofs.YthbphlbjjoddeaaDoor
