/- MsgWords: the law (mkmgl.py). -/
import Derived.Test.YtfnkcahnkccekaaMgG
namespace Go.Proofs.Ytfnkcahnkccekaa
open Go.RowKit
set_option linter.unusedVariables false
set_option linter.unusedSimpArgs false
theorem w9_tl (m : Nat) (hm : m < 9) : ¬ (w9 m).toList = [] := by
  have : m = 0 ∨ m = 1 ∨ m = 2 ∨ m = 3 ∨ m = 4 ∨ m = 5 ∨ m = 6 ∨ m = 7 ∨ m = 8 := by omega
  rcases this with rfl | rfl | rfl | rfl | rfl | rfl | rfl | rfl | rfl <;> decide +kernel
theorem w9_inj : ∀ m, m < 9 → ∀ k, k < 9 → ((w9 k).toList == (w9 m).toList) = decide (k = m) := by decide +kernel
theorem w9_no : ∀ m, m < 9 → ((⟨#[]⟩ : ByteArray).toList == (w9 m).toList) = false := by decide +kernel
theorem wordS_eq (m : Nat) (hm : m < 9) (k : Int) : ((wordS k).toList == (w9 m).toList) = (k == (m : Int) + 1) := by
  unfold wordS
  by_cases h : 1 ≤ k ∧ k ≤ 9
  · rw [if_pos h, w9_inj m hm _ (by omega)]
    by_cases h2 : k = (m : Int) + 1
    · rw [decide_eq_true (by omega : (k - 1).toNat = m), h2]; simp
    · rw [decide_eq_false (by omega : ¬ (k - 1).toNat = m)]; simp [h2]
  · rw [if_neg h, w9_no m hm]
    have h2 : ¬ k = (m : Int) + 1 := by omega
    simp [h2]
set_option maxRecDepth 100000 in
set_option maxHeartbeats 4000000 in
theorem msgWords_law (k x : Int) (w : World) : Calls Try.prog 3 #[.int .i64 k, .int .i64 x] w fun e w' => e = .returned (.bool true) ∧ Grew w w' := by
  have CK := Lib.hid (known22 w)
  have CW1 := Lib.hid (word_ok k)
  have CW2 := Lib.hid (word_ok x)
  by_cases h1 : 1 ≤ k ∧ k ≤ 9
  · obtain ⟨m, rfl⟩ : ∃ m : Nat, k = (m : Int) + 1 := ⟨(k - 1).toNat, by omega⟩
    have hm : m < 9 := by omega
    have hL := w9_get m hm
    have e1 : decide ((1 : Int) ≤ (m : Int) + 1) = true := decide_eq_true (by omega)
    have e2 : decide ((m : Int) + 1 ≤ 9) = true := decide_eq_true (by omega)
    have e3 : IntKind.i64.wrap ((m : Int) + 1 - 1) = (m : Int) := by rw [show (m : Int) + 1 - 1 = (m : Int) by omega]; exact IntWalk.i64_in _ (by omega)
    have e4 : (m : Int) + 1 - 1 = (m : Int) := by omega
    have hm0 : (0 : Int) ≤ (m : Int) := by omega
    have hm9 : (m : Int) < 9 := by omega
    have hs := w9_tl m hm
    have hx := wordS_eq m hm x
    rw [show wordS ((m : Int) + 1) = w9 m from by unfold wordS; rw [if_pos h1, e4, Int.toNat_natCast]] at CW1
    generalize w9 m = s at *
    generalize wordS x = t at *
    clear h1
    go_enter Try.func3, Try.ntmps3
    go_wp2_with fail
    refine (CK.out).mono ?_
    rintro e w1 ⟨rfl, G1⟩
    go_wp2_with fail
    refine (CW1.out _).mono ?_
    rintro e w2 ⟨rfl, G2⟩
    have GG := grew_trans (grew_trans G1 (grew_alloc (grew_refl w1) _)) G2
    go_wp2_with fail
    refine (CW2.out _).mono ?_
    rintro e w3 ⟨rfl, G3⟩
    go_wp2_with fail
    go_ret
    exact ⟨by simp [hx], grew_trans GG G3⟩
  · have hk : wordS k = ⟨#[]⟩ := if_neg h1
    rw [hk] at CW1
    by_cases h2 : 1 ≤ k
    · have e1 : decide (1 ≤ k) = true := decide_eq_true h2
      have e2 : decide (k ≤ 9) = false := decide_eq_false (by omega)
      clear h1 h2
      go_enter Try.func3, Try.ntmps3
      go_wp2_with fail
      refine (CK.out).mono ?_
      rintro e w1 ⟨rfl, G1⟩
      go_wp2_with fail
      refine (CW1.out _).mono ?_
      rintro e w2 ⟨rfl, G2⟩
      have GG := grew_trans (grew_trans G1 (grew_alloc (grew_refl w1) _)) G2
      go_wp2_with fail
      go_ret
      exact ⟨by simp, GG⟩
    · have e1 : decide (1 ≤ k) = false := decide_eq_false h2
      clear h1 h2
      go_enter Try.func3, Try.ntmps3
      go_wp2_with fail
      refine (CK.out).mono ?_
      rintro e w1 ⟨rfl, G1⟩
      go_wp2_with fail
      refine (CW1.out _).mono ?_
      rintro e w2 ⟨rfl, G2⟩
      have GG := grew_trans (grew_trans G1 (grew_alloc (grew_refl w1) _)) G2
      go_wp2_with fail
      go_ret
      exact ⟨by simp, GG⟩
end Go.Proofs.Ytfnkcahnkccekaa
