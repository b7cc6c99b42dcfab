/- The statements of layer 2: HashParts. -/
import Derived.Test.YtpifebpfegjmpaaHashK
import Derived.Deep.QuietTactic
import Derived.BigQuiet
import Derived.Deep.RegionWith
namespace Go.Proofs.Ytpifebpfegjmpaa
open Go.RowKit
set_option linter.unusedVariables false
theorem hashParts_big (s : ByteArray) (a b : Int) (w : World) (h : 200 < s.size) :
    Calls Try.prog 7 #[.string s, .int .u8 a, .int .u8 b] w fun e w' => e = .returned (.bool true) ∧ Grew w w' := by
  go_enter Try.func7, Try.ntmps7
  go_wp2_with (refine (known_any _).mono ?_; rintro e w1 ⟨rfl, hb1⟩)
  go_ret
  exact ⟨rfl, hb1⟩
theorem hashParts_law (s : ByteArray) (a b : Int) (w : World) (h : s.size ≤ 200) (ha : 0 ≤ a ∧ a ≤ 255) (hb : 0 ≤ b ∧ b ≤ 255) :
    Calls Try.prog 7 #[.string s, .int .u8 a, .int .u8 b] w fun e w' => e = .returned (.bool true) ∧ Grew w w' := by
  go_enter Try.func7, Try.ntmps7
  go_wp2_with (refine (known_any _).mono ?_; rintro e w1 ⟨rfl, hb1⟩)
  have hs0 : (0 : Int) < (s.size : Int) + 1 := by omega
  have hi0 : 0 ≤ a % ((s.size : Int) + 1) := Int.emod_nonneg _ (by omega)
  have hi1 : a % ((s.size : Int) + 1) < (s.size : Int) + 1 := Int.emod_lt_of_pos _ hs0
  have hk0 : 0 ≤ b % ((s.size : Int) + 1) := Int.emod_nonneg _ (by omega)
  have hk1 : b % ((s.size : Int) + 1) < (s.size : Int) + 1 := Int.emod_lt_of_pos _ hs0
  go_quiet (fail)
  generalize a % ((s.size : Int) + 1) = i at *
  generalize b % ((s.size : Int) + 1) = k at *
  obtain ⟨w2, hw2, hb2⟩ : ∃ w2, w1.drewN nq = w2 ∧ Grew w w2 := ⟨_, rfl, grew_drewN hb1 _⟩
  rw [hw2]
  clear hw2
  have hi2 : i ≤ (s.size : Int) := by omega
  have hk2 : k ≤ (s.size : Int) := by omega
  clear hi1 hk1
  go_wp2_with fail
  have hsz : ∀ (p q : Nat), (s.extract p q).size ≤ 4611686018427387904 := by intro p q; simp; omega
  have C1 := Lib.hid (fun W (p q r t : Nat) => of_any (s.extract p q) (s.extract r t) (hsz p q) (hsz r t) W)
  have C2 := Lib.hid (fun W => refof_any (s.extract 0 i.toNat) (s.extract i.toNat s.size) (hsz _ _) (hsz _ _) W)
  have C3 := Lib.hid (fun W => refof_any (s.extract 0 k.toNat) (s.extract k.toNat s.size) (hsz _ _) (hsz _ _) W)
  clear hsz
  go_quiet ((go_at_call 13; refine quietL (C1.out _ _ _ _ _)))
  clear C1
  by_cases hik : i = k
  · subst hik
    have x1 := sumL_lt (s.extract 0 i.toNat).data.toList (s.extract i.toNat s.size).data.toList
    generalize sumL (s.extract 0 i.toNat).data.toList (s.extract i.toNat s.size).data.toList = X at *
    go_wp2_with fail
    refine wp_region_grew (grew_refl _) (by kernel_rfl) (by kernel_rfl) ?_
    repeat (go_big_quiet_step (first
      | (go_at_call_of 14 (s.extract 0 i.toNat); exact callG (C2.out _))
      | (go_at_call_of 14 (s.extract 0 i.toNat); exact callG (C3.out _))))
    refine wpQuiet_nil ?_
    rintro _ ⟨⟨w3, hb3⟩, rfl⟩
    go_wp2
    go_ret
    exact ⟨rfl, grew_trans (grew_drewN hb2 _) hb3⟩
  · have hne : ((i : Int) != k) = true := by rw [bne_iff_ne]; exact hik
    have x1 := sumL_lt (s.extract 0 i.toNat).data.toList (s.extract i.toNat s.size).data.toList
    have x2 := sumL_lt (s.extract 0 k.toNat).data.toList (s.extract k.toNat s.size).data.toList
    generalize sumL (s.extract 0 i.toNat).data.toList (s.extract i.toNat s.size).data.toList = X at *
    generalize sumL (s.extract 0 k.toNat).data.toList (s.extract k.toNat s.size).data.toList = Y at *
    by_cases hxy : X = Y
    · subst hxy
      go_wp2_with fail
      refine wp_region_grew (grew_refl _) (by kernel_rfl) (by kernel_rfl) ?_
      repeat (go_big_quiet_step (first
        | (go_at_call_of 14 (s.extract 0 i.toNat); exact callG (C2.out _))
        | (go_at_call_of 14 (s.extract 0 k.toNat); exact callG (C3.out _))))
      refine wpQuiet_nil ?_
      rintro _ ⟨⟨w3, hb3⟩, rfl⟩
      go_wp2
      go_ret
      exact ⟨rfl, grew_trans (grew_drewN hb2 _) hb3⟩
    · have hne2 : ((X : Int) == (Y : Int)) = false := by rw [beq_eq_false_iff_ne]; omega
      go_wp2_with fail
      refine wp_region_grew (grew_refl _) (by kernel_rfl) (by kernel_rfl) ?_
      repeat (go_big_quiet_step (first
        | (go_at_call_of 14 (s.extract 0 i.toNat); exact callG (C2.out _))
        | (go_at_call_of 14 (s.extract 0 k.toNat); exact callG (C3.out _))))
      refine wpQuiet_nil ?_
      rintro _ ⟨⟨w3, hb3⟩, rfl⟩
      go_wp2
      go_ret
      exact ⟨rfl, grew_trans (grew_drewN hb2 _) hb3⟩
end Go.Proofs.Ytpifebpfegjmpaa
