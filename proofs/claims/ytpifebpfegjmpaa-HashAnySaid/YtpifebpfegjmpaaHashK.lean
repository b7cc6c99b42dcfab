/- The statements of layer 2: what 'known' asks. -/
import Derived.Test.YtpifebpfegjmpaaHex
import Derived.Test.YtpifebpfegjmpaaLaw
import Derived.Lib.SlBytesConst
namespace Go.Proofs.Ytpifebpfegjmpaa
open Go.RowKit
set_option linter.unusedVariables false
theorem known_any (w : World) : Calls Try.prog 8 #[] w fun e w' => e = .returned (.bool true) ∧ Grew w w' := by
  have hd := sumL_lt [97] [98]
  generalize hD : sumL [97] [98] = D at hd
  have HD := Lib.hid hD
  clear hD
  have kc := fun (W : World) (C : Array Value) (n c : Nat) => Lib.run_convert_bytes_const (P := Try.prog) W 23 5 C n c Try.underlying23 Try.underlying5
  go_enter Try.func8, Try.ntmps8
  go_wp2_with fail
  refine (of_any _ _ (by decide) (by decide) _).mono ?_
  rintro e w' ⟨rfl, rfl⟩
  rw [show (⟨#[97]⟩ : ByteArray).data.toList = [97] from rfl, show (⟨#[98]⟩ : ByteArray).data.toList = [98] from rfl, HD.out]
  go_wp2_with fail
  refine (text_any _ (u64_nat hd) _).mono ?_
  rintro e w1 ⟨rfl, hb1⟩
  rw [Int.toNat_natCast]
  go_wp2_with fail
  refine (parse_any _ _).mono ?_
  rintro e w' ⟨rfl, rfl⟩
  rw [show (⟨(hexL D).toArray⟩ : ByteArray).data.toList = hexL D by simp, parseO_hexL D hd, parseRes_some]
  go_wp2_with fail
  refine (parse_any _ _).mono ?_
  rintro e w' ⟨rfl, rfl⟩
  rw [show parseO _ = none from by decide, parseRes_none]
  go_wp2_with fail
  refine (parse_any _ _).mono ?_
  rintro e w' ⟨rfl, rfl⟩
  rw [show parseO _ = none from by decide, parseRes_none]
  go_wp2_with fail
  refine (refof_any _ _ (by decide) (by decide) _).mono ?_
  rintro e w2 ⟨rfl, hb2⟩
  rw [show (⟨#[97]⟩ : ByteArray).data.toList = [97] from rfl, show (⟨#[98]⟩ : ByteArray).data.toList = [98] from rfl, HD.out]
  go_wp2_with fail
  refine (mix_any _ _ ⟨by omega, by omega⟩ ⟨by omega, by omega⟩ _).mono ?_
  rintro e w' ⟨rfl, rfl⟩
  rw [show (0 : Int).toNat = 0 from rfl, mixN_00]
  go_wp2_with fail
  refine (text_any _ ⟨by omega, by omega⟩ _).mono ?_
  rintro e w3 ⟨rfl, hb3⟩
  rw [show hexL (Int.toNat 255) = [48, 48, 48, 48, 48, 48, 48, 48, 48, 48, 48, 48, 48, 48, 102, 102] from by decide]
  go_wp2_with fail
  refine (sum_any ⟨#[97]⟩ _ _ _ [98] (by decide) (by decide) _ (rd_new w3 5 #[.int .u8 98] (1, 2))).mono ?_
  rintro e w' ⟨rfl, rfl⟩
  rw [show (⟨#[97]⟩ : ByteArray).data.toList = [97] from rfl, HD.out]
  go_wp2_with fail
  refine (chain_any _ _ _ (by decide) ⟨by omega, by omega⟩ (by omega) (by omega) _).mono ?_
  rintro e w' ⟨rfl, rfl⟩
  rw [chainI_low _ _ _ (by omega), show (5 : Int).toNat = 5 from rfl]
  go_wp2_with fail
  refine (of_any _ _ (by decide) (by decide) _).mono ?_
  rintro e w' ⟨rfl, rfl⟩
  rw [show (⟨#[97, 98]⟩ : ByteArray).data.toList = [97, 98] from rfl, show (⟨#[]⟩ : ByteArray).data.toList = [] from rfl]
  go_wp2_with fail
  refine (of_any _ _ (by decide) (by decide) _).mono ?_
  rintro e w' ⟨rfl, rfl⟩
  rw [show (⟨#[97]⟩ : ByteArray).data.toList = [97] from rfl, show (⟨#[98]⟩ : ByteArray).data.toList = [98] from rfl]
  have hne : ((sumL [97, 98] [] : Int) != (sumL [97] [98] : Int)) = true := by rw [bne_iff_ne]; have := sum_differs; omega
  go_wp2_with fail
  go_ret
  exact ⟨rfl, grew_alloc (grew_trans (grew_trans hb1 hb2) hb3) _⟩
end Go.Proofs.Ytpifebpfegjmpaa
