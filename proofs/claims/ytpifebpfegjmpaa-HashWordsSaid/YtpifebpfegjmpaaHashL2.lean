/- The statements of layer 2: HashWords, HashChains. -/
import Derived.Test.YtpifebpfegjmpaaHashK
namespace Go.Proofs.Ytpifebpfegjmpaa
open Go.RowKit
set_option linter.unusedVariables false
theorem hashWords_big (a : Int) (s : ByteArray) (w : World) (h : 100 < s.size) :
    Calls Try.prog 4 #[.int .u64 a, .string s] w fun e w' => e = .returned (.bool true) ∧ Grew w w' := by
  go_enter Try.func4, Try.ntmps4
  go_wp2_with (refine (known_any _).mono ?_; rintro e w1 ⟨rfl, hb1⟩)
  go_ret
  exact ⟨rfl, hb1⟩
theorem hashWords_law (a : Int) (s : ByteArray) (w : World) (ha : U64 a) (h : s.size ≤ 100) :
    Calls Try.prog 4 #[.int .u64 a, .string s] w fun e w' => e = .returned (.bool true) ∧ Grew w w' := by
  obtain ⟨ha0, ha1⟩ := ha
  obtain ⟨a, rfl⟩ := Int.eq_ofNat_of_zero_le ha0
  have hab : a < 18446744073709551616 := by omega
  clear ha0 ha1
  go_enter Try.func4, Try.ntmps4
  go_wp2_with fail
  refine (known_any _).mono ?_; rintro e w1 ⟨rfl, hb1⟩
  go_wp2_with fail
  refine (text_any _ (u64_nat hab) _).mono ?_
  rintro e w2 ⟨rfl, hb2⟩
  rw [Int.toNat_natCast]
  go_wp2_with fail
  refine (parse_any _ _).mono ?_
  rintro e w' ⟨rfl, rfl⟩
  rw [show (⟨(hexL a).toArray⟩ : ByteArray).data.toList = hexL a by simp, parseO_hexL a hab, parseRes_some]
  go_wp2_with fail
  refine (parse_any _ _).mono ?_
  rintro e w' ⟨rfl, rfl⟩
  cases hp : parseO s.data.toList with
  | none =>
    rw [parseRes_none]
    go_wp2_with fail
    refine (rparse_any _ _).mono ?_
    rintro e w' ⟨rfl, rfl⟩
    rw [hp, parseRes_none]
    clear hp
    go_wp2_with fail
    refine (text_any _ (u64_nat hab) _).mono ?_
    rintro e w3 ⟨rfl, hb3⟩
    rw [Int.toNat_natCast]
    go_wp2_with fail
    refine (hexr_any _ (u64_nat hab) _).mono ?_
    rintro e w4 ⟨rfl, hb4⟩
    rw [Int.toNat_natCast]
    go_wp2_with fail
    go_ret
    exact ⟨rfl, grew_trans (grew_trans (grew_trans hb1 hb2) hb3) hb4⟩
  | some d =>
    have hl : s.data.toList.length = 16 := by
      unfold parseO at hp
      split at hp
      · assumption
      · cases hp
    have hx : hexN s.data.toList = some d := by
      unfold parseO at hp
      rwa [if_pos hl] at hp
    have hd : d < 18446744073709551616 := by
      have h1 := hexN_lt _ _ hx
      rw [hl] at h1
      have h2 : (16 : Nat) ^ 16 = 18446744073709551616 := by decide
      omega
    have hback : (⟨(hexL d).toArray⟩ : ByteArray) = s := by
      have := hexL_hexN _ _ hl hx
      rw [this]
    have HB := Lib.hid hback
    clear hback hx hl
    rw [parseRes_some]
    go_wp2_with fail
    refine (rparse_any _ _).mono ?_
    rintro e w' ⟨rfl, rfl⟩
    rw [hp, parseRes_some]
    clear hp
    go_wp2_with fail
    refine (text_any _ (u64_nat hab) _).mono ?_
    rintro e w3 ⟨rfl, hb3⟩
    rw [Int.toNat_natCast]
    go_wp2_with fail
    refine (hexr_any _ (u64_nat hab) _).mono ?_
    rintro e w4 ⟨rfl, hb4⟩
    rw [Int.toNat_natCast]
    go_wp2_with fail
    refine (text_any _ (u64_nat hd) _).mono ?_
    rintro e w5 ⟨rfl, hb5⟩
    rw [Int.toNat_natCast, HB.out]
    go_wp2_with fail
    go_ret
    exact ⟨rfl, grew_trans (grew_trans (grew_trans (grew_trans hb1 hb2) hb3) hb4) hb5⟩
theorem hashChains_big (t : ByteArray) (x a b : Int) (w : World) (h : 50 < t.size) :
    Calls Try.prog 5 #[.string t, .int .u64 x, .int .u8 a, .int .u8 b] w fun e w' => e = .returned (.bool true) ∧ Grew w w' := by
  go_enter Try.func5, Try.ntmps5
  go_wp2_with (refine (known_any _).mono ?_; rintro e w1 ⟨rfl, hb1⟩)
  go_ret
  exact ⟨rfl, hb1⟩
theorem hashChains_law (t : ByteArray) (x a b : Int) (w : World) (h : t.size ≤ 50) (hx : U64 x) (ha : 0 ≤ a ∧ a ≤ 255) (hb : 0 ≤ b ∧ b ≤ 255) :
    Calls Try.prog 5 #[.string t, .int .u64 x, .int .u8 a, .int .u8 b] w fun e w' => e = .returned (.bool true) ∧ Grew w w' := by
  go_enter Try.func5, Try.ntmps5
  go_wp2_with (refine (known_any _).mono ?_; rintro e w1 ⟨rfl, hb1⟩)
  have hsz : t.size ≤ 4611686018427387904 := by omega
  have hm0 : 0 ≤ a % 128 := by omega
  have hm1 : a % 128 ≤ 127 := by omega
  have hk0 : 0 ≤ b % 128 := by omega
  have hk1 : b % 128 ≤ 127 := by omega
  generalize a % 128 = m at *
  generalize b % 128 = k at *
  have hxb : x.toNat < 18446744073709551616 := by have := hx.2; have := hx.1; omega
  have hadd := chainI_add t.data.toList x.toNat m k hm0 hm1 hk0 hk1
  have hy := chainI_lt t.data.toList x.toNat m hxb
  refine (chain_any _ _ _ hsz hx (by omega) (by omega) _).mono ?_
  rintro e w' ⟨rfl, rfl⟩
  generalize chainI t.data.toList x.toNat m = y at *
  have HA := Lib.hid hadd
  clear hadd
  go_wp2_with fail
  refine (chain_any _ _ _ hsz (u64_nat hy) (by omega) (by omega) _).mono ?_
  rintro e w' ⟨rfl, rfl⟩
  rw [Int.toNat_natCast, HA.out]
  go_wp2_with fail
  refine (chain_any _ _ _ hsz hx (by omega) (by omega) _).mono ?_
  rintro e w' ⟨rfl, rfl⟩
  go_wp2_with fail
  refine (chain_any _ _ _ hsz hx (by omega) (by omega) _).mono ?_
  rintro e w' ⟨rfl, rfl⟩
  rw [chainI_low _ _ _ (by omega), show ((x.toNat : Nat) : Int) = x from by have := hx.1; omega]
  go_wp2_with fail
  refine (chain_any _ _ _ hsz hx (by omega) (by omega) _).mono ?_
  rintro e w' ⟨rfl, rfl⟩
  go_wp2_with fail
  refine (chain_any _ _ _ hsz hx (by omega) (by omega) _).mono ?_
  rintro e w' ⟨rfl, rfl⟩
  rw [chainI_255 _ _ _ hk0]
  go_wp2_with fail
  go_ret
  exact ⟨rfl, hb1⟩
end Go.Proofs.Ytpifebpfegjmpaa
