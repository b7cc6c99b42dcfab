/- Contracts of trees: climbing. -/
import Derived.Test.YtlhjkgohojcbpaaMkE
import Derived.Laws.BitsAllLaws
import Derived.Laws.BitsLemmas
namespace Go.Proofs.Ytlhjkgohojcbpaa
open Go.RowKit
set_option linter.unusedVariables false
theorem ofInt64_nat (a : Nat) (ha : a < 9223372036854775808) : (BitVec.ofInt 64 (a : Int)).toNat = a := by
  rw [BitVec.ofInt_natCast, BitVec.toNat_ofNat]; exact Nat.mod_eq_of_lt (by omega)
theorem and_one_i64 (a : Nat) (ha : a < 9223372036854775808) : bits .and .i64 (a : Int) 1 = ((a % 2 : Nat) : Int) := by
  show IntKind.i64.wrap ((BitVec.ofInt 64 (a : Int) &&& BitVec.ofInt 64 ((1 : Nat) : Int)).toNat : Int) = _
  rw [BitVec.toNat_and, ofInt64_nat a ha, ofInt64_nat 1 (by omega), Nat.and_one_is_mod, IntKind.wrap_i64]
  omega
set_option maxRecDepth 100000 in
set_option maxRecDepth 100000 in
theorem climb_any (leaf : Nat) (i : Nat) (A : Option Addr) (c B : Nat) (l : List Nat) (hi : i < 9223372036854775808) (hl : l.length ≤ 1048576) (hx : leaf < 18446744073709551616) (hb : ∀ n ∈ l, n < 18446744073709551616) (w : World) (hr : Rd w B A (u64L l)) :
    Calls Try.prog 37 #[.int .u64 leaf, .int .i64 i, .slice A l.length c] w fun e w' => e = .returned (.int .u64 (climbN leaf i l : Nat)) ∧ w = w' := by
  have HB := Lib.hid hb
  have HR := Lib.hid hr
  clear hb hr
  go_enter Try.func37, Try.ntmps37
  go_wp2_with fail
  go_loop [1, 7, 13] (fun iv dv kv => ∃ (k j d : Nat), k ≤ l.length ∧ kv = .int .i64 k ∧ iv = .int .i64 j ∧ j < 9223372036854775808 ∧ Hid (j = i / 2 ^ k) ∧ dv = .int .u64 d ∧ d < 18446744073709551616 ∧ Hid (d = climbN leaf i (l.take k))) (fun _ _ kv => l.length - (intOf kv).toNat)
  case atStart => exact ⟨0, i, leaf, Nat.zero_le _, rfl, rfl, hi, Lib.hid (by simp), rfl, hx, Lib.hid (by simp [climbN])⟩
  case round =>
    obtain ⟨k, j, d, hk, rfl, rfl, hj, HJ, rfl, hd, HD⟩ := hrel
    by_cases hlt : k < l.length
    · obtain ⟨ad, rfl, hbl, hc⟩ := rd_u64 HR.out k hlt
      have hz := HB.out _ (List.getElem_mem hlt)
      have HT := Lib.hid (climbN_take l leaf i k hlt)
      generalize l[k] = z at *
      obtain ⟨p, hp⟩ : ∃ p, j % 2 = p := ⟨_, rfl⟩
      have HA := Lib.hid (and_one_i64 j hj)
      rw [hp] at HA
      have hp2 : p < 2 := by omega
      have hae := HA.out
      have HP := Lib.hid hp
      clear hp
      by_cases h0 : p = 0
      · subst h0
        have C := (mtwo_any (d : Int) (z : Int) (u64_nat hd) (u64_nat hz))
        rw [Int.toNat_natCast, Int.toNat_natCast] at C
        have hy := twoN_lt tagMt d z
        have HY : Hid (climbN leaf i (l.take (k + 1)) = twoN tagMt d z) := Lib.hid (by rw [HT.out, ← HJ.out, HP.out, ← HD.out]; rfl)
        have C2 := Lib.hid C
        clear C
        generalize twoN tagMt d z = y at *
        go_wp2_with fail
        refine (C2.out _).mono ?_
        rintro e w' ⟨rfl, rfl⟩
        go_wp2_with fail
        go_round
        case rel =>
          refine ⟨k + 1, j / 2, y, by omega, by go_num, ?_, by omega, Lib.hid ?_, rfl, hy, Lib.hid HY.out.symm⟩
          · congr 1
          · rw [HJ.out, Nat.div_div_eq_div_mul, Nat.pow_succ]
        case measure => simp [intOf]; omega
      · obtain rfl : p = 1 := by omega
        have C := (mtwo_any (z : Int) (d : Int) (u64_nat hz) (u64_nat hd))
        rw [Int.toNat_natCast, Int.toNat_natCast] at C
        have hy := twoN_lt tagMt z d
        have HY : Hid (climbN leaf i (l.take (k + 1)) = twoN tagMt z d) := Lib.hid (by rw [HT.out, ← HJ.out, HP.out, ← HD.out]; rfl)
        have C2 := Lib.hid C
        clear C
        generalize twoN tagMt z d = y at *
        go_wp2_with fail
        refine (C2.out _).mono ?_
        rintro e w' ⟨rfl, rfl⟩
        go_wp2_with fail
        go_round
        case rel =>
          refine ⟨k + 1, j / 2, y, by omega, by go_num, ?_, by omega, Lib.hid ?_, rfl, hy, Lib.hid HY.out.symm⟩
          · congr 1
          · rw [HJ.out, Nat.div_div_eq_div_mul, Nat.pow_succ]
        case measure => simp [intOf]; omega
    · obtain rfl : k = l.length := by omega
      have hdd := HD.out
      rw [List.take_length] at hdd
      have HD2 := Lib.hid hdd
      clear hdd
      go_wp2_with fail
      go_ret
      exact ⟨by rw [← HD2.out]; rfl, rfl⟩
set_option maxRecDepth 100000 in
theorem refclimb_any (leaf : Nat) (i : Nat) (A : Option Addr) (c B : Nat) (l : List Nat) (hi : i < 9223372036854775808) (hl : l.length ≤ 62) (hx : leaf < 18446744073709551616) (hb : ∀ n ∈ l, n < 18446744073709551616) (w : World) (hr : Rd w B A (u64L l)) :
    Calls Try.prog 38 #[.int .u64 leaf, .int .i64 i, .slice A l.length c] w fun e w' => e = .returned (.int .u64 (climbN leaf i l : Nat)) ∧ w = w' := by
  have HB := Lib.hid hb
  have HR := Lib.hid hr
  clear hb hr
  go_enter Try.func38, Try.ntmps38
  go_wp2_with fail
  go_loop [7, 8] (fun dv kv => ∃ (k d : Nat), k ≤ l.length ∧ kv = .int .i64 k ∧ dv = .int .u64 d ∧ d < 18446744073709551616 ∧ Hid (d = climbN leaf i (l.take k))) (fun _ kv => l.length - (intOf kv).toNat)
  case atStart => exact ⟨0, leaf, Nat.zero_le _, rfl, rfl, hx, Lib.hid (by simp [climbN])⟩
  case round =>
    obtain ⟨k, d, hk, rfl, rfl, hd, HD⟩ := hrel
    obtain ⟨j, hj0⟩ : ∃ j, j = i / 2 ^ k := ⟨_, rfl⟩
    have hj : j < 9223372036854775808 := by rw [hj0]; exact Nat.lt_of_le_of_lt (Nat.div_le_self _ _) hi
    have HJ := Lib.hid hj0
    clear hj0
    by_cases hlt : k < l.length
    · obtain ⟨ad, rfl, hbl, hc⟩ := rd_u64 HR.out k hlt
      have hz := HB.out _ (List.getElem_mem hlt)
      have HT := Lib.hid (climbN_take l leaf i k hlt)
      generalize l[k] = z at *
      obtain ⟨p, hp⟩ : ∃ p, j % 2 = p := ⟨_, rfl⟩
      have HA := Lib.hid (and_one_i64 j hj)
      rw [hp] at HA
      have hp2 : p < 2 := by omega
      have HP := Lib.hid hp
      clear hp
      have hae : bits .and .i64 ((i : Int) / 2 ^ k) 1 = (p : Int) := by rw [show ((i : Int) / 2 ^ k) = ((i / 2 ^ k : Nat) : Int) by simp, ← HJ.out]; exact HA.out
      by_cases h0 : p = 0
      · subst h0
        have C := (reftwo_any ⟨#[109, 116]⟩ (d : Int) (z : Int) (by decide) (u64_nat hd) (u64_nat hz))
        rw [Int.toNat_natCast, Int.toNat_natCast, show (⟨#[109, 116]⟩ : ByteArray).data.toList = tagMt from rfl] at C
        have hy := twoN_lt tagMt d z
        have HY : Hid (climbN leaf i (l.take (k + 1)) = twoN tagMt d z) := Lib.hid (by rw [HT.out, ← HJ.out, HP.out, ← HD.out]; rfl)
        have C2 := Lib.hid C
        clear C
        generalize twoN tagMt d z = y at *
        go_wp2_with fail
        refine (C2.out _).mono ?_
        rintro e w' ⟨rfl, rfl⟩
        go_wp2_with fail
        go_round
        case rel =>
          exact ⟨k + 1, y, by omega, by go_num, rfl, hy, Lib.hid HY.out.symm⟩
        case measure => simp [intOf]; omega
      · obtain rfl : p = 1 := by omega
        have C := (reftwo_any ⟨#[109, 116]⟩ (z : Int) (d : Int) (by decide) (u64_nat hz) (u64_nat hd))
        rw [Int.toNat_natCast, Int.toNat_natCast, show (⟨#[109, 116]⟩ : ByteArray).data.toList = tagMt from rfl] at C
        have hy := twoN_lt tagMt z d
        have HY : Hid (climbN leaf i (l.take (k + 1)) = twoN tagMt z d) := Lib.hid (by rw [HT.out, ← HJ.out, HP.out, ← HD.out]; rfl)
        have C2 := Lib.hid C
        clear C
        generalize twoN tagMt z d = y at *
        go_wp2_with fail
        refine (C2.out _).mono ?_
        rintro e w' ⟨rfl, rfl⟩
        go_wp2_with fail
        go_round
        case rel =>
          exact ⟨k + 1, y, by omega, by go_num, rfl, hy, Lib.hid HY.out.symm⟩
        case measure => simp [intOf]; omega
    · obtain rfl : k = l.length := by omega
      have hdd := HD.out
      rw [List.take_length] at hdd
      have HD2 := Lib.hid hdd
      clear hdd
      go_wp2_with fail
      go_ret
      exact ⟨by rw [← HD2.out]; rfl, rfl⟩
end Go.Proofs.Ytlhjkgohojcbpaa
