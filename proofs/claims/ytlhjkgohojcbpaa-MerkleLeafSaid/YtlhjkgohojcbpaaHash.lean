/- Contracts of package hash and of the document's digests in the reference. -/
import Derived.Test.YtlhjkgohojcbpaaProg
import Derived.Test.YtlhjkgohojcbpaaHashM
import Derived.Test.YtlhjkgohojcbpaaMem
import Derived.WalkKit
import Derived.Lib.Hide
namespace Go.Proofs.Ytlhjkgohojcbpaa
open Go.RowKit
set_option linter.unusedVariables false

theorem mix_any (a b : Int) (ha : U64 a) (hb : U64 b) (w : World) :
    Calls Try.prog 50 #[.int .u64 a, .int .u64 b] w fun e w' => e = .returned (.int .u64 (mixN a.toNat b.toNat : Nat)) ∧ w = w' := by
  obtain ⟨ha0, ha1⟩ := ha
  obtain ⟨hb0, hb1⟩ := hb
  obtain ⟨a, rfl⟩ := Int.eq_ofNat_of_zero_le ha0
  obtain ⟨b, rfl⟩ := Int.eq_ofNat_of_zero_le hb0
  have h1 := rnd_lt (a ^^^ (b * 11400714819323198485 % 18446744073709551616))
  have h2 := rnd_lt (rnd (a ^^^ (b * 11400714819323198485 % 18446744073709551616)))
  have h0 : a ^^^ (b * 11400714819323198485 % 18446744073709551616) < 18446744073709551616 := xor_lt64 (by omega) (Nat.mod_lt _ (by decide))
  have e0 := beg_int a b (by omega)
  have e1 := rnd_int _ h0
  have e2 := rnd_int _ h1
  have e3 := fin_int _ h2
  go_enter Try.func50, Try.ntmps50
  go_wp2
  refine wp_loop_rounds 3 ?_
  rw [rounds_succ]
  go_wp2
  rw [rounds_succ]
  go_wp2
  rw [rounds_succ]
  go_wp2
  go_ret
  refine ⟨?_, rfl⟩
  simp only [Int.toNat_natCast]
  exact ret_int (by rw [mixN_of a b _ _ _ rfl rfl rfl])
theorem refmix_any (a b : Int) (ha : U64 a) (hb : U64 b) (w : World) :
    Calls Try.prog 51 #[.int .u64 a, .int .u64 b] w fun e w' => e = .returned (.int .u64 (mixN a.toNat b.toNat : Nat)) ∧ w = w' := by
  obtain ⟨ha0, ha1⟩ := ha
  obtain ⟨hb0, hb1⟩ := hb
  obtain ⟨a, rfl⟩ := Int.eq_ofNat_of_zero_le ha0
  obtain ⟨b, rfl⟩ := Int.eq_ofNat_of_zero_le hb0
  have h1 := rnd_lt (a ^^^ (b * 11400714819323198485 % 18446744073709551616))
  have h2 := rnd_lt (rnd (a ^^^ (b * 11400714819323198485 % 18446744073709551616)))
  have h0 : a ^^^ (b * 11400714819323198485 % 18446744073709551616) < 18446744073709551616 := xor_lt64 (by omega) (Nat.mod_lt _ (by decide))
  have e0 := beg_int a b (by omega)
  have e1 := rnd_int _ h0
  have e2 := rnd_int _ h1
  have e3 := fin_int _ h2
  go_enter Try.func51, Try.ntmps51
  go_wp2
  go_ret
  refine ⟨?_, rfl⟩
  simp only [Int.toNat_natCast]
  exact ret_int (by rw [mixN_of a b _ _ _ rfl rfl rfl])
theorem mixAllS_any (h : Int) (s : ByteArray) (hh : U64 h) (hs : s.size ≤ 4611686018427387904) (w : World) :
    Calls Try.prog 59 #[.int .u64 h, .string s] w fun e w' => e = .returned (.int .u64 (mixL h.toNat s.data.toList : Nat)) ∧ w = w' := by
  obtain ⟨hh0, hh1⟩ := hh
  obtain ⟨h, rfl⟩ := Int.eq_ofNat_of_zero_le hh0
  have hb : h < 18446744073709551616 := by omega
  clear hh0 hh1
  rw [Int.toNat_natCast]
  go_enter Try.func59, Try.ntmps59
  go_wp2
  go_loop [0, 8] (fun v i => ∃ k : Nat, k ≤ s.size ∧ i = .int .i64 k ∧ v = .int .u64 (mixL h (s.data.toList.take k) : Nat)) (fun _ i => s.size - (intOf i).toNat)
  case atStart => exact ⟨0, Nat.zero_le _, rfl, rfl⟩
  case round =>
    obtain ⟨k, hk, rfl, rfl⟩ := hrel
    have hm := mixL_lt h (s.data.toList.take k) hb
    by_cases hlt : k < s.size
    · have hsn : mixL h (s.data.toList.take (k + 1)) = mixN (mixL h (s.data.toList.take k)) s[k].toNat := by rw [take_snoc s k hlt, mixL_snoc]
      have HS := Lib.hid hsn
      have hc := s[k].toNat_lt
      clear hsn
      go_wp2_with (go_at_call 50; refine (mix_any _ _ (u64_nat hm) (u64_byte _) _).mono ?_; rintro e w' ⟨rfl, rfl⟩)
      go_round
      case rel => exact ⟨k + 1, by omega, by go_num, by rw [HS.out]⟩
      case measure => simp [intOf]; omega
    · have hkk : s.data.toList.take k = s.data.toList := List.take_of_length_le (by simp; omega)
      have HK := Lib.hid hkk
      clear hkk
      go_wp2
      go_ret
      exact ⟨ret_int (by rw [HK.out]), rfl⟩
theorem sumS_any (t s : ByteArray) (ht : t.size ≤ 4611686018427387904) (hs : s.size ≤ 4611686018427387904) (w : World) :
    Calls Try.prog 49 #[.string t, .string s] w fun e w' => e = .returned (.int .u64 (sumL t.data.toList s.data.toList : Nat)) ∧ w = w' := by
  have h0 : U64 0 := ⟨by omega, by omega⟩
  have h256 : U64 256 := ⟨by omega, by omega⟩
  have hm0 := mixL_lt 0 t.data.toList (by omega)
  have hfin := sumL_eq t.data.toList s.data.toList s.size rfl
  have HF := Lib.hid hfin
  clear hfin
  go_enter Try.func49, Try.ntmps49
  go_wp2_with fail
  refine (mixAllS_any _ _ h0 ht _).mono ?_
  rintro e w' ⟨rfl, rfl⟩
  go_wp2_with fail
  refine (mix_any _ _ (u64_nat hm0) h256 _).mono ?_
  rintro e w' ⟨rfl, rfl⟩
  go_wp2_with fail
  refine (mixAllS_any _ _ (u64_mixN _ _) hs _).mono ?_
  rintro e w' ⟨rfl, rfl⟩
  go_wp2_with fail
  refine (mix_any _ _ (u64_mixL _ _ (mixN_lt _ _)) (u64_size hs) _).mono ?_
  rintro e w' ⟨rfl, rfl⟩
  go_wp2_with fail
  go_ret
  exact ⟨ret_int (by rw [HF.out]), rfl⟩
theorem two_any (t : ByteArray) (a b : Int) (ht : t.size ≤ 4611686018427387904) (ha : U64 a) (hb : U64 b) (w : World) :
    Calls Try.prog 27 #[.string t, .int .u64 a, .int .u64 b] w fun e w' => e = .returned (.int .u64 (twoN t.data.toList a.toNat b.toNat : Nat)) ∧ w = w' := by
  have HF := Lib.hid (twoN_eq t.data.toList a.toNat b.toNat)
  have hs0 := sumL_lt t.data.toList []
  go_enter Try.func27, Try.ntmps27
  go_wp2_with fail
  refine (sumS_any t ⟨#[]⟩ ht (by decide) _).mono ?_
  rintro e w' ⟨rfl, rfl⟩
  go_wp2_with fail
  refine (mix_any _ _ (u64_nat hs0) ha _).mono ?_
  rintro e w' ⟨rfl, rfl⟩
  go_wp2_with fail
  refine (mix_any _ _ (u64_mixN _ _) hb _).mono ?_
  rintro e w' ⟨rfl, rfl⟩
  go_wp2_with fail
  go_ret
  exact ⟨ret_int (by rw [HF.out]), rfl⟩
set_option maxRecDepth 20000 in
theorem chain_any (t : ByteArray) (x n : Int) (ht : t.size ≤ 4611686018427387904) (hx : U64 x) (hn : -9223372036854775808 ≤ n) (hn' : n ≤ 9223372036854775807) (w : World) :
    Calls Try.prog 26 #[.string t, .int .u64 x, .int .i64 n] w fun e w' => e = .returned (.int .u64 (chainI t.data.toList x.toNat n : Nat)) ∧ w = w' := by
  have hs0 := sumL_lt t.data.toList []
  obtain ⟨hx0, hx1⟩ := hx
  obtain ⟨x, rfl⟩ := Int.eq_ofNat_of_zero_le hx0
  have hxb : x < 18446744073709551616 := by omega
  clear hx0 hx1
  rw [Int.toNat_natCast]
  by_cases h0 : n ≤ 0
  · have HF := Lib.hid (chainI_low t.data.toList x n h0)
    go_enter Try.func26, Try.ntmps26
    go_wp2_with fail
    refine (sumS_any t ⟨#[]⟩ ht (by decide) _).mono ?_
    rintro e w' ⟨rfl, rfl⟩
    go_wp2_with fail
    refine wp_loop_rounds 1 ?_
    rw [rounds_succ]
    go_wp2
    go_ret
    exact ⟨ret_int (by rw [HF.out]), rfl⟩
  · by_cases h1 : n ≤ 255
    · obtain ⟨m, rfl⟩ := Int.eq_ofNat_of_zero_le (show 0 ≤ n by omega)
      have hm : m ≤ 255 := by omega
      have HF := Lib.hid (chainI_nat t.data.toList x m hm)
      go_enter Try.func26, Try.ntmps26
      go_wp2_with fail
      refine (sumS_any t ⟨#[]⟩ ht (by decide) _).mono ?_
      rintro e w' ⟨rfl, rfl⟩
      go_wp2_with fail
      go_loop [1, 12] (fun v i => ∃ k : Nat, k ≤ m ∧ i = .int .i64 k ∧ v = .int .u64 (chainN (sumL t.data.toList []) x k : Nat)) (fun _ i => m - (intOf i).toNat)
      case atStart => exact ⟨0, Nat.zero_le _, rfl, rfl⟩
      case round =>
        obtain ⟨k, hk, rfl, rfl⟩ := hrel
        have hc := chainN_lt (sumL t.data.toList []) x k hxb
        by_cases hlt : k < m
        · have HS := Lib.hid (chainN_succ (sumL t.data.toList []) x k)
          go_wp2_with (go_at_call 50; refine (mix_any _ _ (u64_nat hs0) (u64_nat hc) _).mono ?_; rintro e w' ⟨rfl, rfl⟩)
          go_round
          case rel => exact ⟨k + 1, by omega, by go_num, by rw [HS.out]⟩
          case measure => simp [intOf]; omega
        · obtain rfl : k = m := by omega
          go_wp2
          go_ret
          exact ⟨ret_int (by rw [HF.out]), rfl⟩
    · have HF := Lib.hid (chainI_big t.data.toList x n (by omega))
      go_enter Try.func26, Try.ntmps26
      go_wp2_with fail
      refine (sumS_any t ⟨#[]⟩ ht (by decide) _).mono ?_
      rintro e w' ⟨rfl, rfl⟩
      go_wp2_with fail
      go_loop [1, 12] (fun v i => ∃ k : Nat, k ≤ 255 ∧ i = .int .i64 k ∧ v = .int .u64 (chainN (sumL t.data.toList []) x k : Nat)) (fun _ i => 255 - (intOf i).toNat)
      case atStart => exact ⟨0, Nat.zero_le _, rfl, rfl⟩
      case round =>
        obtain ⟨k, hk, rfl, rfl⟩ := hrel
        have hc := chainN_lt (sumL t.data.toList []) x k hxb
        by_cases hlt : k < 255
        · have HS := Lib.hid (chainN_succ (sumL t.data.toList []) x k)
          go_wp2_with (go_at_call 50; refine (mix_any _ _ (u64_nat hs0) (u64_nat hc) _).mono ?_; rintro e w' ⟨rfl, rfl⟩)
          go_round
          case rel => exact ⟨k + 1, by omega, by go_num, by rw [HS.out]⟩
          case measure => simp [intOf]; omega
        · have HK := Lib.hid (show k = 255 by omega)
          go_wp2
          go_ret
          exact ⟨ret_int (by rw [HF.out, HK.out]), rfl⟩
theorem refsum_any (t : ByteArray) (A : Option Addr) (c B : Nat) (l : List UInt8) (ht : t.size ≤ 4611686018427387904) (hs : l.length ≤ 4611686018427387904) (w : World) (hr : Rd w B A (l.map byteV)) :
    Calls Try.prog 52 #[.string t, .slice A l.length c] w fun e w' => e = .returned (.int .u64 (sumL t.data.toList l : Nat)) ∧ w = w' := by
  have h256 : U64 256 := ⟨by omega, by omega⟩
  have HF := Lib.hid (sumL_eq t.data.toList l l.length rfl)
  go_enter Try.func52, Try.ntmps52
  go_wp2
  go_loop [5, 7] (fun v i => ∃ k : Nat, k ≤ t.size ∧ i = .int .i64 k ∧ v = .int .u64 (mixL 0 (t.data.toList.take k) : Nat)) (fun _ i => t.size - (intOf i).toNat)
  case atStart => exact ⟨0, Nat.zero_le _, rfl, rfl⟩
  case round =>
    obtain ⟨k, hk, rfl, rfl⟩ := hrel
    have hm := mixL_lt 0 (t.data.toList.take k) (by omega)
    by_cases hlt : k < t.size
    · have hsn : mixL 0 (t.data.toList.take (k + 1)) = mixN (mixL 0 (t.data.toList.take k)) t[k].toNat := by rw [take_snoc t k hlt, mixL_snoc]
      have HS := Lib.hid hsn
      have hc := t[k].toNat_lt
      clear hsn
      go_wp2_with (go_at_call 51; refine (refmix_any _ _ (u64_nat hm) (u64_byte _) _).mono ?_; rintro e w' ⟨rfl, rfl⟩)
      go_round
      case rel => exact ⟨k + 1, by omega, by go_num, by rw [HS.out]⟩
      case measure => simp [intOf]; omega
    · have hkk : t.data.toList.take k = t.data.toList := List.take_of_length_le (by simp; omega)
      have HK := Lib.hid hkk
      clear hkk
      go_wp2_with fail
      refine (refmix_any _ _ (u64_nat hm) h256 _).mono ?_
      rintro e w' ⟨rfl, rfl⟩
      go_wp2_with fail
      rw [HK.out]
      go_loop [5, 6, 8] (fun v n i => ∃ j : Nat, j ≤ l.length ∧ i = .int .i64 j ∧ n = .int .u64 j ∧ v = .int .u64 (mixL (mixN (mixL 0 t.data.toList) 256) (l.take j) : Nat)) (fun _ _ i => l.length - (intOf i).toNat)
      case atStart => exact ⟨0, Nat.zero_le _, rfl, rfl, rfl⟩
      case round =>
        obtain ⟨j, hj, rfl, rfl, rfl⟩ := hrel
        have hm2 := mixL_lt (mixN (mixL 0 t.data.toList) 256) (l.take j) (mixN_lt _ _)
        by_cases hjl : j < l.length
        · have hsn : mixL (mixN (mixL 0 t.data.toList) 256) (l.take (j + 1)) = mixN (mixL (mixN (mixL 0 t.data.toList) 256) (l.take j)) l[j].toNat := by rw [List.take_succ_eq_append_getElem hjl, mixL_snoc]
          have HS := Lib.hid hsn
          have hc := l[j].toNat_lt
          clear hsn
          obtain ⟨ad, rfl, hbl, hcell⟩ := hr j (by simpa using hjl)
          rw [byteV_get] at hcell
          go_wp2_with (go_at_call 51; refine (refmix_any _ _ (u64_nat hm2) (u64_byte _) _).mono ?_; rintro e w' ⟨rfl, rfl⟩)
          go_round
          case rel => exact ⟨j + 1, by omega, by go_num, by go_num, by rw [HS.out]⟩
          case measure => simp [intOf]; omega
        · have hjj : l.take j = l := List.take_of_length_le (by omega)
          have HJ := Lib.hid hjj
          have HN := Lib.hid (show j = l.length by omega)
          clear hjj
          go_wp2_with (go_at_call 51; refine (refmix_any _ _ (u64_nat hm2) (u64_size (by omega)) _).mono ?_; rintro e w' ⟨rfl, rfl⟩)
          go_ret
          exact ⟨ret_int (by rw [HF.out, HJ.out, HN.out]), rfl⟩
theorem reftwo_any (t : ByteArray) (a b : Int) (ht : t.size ≤ 4611686018427387904) (ha : U64 a) (hb : U64 b) (w : World) :
    Calls Try.prog 28 #[.string t, .int .u64 a, .int .u64 b] w fun e w' => e = .returned (.int .u64 (twoN t.data.toList a.toNat b.toNat : Nat)) ∧ w = w' := by
  have HF := Lib.hid (twoN_eq t.data.toList a.toNat b.toNat)
  have hs0 := sumL_lt t.data.toList []
  go_enter Try.func28, Try.ntmps28
  go_wp2_with fail
  refine (refsum_any t none 0 0 [] ht (by simp) _ (Rd.nil_ _ _ _)).mono ?_
  rintro e w' ⟨rfl, rfl⟩
  go_wp2_with fail
  refine (refmix_any _ _ (u64_nat hs0) ha _).mono ?_
  rintro e w' ⟨rfl, rfl⟩
  go_wp2_with fail
  refine (refmix_any _ _ (u64_mixN _ _) hb _).mono ?_
  rintro e w' ⟨rfl, rfl⟩
  go_wp2_with fail
  go_ret
  exact ⟨ret_int (by rw [HF.out]), rfl⟩
set_option maxRecDepth 20000 in
theorem refchain_any (t : ByteArray) (x n : Int) (ht : t.size ≤ 4611686018427387904) (hx : U64 x) (hn : -9223372036854775808 ≤ n) (hn' : n ≤ 9223372036854775807) (w : World) :
    Calls Try.prog 45 #[.string t, .int .u64 x, .int .i64 n] w fun e w' => e = .returned (.int .u64 (chainI t.data.toList x.toNat n : Nat)) ∧ w = w' := by
  have hs0 := sumL_lt t.data.toList []
  obtain ⟨hx0, hx1⟩ := hx
  obtain ⟨x, rfl⟩ := Int.eq_ofNat_of_zero_le hx0
  have hxb : x < 18446744073709551616 := by omega
  clear hx0 hx1
  rw [Int.toNat_natCast]
  by_cases h0 : n ≤ 0
  · have HF := Lib.hid (chainI_low t.data.toList x n h0)
    go_enter Try.func45, Try.ntmps45
    go_wp2_with fail
    refine (refsum_any t none 0 0 [] ht (by simp) _ (Rd.nil_ _ _ _)).mono ?_
    rintro e w' ⟨rfl, rfl⟩
    go_wp2_with fail
    refine wp_loop_rounds 1 ?_
    rw [rounds_succ]
    go_wp2
    go_ret
    exact ⟨ret_int (by rw [HF.out]), rfl⟩
  · by_cases h1 : n ≤ 255
    · obtain ⟨m, rfl⟩ := Int.eq_ofNat_of_zero_le (show 0 ≤ n by omega)
      have hm : m ≤ 255 := by omega
      have HF := Lib.hid (chainI_nat t.data.toList x m hm)
      go_enter Try.func45, Try.ntmps45
      go_wp2_with fail
      refine (refsum_any t none 0 0 [] ht (by simp) _ (Rd.nil_ _ _ _)).mono ?_
      rintro e w' ⟨rfl, rfl⟩
      go_wp2_with fail
      go_loop [1, 8] (fun v i => ∃ k : Nat, k ≤ m ∧ i = .int .i64 k ∧ v = .int .u64 (chainN (sumL t.data.toList []) x k : Nat)) (fun _ i => m - (intOf i).toNat)
      case atStart => exact ⟨0, Nat.zero_le _, rfl, rfl⟩
      case round =>
        obtain ⟨k, hk, rfl, rfl⟩ := hrel
        have hc := chainN_lt (sumL t.data.toList []) x k hxb
        by_cases hlt : k < m
        · have HS := Lib.hid (chainN_succ (sumL t.data.toList []) x k)
          go_wp2_with (go_at_call 51; refine (refmix_any _ _ (u64_nat hs0) (u64_nat hc) _).mono ?_; rintro e w' ⟨rfl, rfl⟩)
          go_round
          case rel => exact ⟨k + 1, by omega, by go_num, by rw [HS.out]⟩
          case measure => simp [intOf]; omega
        · obtain rfl : k = m := by omega
          go_wp2
          go_ret
          exact ⟨ret_int (by rw [HF.out]), rfl⟩
    · have HF := Lib.hid (chainI_big t.data.toList x n (by omega))
      go_enter Try.func45, Try.ntmps45
      go_wp2_with fail
      refine (refsum_any t none 0 0 [] ht (by simp) _ (Rd.nil_ _ _ _)).mono ?_
      rintro e w' ⟨rfl, rfl⟩
      go_wp2_with fail
      go_loop [1, 8] (fun v i => ∃ k : Nat, k ≤ 255 ∧ i = .int .i64 k ∧ v = .int .u64 (chainN (sumL t.data.toList []) x k : Nat)) (fun _ i => 255 - (intOf i).toNat)
      case atStart => exact ⟨0, Nat.zero_le _, rfl, rfl⟩
      case round =>
        obtain ⟨k, hk, rfl, rfl⟩ := hrel
        have hc := chainN_lt (sumL t.data.toList []) x k hxb
        by_cases hlt : k < 255
        · have HS := Lib.hid (chainN_succ (sumL t.data.toList []) x k)
          go_wp2_with (go_at_call 51; refine (refmix_any _ _ (u64_nat hs0) (u64_nat hc) _).mono ?_; rintro e w' ⟨rfl, rfl⟩)
          go_round
          case rel => exact ⟨k + 1, by omega, by go_num, by rw [HS.out]⟩
          case measure => simp [intOf]; omega
        · have HK := Lib.hid (show k = 255 by omega)
          go_wp2
          go_ret
          exact ⟨ret_int (by rw [HF.out, HK.out]), rfl⟩
end Go.Proofs.Ytlhjkgohojcbpaa
