/- Contracts of package hash and of the document's digests in the reference. -/
import Derived.Test.YtpgbfglfgcidaaaDoorProg
import Derived.WalkKit
import Derived.Lib.Hide
import Derived.Test.YtpgbfglfgcidaaaDoorZab
import Derived.Test.YtpgbfglfgcidaaaDoorZac
namespace Go.Proofs.YtpgbfglfgcidaaaDoor
set_option linter.unusedSimpArgs false
set_option linter.unusedVariables false
open Go.RowKit
set_option linter.unusedVariables false

set_option maxRecDepth 100000 in
theorem mix_any (a b : Int) (ha : U64 a) (hb : U64 b) (w : World) :
    Calls Tryd.prog 44 #[.int .u64 a, .int .u64 b] w fun e w' => e = .returned (.int .u64 (mixN a.toNat b.toNat : Nat)) ∧ w = w' := by
  obtain ⟨ha0, ha1⟩ := ha
  obtain ⟨hb0, hb1⟩ := hb
  obtain ⟨a, rfl⟩ := Int.eq_ofNat_of_zero_le ha0
  obtain ⟨b, rfl⟩ := Int.eq_ofNat_of_zero_le hb0
  have h1 := rnd_lt (a ^^^ (b * 11400714819323198485 % 18446744073709551616))
  have h2 := rnd_lt (rnd (a ^^^ (b * 11400714819323198485 % 18446744073709551616)))
  have h0 : a ^^^ (b * 11400714819323198485 % 18446744073709551616) < 18446744073709551616 := xor_lt64 (by omega) (Nat.mod_lt _ (by decide))
  have e0 := beg_int a b (by omega)
  have e1 := rnd_int _ h0
  have e2 := rnd_int _ h1
  have e3 := fin_int _ h2
  go_enter Tryd.func44, Tryd.ntmps44
  go_wp2
  refine wp_loop_rounds 3 ?_
  rw [rounds_succ]
  go_wp2
  rw [rounds_succ]
  go_wp2
  rw [rounds_succ]
  go_wp2
  go_ret
  refine ⟨?_, rfl⟩
  simp only [Int.toNat_natCast]
  exact ret_int (by rw [mixN_of a b _ _ _ rfl rfl rfl])
set_option maxRecDepth 100000 in
theorem refmix_any (a b : Int) (ha : U64 a) (hb : U64 b) (w : World) :
    Calls Tryd.prog 50 #[.int .u64 a, .int .u64 b] w fun e w' => e = .returned (.int .u64 (mixN a.toNat b.toNat : Nat)) ∧ w = w' := by
  obtain ⟨ha0, ha1⟩ := ha
  obtain ⟨hb0, hb1⟩ := hb
  obtain ⟨a, rfl⟩ := Int.eq_ofNat_of_zero_le ha0
  obtain ⟨b, rfl⟩ := Int.eq_ofNat_of_zero_le hb0
  have h1 := rnd_lt (a ^^^ (b * 11400714819323198485 % 18446744073709551616))
  have h2 := rnd_lt (rnd (a ^^^ (b * 11400714819323198485 % 18446744073709551616)))
  have h0 : a ^^^ (b * 11400714819323198485 % 18446744073709551616) < 18446744073709551616 := xor_lt64 (by omega) (Nat.mod_lt _ (by decide))
  have e0 := beg_int a b (by omega)
  have e1 := rnd_int _ h0
  have e2 := rnd_int _ h1
  have e3 := fin_int _ h2
  go_enter Tryd.func50, Tryd.ntmps50
  go_wp2
  go_ret
  refine ⟨?_, rfl⟩
  simp only [Int.toNat_natCast]
  exact ret_int (by rw [mixN_of a b _ _ _ rfl rfl rfl])
set_option maxRecDepth 100000 in
theorem mixAllS_any (h : Int) (s : ByteArray) (hh : U64 h) (hs : s.size ≤ 4611686018427387904) (w : World) :
    Calls Tryd.prog 45 #[.int .u64 h, .string s] w fun e w' => e = .returned (.int .u64 (mixL h.toNat s.data.toList : Nat)) ∧ w = w' := by
  obtain ⟨hh0, hh1⟩ := hh
  obtain ⟨h, rfl⟩ := Int.eq_ofNat_of_zero_le hh0
  have hb : h < 18446744073709551616 := by omega
  clear hh0 hh1
  rw [Int.toNat_natCast]
  go_enter Tryd.func45, Tryd.ntmps45
  go_wp2
  go_loop [0, 8] (fun v i => ∃ k : Nat, k ≤ s.size ∧ i = .int .i64 k ∧ v = .int .u64 (mixL h (s.data.toList.take k) : Nat)) (fun _ i => s.size - (intOf i).toNat)
  case atStart => exact ⟨0, Nat.zero_le _, rfl, rfl⟩
  case round =>
    obtain ⟨k, hk, rfl, rfl⟩ := hrel
    have hm := mixL_lt h (s.data.toList.take k) hb
    by_cases hlt : k < s.size
    · have hsn : mixL h (s.data.toList.take (k + 1)) = mixN (mixL h (s.data.toList.take k)) s[k].toNat := by rw [take_snoc s k hlt, mixL_snoc]
      have HS := Lib.hid hsn
      have hc := s[k].toNat_lt
      clear hsn
      go_wp2_with (go_at_call 44; refine (mix_any _ _ (u64_nat hm) (u64_byte _) _).mono ?_; rintro e w' ⟨rfl, rfl⟩)
      go_round
      case rel => exact ⟨k + 1, by omega, by go_num, by rw [HS.out]⟩
      case measure => simp [intOf]; omega
    · have hkk : s.data.toList.take k = s.data.toList := List.take_of_length_le (by simp; omega)
      have HK := Lib.hid hkk
      clear hkk
      go_wp2
      go_ret
      exact ⟨ret_int (by rw [HK.out]), rfl⟩
set_option maxRecDepth 100000 in
theorem sumS_any (t s : ByteArray) (ht : t.size ≤ 4611686018427387904) (hs : s.size ≤ 4611686018427387904) (w : World) :
    Calls Tryd.prog 31 #[.string t, .string s] w fun e w' => e = .returned (.int .u64 (sumL t.data.toList s.data.toList : Nat)) ∧ w = w' := by
  have h0 : U64 0 := ⟨by omega, by omega⟩
  have h256 : U64 256 := ⟨by omega, by omega⟩
  have hm0 := mixL_lt 0 t.data.toList (by omega)
  have hfin := sumL_eq t.data.toList s.data.toList s.size rfl
  have HF := Lib.hid hfin
  clear hfin
  go_enter Tryd.func31, Tryd.ntmps31
  go_wp2_with fail
  refine (mixAllS_any _ _ h0 ht _).mono ?_
  rintro e w' ⟨rfl, rfl⟩
  go_wp2_with fail
  refine (mix_any _ _ (u64_nat hm0) h256 _).mono ?_
  rintro e w' ⟨rfl, rfl⟩
  go_wp2_with fail
  refine (mixAllS_any _ _ (u64_mixN _ _) hs _).mono ?_
  rintro e w' ⟨rfl, rfl⟩
  go_wp2_with fail
  refine (mix_any _ _ (u64_mixL _ _ (mixN_lt _ _)) (u64_size hs) _).mono ?_
  rintro e w' ⟨rfl, rfl⟩
  go_wp2_with fail
  go_ret
  exact ⟨ret_int (by rw [HF.out]), rfl⟩
set_option maxRecDepth 100000 in
theorem refsum_any (t : ByteArray) (A : Option Addr) (c B : Nat) (l : List UInt8) (ht : t.size ≤ 4611686018427387904) (hs : l.length ≤ 4611686018427387904) (w : World) (hr : Rd w B A (l.map byteV)) :
    Calls Tryd.prog 35 #[.string t, .slice A l.length c] w fun e w' => e = .returned (.int .u64 (sumL t.data.toList l : Nat)) ∧ w = w' := by
  have h256 : U64 256 := ⟨by omega, by omega⟩
  have HF := Lib.hid (sumL_eq t.data.toList l l.length rfl)
  go_enter Tryd.func35, Tryd.ntmps35
  go_wp2
  go_loop [5, 7] (fun v i => ∃ k : Nat, k ≤ t.size ∧ i = .int .i64 k ∧ v = .int .u64 (mixL 0 (t.data.toList.take k) : Nat)) (fun _ i => t.size - (intOf i).toNat)
  case atStart => exact ⟨0, Nat.zero_le _, rfl, rfl⟩
  case round =>
    obtain ⟨k, hk, rfl, rfl⟩ := hrel
    have hm := mixL_lt 0 (t.data.toList.take k) (by omega)
    by_cases hlt : k < t.size
    · have hsn : mixL 0 (t.data.toList.take (k + 1)) = mixN (mixL 0 (t.data.toList.take k)) t[k].toNat := by rw [take_snoc t k hlt, mixL_snoc]
      have HS := Lib.hid hsn
      have hc := t[k].toNat_lt
      clear hsn
      go_wp2_with (go_at_call 50; refine (refmix_any _ _ (u64_nat hm) (u64_byte _) _).mono ?_; rintro e w' ⟨rfl, rfl⟩)
      go_round
      case rel => exact ⟨k + 1, by omega, by go_num, by rw [HS.out]⟩
      case measure => simp [intOf]; omega
    · have hkk : t.data.toList.take k = t.data.toList := List.take_of_length_le (by simp; omega)
      have HK := Lib.hid hkk
      clear hkk
      go_wp2_with fail
      refine (refmix_any _ _ (u64_nat hm) h256 _).mono ?_
      rintro e w' ⟨rfl, rfl⟩
      go_wp2_with fail
      rw [HK.out]
      go_loop [5, 6, 8] (fun v n i => ∃ j : Nat, j ≤ l.length ∧ i = .int .i64 j ∧ n = .int .u64 j ∧ v = .int .u64 (mixL (mixN (mixL 0 t.data.toList) 256) (l.take j) : Nat)) (fun _ _ i => l.length - (intOf i).toNat)
      case atStart => exact ⟨0, Nat.zero_le _, rfl, rfl, rfl⟩
      case round =>
        obtain ⟨j, hj, rfl, rfl, rfl⟩ := hrel
        have hm2 := mixL_lt (mixN (mixL 0 t.data.toList) 256) (l.take j) (mixN_lt _ _)
        by_cases hjl : j < l.length
        · have hsn : mixL (mixN (mixL 0 t.data.toList) 256) (l.take (j + 1)) = mixN (mixL (mixN (mixL 0 t.data.toList) 256) (l.take j)) l[j].toNat := by rw [List.take_succ_eq_append_getElem hjl, mixL_snoc]
          have HS := Lib.hid hsn
          have hc := l[j].toNat_lt
          clear hsn
          obtain ⟨ad, rfl, hbl, hcell⟩ := hr j (by simpa using hjl)
          rw [byteV_get] at hcell
          go_wp2_with (go_at_call 50; refine (refmix_any _ _ (u64_nat hm2) (u64_byte _) _).mono ?_; rintro e w' ⟨rfl, rfl⟩)
          go_round
          case rel => exact ⟨j + 1, by omega, by go_num, by go_num, by rw [HS.out]⟩
          case measure => simp [intOf]; omega
        · have hjj : l.take j = l := List.take_of_length_le (by omega)
          have HJ := Lib.hid hjj
          have HN := Lib.hid (show j = l.length by omega)
          clear hjj
          go_wp2_with (go_at_call 50; refine (refmix_any _ _ (u64_nat hm2) (u64_size (by omega)) _).mono ?_; rintro e w' ⟨rfl, rfl⟩)
          go_ret
          exact ⟨ret_int (by rw [HF.out, HJ.out, HN.out]), rfl⟩
end Go.Proofs.YtpgbfglfgcidaaaDoor

namespace Go.Proofs.YtpgbfglfgcidaaaDoor
set_option linter.unusedSimpArgs false
set_option linter.unusedVariables false
open Go.RowKit
set_option linter.unusedVariables false

set_option maxRecDepth 100000 in
theorem of_any (t s : ByteArray) (ht : t.size ≤ 4611686018427387904) (hs : s.size ≤ 4611686018427387904) (w : World) :
    Calls Tryd.prog 21 #[.string t, .string s] w fun e w' => e = .returned (.int .u64 (sumL t.data.toList s.data.toList : Nat)) ∧ w = w' := by
  go_enter Tryd.func21, Tryd.ntmps21
  go_wp2_with fail
  refine (sumS_any _ _ ht hs _).mono ?_
  rintro e w' ⟨rfl, rfl⟩
  go_wp2_with fail
  go_ret
  exact ⟨rfl, rfl⟩
set_option maxRecDepth 100000 in
theorem refof_any (t s : ByteArray) (ht : t.size ≤ 4611686018427387904) (hs : s.size ≤ 4611686018427387904) (w : World) :
    Calls Tryd.prog 23 #[.string t, .string s] w fun e w' => e = .returned (.int .u64 (sumL t.data.toList s.data.toList : Nat)) ∧ Grew w w' := by
  obtain ⟨A, c, w1, hrun, hb, hrd⟩ := conv_bytes (P := Tryd.prog) w 9 66 5 s Tryd.underlying9 Tryd.underlying66 Tryd.underlying5
  go_enter Tryd.func23, Tryd.ntmps23
  go_wp2_with fail
  refine (refsum_any t _ _ _ s.data.toList ht (by simpa using hs) _ hrd).mono ?_
  rintro e w' ⟨rfl, rfl⟩
  go_wp2_with fail
  go_ret
  exact ⟨rfl, hb⟩
end Go.Proofs.YtpgbfglfgcidaaaDoor
