/- The statements of layer 2: HashSteps. -/
import Derived.Test.YtpifebpfegjmpaaHashK
import Derived.Deep.RegionHeld3
namespace Go.Proofs.Ytpifebpfegjmpaa
open Go.RowKit
set_option linter.unusedVariables false
theorem hashSteps_big (t : ByteArray) (A : Option Addr) (c : Nat) (l : List UInt8) (w : World) (h : 50 < t.size) :
    Calls Try.prog 6 #[.string t, .slice A l.length c] w fun e w' => e = .returned (.bool true) ∧ Grew w w' := by
  go_enter Try.func6, Try.ntmps6
  go_wp2_with (refine (known_any _).mono ?_; rintro e w1 ⟨rfl, hb1⟩)
  go_ret
  exact ⟨rfl, hb1⟩
theorem hashSteps_big2 (t : ByteArray) (A : Option Addr) (c : Nat) (l : List UInt8) (w : World) (h : ¬ 50 < t.size) (h2 : 500 < l.length) :
    Calls Try.prog 6 #[.string t, .slice A l.length c] w fun e w' => e = .returned (.bool true) ∧ Grew w w' := by
  go_enter Try.func6, Try.ntmps6
  go_wp2_with (refine (known_any _).mono ?_; rintro e w1 ⟨rfl, hb1⟩)
  go_ret
  exact ⟨rfl, hb1⟩
theorem sumL_parts (t l : List UInt8) : sumL t l = mixN (mixL (mixN (mixL 0 t) 256) l) l.length := rfl
theorem sumL_nil (t : List UInt8) : sumL t [] = mixN (mixN (mixL 0 t) 256) 0 := rfl
set_option maxHeartbeats 1000000 in
theorem hashSteps_law (t : ByteArray) (A : Option Addr) (c : Nat) (l : List UInt8) (w : World)
    (hr : Rd w w.heap.size A (l.map byteV)) (h : t.size ≤ 50) (h2 : l.length ≤ 500) :
    Calls Try.prog 6 #[.string t, .slice A l.length c] w fun e w' => e = .returned (.bool true) ∧ Grew w w' := by
  have h256 : U64 256 := ⟨by omega, by omega⟩
  have ht : t.size ≤ 4611686018427387904 := by omega
  have hle : (ByteArray.mk l.toArray).size ≤ 4611686018427387904 := by show l.toArray.size ≤ _; simp; omega
  go_enter Try.func6, Try.ntmps6
  go_wp2_with (refine (known_any _).mono ?_; rintro e w1 ⟨rfl, hb1⟩)
  have hr1 := hr.below hb1
  go_loop [5, 6] (fun v i => ∃ k : Nat, k ≤ t.size ∧ i = .int .i64 k ∧ v = .int .u64 (mixL 0 (t.data.toList.take k) : Nat)) (fun _ i => t.size - (intOf i).toNat)
  case atStart => exact ⟨0, Nat.zero_le _, rfl, rfl⟩
  case round =>
    obtain ⟨k, hk, rfl, rfl⟩ := hrel
    have hm := mixL_lt 0 (t.data.toList.take k) (by omega)
    by_cases hlt : k < t.size
    · have hsn : mixL 0 (t.data.toList.take (k + 1)) = mixN (mixL 0 (t.data.toList.take k)) t[k].toNat := by rw [take_snoc t k hlt, mixL_snoc]
      have HS := Lib.hid hsn
      have hc := t[k].toNat_lt
      clear hsn
      go_wp2_with (go_at_call 9; refine (mix_any _ _ (u64_nat hm) (u64_byte _) _).mono ?_; rintro e w' ⟨rfl, rfl⟩)
      go_round
      case rel => exact ⟨k + 1, by omega, by go_num, by rw [HS.out]⟩
      case measure => simp [intOf]; omega
    · have hkk : t.data.toList.take k = t.data.toList := List.take_of_length_le (by simp; omega)
      have HK := Lib.hid hkk
      clear hkk
      go_wp2_with fail
      refine (mix_any _ _ (u64_nat hm) h256 _).mono ?_
      rintro e w' ⟨rfl, rfl⟩
      rw [HK.out, Int.toNat_natCast, show (256 : Int).toNat = 256 from rfl]
      have hS := mixN_lt (mixL 0 t.data.toList) 256
      have e0 := sumL_nil t.data.toList
      have e1 := sumL_parts t.data.toList l
      have e2 := twoN_eq t.data.toList 3 4
      have e3 : chainI t.data.toList 5 1 = mixN (sumL t.data.toList []) 5 := chainI_nat t.data.toList 5 1 (by omega)
      generalize mixN (mixL 0 t.data.toList) 256 = S at *
      have E0 := Lib.hid e0
      have E1 := Lib.hid e1
      have E2 := Lib.hid e2
      have E3 := Lib.hid e3
      clear e0 e1 e2 e3
      go_wp2_with fail
      go_loop [5, 8] (fun v i => ∃ j : Nat, j ≤ l.length ∧ i = .int .i64 j ∧ v = .int .u64 (mixL S (l.take j) : Nat)) (fun _ i => l.length - (intOf i).toNat)
      case atStart => exact ⟨0, Nat.zero_le _, rfl, rfl⟩
      case round =>
        obtain ⟨j, hj, rfl, rfl⟩ := hrel
        have hm2 := mixL_lt S (l.take j) hS
        by_cases hjl : j < l.length
        · have hsn : mixL S (l.take (j + 1)) = mixN (mixL S (l.take j)) l[j].toNat := by rw [List.take_succ_eq_append_getElem hjl, mixL_snoc]
          have HS := Lib.hid hsn
          have hc := l[j].toNat_lt
          clear hsn
          obtain ⟨ad, rfl, hbl, hcell⟩ := hr1 j (by simpa using hjl)
          rw [byteV_get] at hcell
          go_wp2_with (go_at_call 9; refine (mix_any _ _ (u64_nat hm2) (u64_byte _) _).mono ?_; rintro e w' ⟨rfl, rfl⟩)
          go_round
          case rel => exact ⟨j + 1, by omega, by go_num, by rw [HS.out]⟩
          case measure => simp [intOf]; omega
        · have hjj : l.take j = l := List.take_of_length_le (by omega)
          rw [hjj] at hm2 ⊢
          clear hjj
          go_wp2_with fail
          refine (mix_any _ _ (u64_nat hm2) (u64_size (by omega)) _).mono ?_
          rintro e w' ⟨rfl, rfl⟩
          rw [Int.toNat_natCast, Int.toNat_natCast, ← E1.out]
          have x1 := sumL_lt t.data.toList l
          go_wp2_with fail
          refine (mix_any _ _ (u64_nat hS) ⟨by omega, by omega⟩ _).mono ?_
          rintro e w' ⟨rfl, rfl⟩
          rw [Int.toNat_natCast, show (0 : Int).toNat = 0 from rfl, ← E0.out]
          have x2 := sumL_lt t.data.toList []
          go_wp2_with fail
          have hcv : ∀ W : World, Rd W w.heap.size A (l.map byteV) → (convert 23 9 (.slice A l.length c)).run Try.prog W = .ok (.string ⟨l.toArray⟩) W := fun W h => conv_back W _ _ _ _ _ _ _ _ rfl Try.underlying23 Try.underlying5 Try.underlying9 h
          have C3 := Lib.hid (fun W h => sum_any t A c w.heap.size l ht (by omega) W h)
          have C4 := Lib.hid (fun W => sum_any t none 0 0 [] ht (by simp) W (Rd.nil_ _ _ _))
          have C5 := Lib.hid (fun W => of_any t ⟨l.toArray⟩ ht hle W)
          have C7 := Lib.hid (fun W => two_any t 3 4 ht ⟨by omega, by omega⟩ ⟨by omega, by omega⟩ W)
          have C9 := Lib.hid (fun W => chain_any t 5 1 ht ⟨by omega, by omega⟩ (by omega) (by omega) W)
          rw [show (⟨l.toArray⟩ : ByteArray).data.toList = l by simp] at C5
          have x3 := mixN_lt (sumL t.data.toList []) 3
          have x4 := mixN_lt (mixN (sumL t.data.toList []) 3) 4
          have x5 := mixN_lt (sumL t.data.toList []) 5
          have C10 := Lib.hid (fun W => mix_any (sumL t.data.toList [] : Nat) 3 (u64_nat x2) ⟨by omega, by omega⟩ W)
          have C11 := Lib.hid (fun W => mix_any (mixN (sumL t.data.toList []) 3 : Nat) 4 (u64_nat x3) ⟨by omega, by omega⟩ W)
          have C12 := Lib.hid (fun W => mix_any (sumL t.data.toList [] : Nat) 5 (u64_nat x2) ⟨by omega, by omega⟩ W)
          rw [Int.toNat_natCast] at C10 C11 C12
          have HC := Lib.hid hcv
          clear hcv
          rw [show (3 : Int).toNat = 3 from rfl, show (4 : Int).toNat = 4 from rfl, E2.out] at C7
          rw [show (5 : Int).toNat = 5 from rfl, E3.out] at C9
          rw [show (3 : Int).toNat = 3 from rfl] at C10
          rw [show (4 : Int).toNat = 4 from rfl] at C11
          rw [show (5 : Int).toNat = 5 from rfl] at C12
          clear E0 E1 E2 E3
          generalize hX4 : mixN (mixN (sumL t.data.toList []) 3) 4 = X4 at C7 C11 x4
          generalize hX3 : mixN (sumL t.data.toList []) 3 = X3 at C10 C11 x3
          generalize mixN (sumL t.data.toList []) 5 = X5 at C9 C12 x5
          generalize sumL t.data.toList l = X1 at C3 C5 x1 ⊢
          clear hX4 hX3
          generalize sumL t.data.toList [] = X2 at C4 C10 C12 x2 ⊢
          have hcv1 := HC.out w1 hr1
          generalize Value.slice A l.length c = v at hcv1 C3 ⊢
          refine (C3.out _ hr1).mono ?_
          rintro e w' ⟨rfl, rfl⟩
          go_wp2_with (first
            | (go_at_call 13; refine (C5.out _).mono ?_; rintro e w' ⟨rfl, rfl⟩)
            | (go_at_call 11; refine (C4.out _).mono ?_; rintro e w' ⟨rfl, rfl⟩))
          refine (C7.out _).mono ?_; rintro e w' ⟨rfl, rfl⟩
          go_wp2_with fail
          refine (C10.out _).mono ?_; rintro e w' ⟨rfl, rfl⟩
          go_wp2_with fail
          refine (C11.out _).mono ?_; rintro e w' ⟨rfl, rfl⟩
          go_wp2_with fail
          refine (C9.out _).mono ?_; rintro e w' ⟨rfl, rfl⟩
          go_wp2_with fail
          refine (C12.out _).mono ?_; rintro e w' ⟨rfl, rfl⟩
          go_wp2_with fail
          go_ret
          exact ⟨rfl, hb1⟩
end Go.Proofs.Ytpifebpfegjmpaa
