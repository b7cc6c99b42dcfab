/- Trees: what 'known' asks. -/
import Derived.Test.YtlhjkgohojcbpaaMkG
namespace Go.Proofs.Ytlhjkgohojcbpaa
open Go.RowKit
set_option linter.unusedVariables false
theorem Rd.take_ {w : World} {B : Nat} {A : Option Addr} {l : List Nat} (h : Rd w B A (u64L l)) (n : Nat) : Rd w B A (u64L (l.take n)) := by
  intro k hk
  have hk' : k < l.length := by simp [u64L] at hk; omega
  obtain ⟨ad, h1, h2, h3⟩ := h k (by simpa [u64L] using hk')
  exact ⟨ad, h1, h2, by rw [h3]; simp [u64L]⟩
def two2C (a b : Nat) : Nat := mixC (mixC (sumC tagMt []) a) b
theorem two2_C (a b : Nat) : twoN tagMt a b = two2C a b := by unfold twoN two2C; rw [mixN_eq, sumL_C]
noncomputable def kA : Nat := twoN tagMt 1 2
noncomputable def kR : Nat := twoN tagMt kA (twoN tagMt 3 4)
theorem k_root : rootN [1, 2, 3, 4] = kR := by
  rw [rootN_step _ (by simp) (by simp), show upL [1, 2, 3, 4] = [kA, twoN tagMt 3 4] from rfl, rootN_step _ (by simp) (by simp), show upL [kA, twoN tagMt 3 4] = [kR] from rfl, rootN_one]
theorem k_path : pathN [1, 2, 3, 4] 2 = [4, kA] := by
  rw [pathN_step _ _ (by simp) (by simp), show upL [1, 2, 3, 4] = [kA, twoN tagMt 3 4] from rfl, pathN_step _ _ (by simp) (by simp), show upL [kA, twoN tagMt 3 4] = [kR] from rfl, pathN_one]
  rfl
theorem k_yes : climbN 3 2 [4, kA] = kR := rfl
theorem k_no1 : climbN 3 3 [4, kA] ≠ kR := by
  show twoN tagMt kA (twoN tagMt 4 3) ≠ twoN tagMt kA (twoN tagMt 3 4)
  unfold kA
  rw [two2_C, two2_C, two2_C, two2_C, two2_C]
  decide +kernel
theorem k_no2 : climbN 2 2 [4, kA] ≠ kR := by
  show twoN tagMt kA (twoN tagMt 2 4) ≠ twoN tagMt kA (twoN tagMt 3 4)
  unfold kA
  rw [two2_C, two2_C, two2_C, two2_C, two2_C]
  decide +kernel
theorem k_ver1 : verN kR 3 2 [4, kA] = true := by rw [verN_yes (by decide)]; exact beq_iff_eq.2 k_yes
theorem k_ver2 : verN kR 3 3 [4, kA] = false := by rw [verN_yes (by decide)]; exact beq_eq_false_iff_ne.2 k_no1
theorem k_ver3 : verN kR 2 2 [4, kA] = false := by rw [verN_yes (by decide)]; exact beq_eq_false_iff_ne.2 k_no2
set_option maxRecDepth 100000 in
set_option maxHeartbeats 1000000 in
theorem mkknown_any (w : World) : Calls Try.prog 29 #[] w fun e w' => e = .returned (.bool true) ∧ Grew w w' := by
  have hR : kR < 18446744073709551616 := twoN_lt _ _ _
  have hA : kA < 18446744073709551616 := twoN_lt _ _ _
  have hAR : twoN tagMt kA (twoN tagMt 3 4) = kR := rfl
  have hA1 : twoN tagMt 1 2 = kA := rfl
  have v1 := k_ver1
  have v2 := k_ver2
  have v3 := k_ver3
  have v4 := k_yes
  have p1 := k_root
  have p2 := k_path
  have hB := twoN_lt tagMt 3 4
  generalize kR = R at *
  generalize kA = S at *
  generalize hQ : twoN tagMt 3 4 = Q at *
  have C1 := Lib.hid (fun W => two_any ⟨#[109, 116]⟩ 1 2 (by decide) ⟨by omega, by omega⟩ ⟨by omega, by omega⟩ W)
  have C2 := Lib.hid (fun W => two_any ⟨#[109, 116]⟩ 3 4 (by decide) ⟨by omega, by omega⟩ ⟨by omega, by omega⟩ W)
  have C3 := Lib.hid (fun W => two_any ⟨#[109, 116]⟩ (S : Int) (Q : Int) (by decide) (u64_nat hA) (u64_nat hB) W)
  rw [show (⟨#[109, 116]⟩ : ByteArray).data.toList = tagMt from rfl] at C1 C2 C3
  rw [show (1 : Int).toNat = 1 from rfl, show (2 : Int).toNat = 2 from rfl, hA1] at C1
  rw [show (3 : Int).toNat = 3 from rfl, show (4 : Int).toNat = 4 from rfl, hQ] at C2
  rw [Int.toNat_natCast, Int.toNat_natCast, hAR] at C3
  have V1 := Lib.hid v1
  have V2 := Lib.hid v2
  have V3 := Lib.hid v3
  have V4 := Lib.hid v4
  have P1 := Lib.hid p1
  have P2 := Lib.hid p2
  clear v1 v2 v3 v4 p1 p2 hQ hAR hA1
  go_enter Try.func29, Try.ntmps29
  go_wp2_with fail
  have hr : Rd (w.alloc (.cells #[.int .u64 1, .int .u64 2, .int .u64 3, .int .u64 4] 24)) (w.heap.size + 1) (some ⟨w.heap.size, 0, none⟩) (u64L [1, 2, 3, 4]) := rd_new w 24 #[.int .u64 1, .int .u64 2, .int .u64 3, .int .u64 4] (0, 0)
  have hb0 : Grew w (w.alloc (.cells #[.int .u64 1, .int .u64 2, .int .u64 3, .int .u64 4] 24)) := (Below.refl _ _).alloc (Nat.le_refl _) _
  have hsz : (w.alloc (.cells #[.int .u64 1, .int .u64 2, .int .u64 3, .int .u64 4] 24)).heap.size = w.heap.size + 1 := by simp
  generalize w.alloc (.cells #[.int .u64 1, .int .u64 2, .int .u64 3, .int .u64 4] 24) = w0 at *
  rw [← hsz] at hr
  clear hsz
  have hlt : ∀ n ∈ [1, 2, 3, 4], n < 18446744073709551616 := by decide
  have h13 : leavesOk ([1, 2, 3, 4].take 3).length = false := by decide
  have h11 : leavesOk ([1, 2, 3, 4].take 1).length = true := by decide
  have HL := Lib.hid hlt
  have H13 := Lib.hid h13
  have H11 := Lib.hid h11
  have HR := Lib.hid hr
  clear hlt h13 h11 hr
  refine (root_ok (some ⟨w.heap.size, 0, none⟩) 4 w0.heap.size [1, 2, 3, 4] (by decide) (by decide) HL.out _ HR.out (Nat.le_refl _)).mono ?_
  rintro e w1 ⟨rfl, hb1⟩
  have HR1 := Lib.hid (HR.out.below hb1)
  rw [P1.out]
  go_wp2_with fail
  refine (path_ok (some ⟨w.heap.size, 0, none⟩) 4 w0.heap.size [1, 2, 3, 4] 2 (by decide) (by decide) (by decide) HL.out _ HR1.out hb1.size).mono ?_
  rintro e w2 ⟨Ap, cp, rfl, hrp, _, hb2⟩
  rw [P2.out] at hrp ⊢
  have hb12 := grew_trans hb1 hb2
  have HR2 := Lib.hid (HR.out.below hb12)
  go_wp2_with fail
  refine (root_no (some ⟨w.heap.size, 0, none⟩) 4 ([1, 2, 3, 4].take 3) (by decide) H13.out _).mono ?_
  rintro e w' ⟨rfl, rfl⟩
  go_wp2_with fail
  refine (path_no (some ⟨w.heap.size, 0, none⟩) 4 [1, 2, 3, 4] 4 (by decide) (by decide) (.inr (.inr (by decide))) _).mono ?_
  rintro e w' ⟨rfl, rfl⟩
  go_wp2_with fail
  refine (root_ok (some ⟨w.heap.size, 0, none⟩) 4 w0.heap.size ([1, 2, 3, 4].take 1) (by decide) H11.out (by decide) _ (HR2.out.take_ 1) hb12.size).mono ?_
  rintro e w3 ⟨rfl, hb3⟩
  rw [show [1, 2, 3, 4].take 1 = [1] from rfl, rootN_one]
  have hrp3 := (hrp.below hb3)
  obtain ⟨ad, rfl, hbl, hc⟩ := rd_u64 hrp3 0 (by simp)
  have hc : w3.cell? ad = some (.int .u64 4) := by simpa [Addr.add] using hc
  have HP := Lib.hid hrp3
  clear hrp hrp3
  go_wp2_with fail
  refine (C1.out _).mono ?_
  rintro e w' ⟨rfl, rfl⟩
  go_wp2_with fail
  refine (C2.out _).mono ?_
  rintro e w' ⟨rfl, rfl⟩
  go_wp2_with fail
  refine (C3.out _).mono ?_
  rintro e w' ⟨rfl, rfl⟩
  go_wp2_with fail
  have hlS : ∀ n ∈ [4, S], n < 18446744073709551616 := by
    intro n hn
    simp at hn
    rcases hn with rfl | rfl
    · decide
    · exact hA
  have HLS := Lib.hid hlS
  clear hlS
  refine (ver_any R 3 2 (some ad) cp w2.heap.size [4, S] (by simp) (by omega) (by decide) HLS.out _ HP.out).mono ?_
  rintro e w' ⟨rfl, rfl⟩
  rw [V1.out]
  go_wp2_with fail
  refine (ver_any R 3 3 (some ad) cp w2.heap.size [4, S] (by simp) (by omega) (by decide) HLS.out _ HP.out).mono ?_
  rintro e w' ⟨rfl, rfl⟩
  rw [V2.out]
  go_wp2_with fail
  refine (ver_any R 2 2 (some ad) cp w2.heap.size [4, S] (by simp) (by omega) (by decide) HLS.out _ HP.out).mono ?_
  rintro e w' ⟨rfl, rfl⟩
  rw [V3.out]
  go_wp2_with fail
  refine (climb_any 3 2 (some ad) cp w2.heap.size [4, S] (by decide) (by simp) (by decide) HLS.out _ HP.out).mono ?_
  rintro e w' ⟨rfl, rfl⟩
  rw [V4.out]
  go_wp2_with fail
  go_ret
  exact ⟨rfl, grew_trans hb0 (grew_trans hb12 hb3)⟩
end Go.Proofs.Ytlhjkgohojcbpaa
