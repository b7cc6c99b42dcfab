/- Contracts of package merkle: the count of leaves. -/
import Derived.Test.YtlhjkgohojcbpaaHash
import Derived.Test.YtlhjkgohojcbpaaArr
namespace Go.Proofs.Ytlhjkgohojcbpaa
open Go.RowKit
set_option linter.unusedVariables false
def tagMt : List UInt8 := [109, 116]
theorem mtwo_any (a b : Int) (ha : U64 a) (hb : U64 b) (w : World) :
    Calls Try.prog 55 #[.int .u64 a, .int .u64 b] w fun e w' => e = .returned (.int .u64 (twoN tagMt a.toNat b.toNat : Nat)) ∧ w = w' := by
  go_enter Try.func55, Try.ntmps55
  go_wp2_with fail
  refine (two_any ⟨#[109, 116]⟩ a b (by decide) ha hb _).mono ?_
  rintro e w' ⟨rfl, rfl⟩
  go_wp2_with fail
  go_ret
  exact ⟨rfl, rfl⟩
def on1 (n : Int) : Int := IntKind.u64.wrap (bits .and .u64 (n / 2) 6148914691236517205 + bits .and .u64 n 6148914691236517205)
def on2 (n : Int) : Int := IntKind.u64.wrap (bits .and .u64 (n / 4) 3689348814741910323 + bits .and .u64 n 3689348814741910323)
def on3 (n : Int) : Int := bits .and .u64 (IntKind.u64.wrap (n / 16 + n)) 1085102592571150095
def on4 (n : Int) : Int := IntKind.u64.wrap (n + n / 256)
def on5 (n : Int) : Int := IntKind.u64.wrap (n + n / 65536)
def on6 (n : Int) : Int := IntKind.u64.wrap (n + n / 4294967296)
def onesI (n : Int) : Int := bits .and .i64 (wrap64 (on6 (on5 (on4 (on3 (on2 (on1 n))))))) 127
def pow2B (n : Nat) : Bool := [1, 2, 4, 8, 16, 32, 64, 128, 256].contains n
theorem ones_small : ∀ n : Fin 257, (onesI ((n.val : Nat) : Int) == 1) = pow2B n.val := by decide +kernel
theorem ones_pow (n : Nat) (h : n ≤ 256) : (onesI (n : Int) == 1) = pow2B n := ones_small ⟨n, by omega⟩
theorem ones64_any (n : Int) (hn : U64 n) (w : World) :
    Calls Try.prog 62 #[.int .u64 n] w fun e w' => e = .returned (.int .i64 (onesI n)) ∧ w = w' := by
  unfold onesI
  have e1 : IntKind.u64.wrap (bits .and .u64 (n / 2) 6148914691236517205 + bits .and .u64 n 6148914691236517205) = on1 n := rfl
  generalize on1 n = x1 at e1 ⊢
  have e2 : IntKind.u64.wrap (bits .and .u64 (x1 / 4) 3689348814741910323 + bits .and .u64 x1 3689348814741910323) = on2 x1 := rfl
  generalize on2 x1 = x2 at e2 ⊢
  have e3 : bits .and .u64 (IntKind.u64.wrap (x2 / 16 + x2)) 1085102592571150095 = on3 x2 := rfl
  generalize on3 x2 = x3 at e3 ⊢
  have e4 : IntKind.u64.wrap (x3 + x3 / 256) = on4 x3 := rfl
  generalize on4 x3 = x4 at e4 ⊢
  have e5 : IntKind.u64.wrap (x4 + x4 / 65536) = on5 x4 := rfl
  generalize on5 x4 = x5 at e5 ⊢
  have e6 : IntKind.u64.wrap (x5 + x5 / 4294967296) = on6 x5 := rfl
  generalize on6 x5 = x6 at e6 ⊢
  go_enter Try.func62, Try.ntmps62
  go_wp2_with fail
  go_ret
  exact ⟨rfl, rfl⟩
theorem ones_any (n : Int) (hn : U64 n) (w : World) :
    Calls Try.prog 60 #[.int .u64 n] w fun e w' => e = .returned (.int .i64 (onesI n)) ∧ w = w' := by
  have C := Lib.hid (ones64_any n hn)
  generalize onesI n = y at *
  go_enter Try.func60, Try.ntmps60
  go_wp2_with fail
  refine (C.out _).mono ?_
  rintro e w' ⟨rfl, rfl⟩
  go_wp2_with fail
  go_ret
  exact ⟨rfl, rfl⟩
/-- a tree may have so many leaves -/
def leavesOk (n : Nat) : Bool := pow2B n
theorem leaves_le (n : Nat) (h : leavesOk n = true) : 1 ≤ n ∧ n ≤ 256 := by
  unfold leavesOk pow2B at h
  simp at h
  omega
theorem count_any (n : Nat) (hn : n < 9223372036854775808) (w : World) :
    Calls Try.prog 53 #[.int .i64 n] w fun e w' => e = .returned (.int .i64 (if leavesOk n then 0 else 1)) ∧ w = w' := by
  by_cases h : n ≤ 256
  · have C := Lib.hid (ones_any n ⟨by omega, by omega⟩)
    have hp := ones_pow n h
    have h' : ¬ (256 < (n : Int)) := by omega
    unfold leavesOk
    generalize onesI (n : Int) = y at *
    cases hb : pow2B n with
    | true =>
      rw [hb] at hp
      go_enter Try.func53, Try.ntmps53
      go_wp2_with (go_at_call 60; refine (C.out _).mono ?_; rintro e w' ⟨rfl, rfl⟩)
      go_ret
      exact ⟨rfl, rfl⟩
    | false =>
      rw [hb] at hp
      go_enter Try.func53, Try.ntmps53
      go_wp2_with (go_at_call 60; refine (C.out _).mono ?_; rintro e w' ⟨rfl, rfl⟩)
      go_ret
      exact ⟨rfl, rfl⟩
  · have hf : leavesOk n = false := by
      cases hb : leavesOk n with
      | false => rfl
      | true => have := leaves_le n hb; omega
    have h' : 256 < (n : Int) := by omega
    rw [hf]
    go_enter Try.func53, Try.ntmps53
    go_wp2_with fail
    go_ret
    exact ⟨rfl, rfl⟩
end Go.Proofs.Ytlhjkgohojcbpaa
