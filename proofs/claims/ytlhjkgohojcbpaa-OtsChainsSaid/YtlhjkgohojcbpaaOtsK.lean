/- What is known of the one-time signatures. -/
import Derived.Test.YtlhjkgohojcbpaaOtsR
namespace Go.Proofs.Ytlhjkgohojcbpaa
open Go.RowKit
set_option linter.unusedVariables false
theorem rec_sign (s : Nat → Nat) (d : Nat) : recN (signF s d) d = pubN s := by
  refine foldN_congr _ _ _ fun k _ => ?_
  show chainI tagOt (chainI tagOt (s k) (digK d k : Nat)) ((15 - digK d k : Nat) : Int) = chainI tagOt (s k) ((15 : Nat) : Int)
  have h := digK_le d k
  rw [chainI_add _ _ _ _ (by omega) (by omega) (by omega) (by omega)]
  congr 1
  omega
def twoC (t : List UInt8) (a b : Nat) : Nat := mixC (mixC (sumC t []) a) b
def chainC (s x : Nat) : Nat → Nat
  | 0 => x
  | n + 1 => mixC s (chainC s x n)
def foldC (f : Nat → Nat) : Nat → Nat
  | 0 => 0
  | k + 1 => twoC tagPk (foldC f k) (f k)
theorem twoN_C (t : List UInt8) (a b : Nat) : twoN t a b = twoC t a b := by unfold twoN twoC; rw [mixN_eq, sumL_C]
theorem chainN_C (s x n : Nat) : chainN s x n = chainC s x n := by
  induction n with
  | zero => rfl
  | succ n ih => rw [chainN_succ, ih, mixN_eq]; rfl
theorem chainI_C (t : List UInt8) (x n : Nat) (h : n ≤ 255) : chainI t x n = chainC (sumC t []) x n := by rw [chainI_nat t x n h, chainN_C, sumL_C]
theorem foldN_C (f : Nat → Nat) (n : Nat) : foldN f n = foldC f n := by
  induction n with
  | zero => rfl
  | succ n ih => rw [foldN_succ, ih, twoN_C]; rfl
theorem sec_C (k : Nat) (h : k < 18) : secN 7 3 k = twoC tagSk 7 (96 + k) := by
  unfold secN
  rw [twoN_C]
  congr 1
  show (((32 * 3 + (k : Int)) % 18446744073709551616)).toNat = 96 + k
  omega
set_option maxRecDepth 20000 in
theorem sec_differ : secN 7 3 0 ≠ secN 7 3 1 := by
  rw [sec_C 0 (by decide), sec_C 1 (by decide)]
  decide +kernel
def recC : Nat := foldC (fun k => chainC (sumC tagOt []) (chainC (sumC tagOt []) (twoC tagSk 7 (96 + k)) (digK 5 k)) (15 - digK 6 k)) 18
def pubC : Nat := foldC (fun k => chainC (sumC tagOt []) (twoC tagSk 7 (96 + k)) 15) 18
set_option maxRecDepth 20000 in
theorem recC_ne : recC ≠ pubC := by decide +kernel
theorem foldC_congr (f g : Nat → Nat) (n : Nat) (h : ∀ k, k < n → f k = g k) : foldC f n = foldC g n := by
  induction n with
  | zero => rfl
  | succ n ih => simp only [foldC]; rw [ih fun k hk => h k (by omega), h n (by omega)]
theorem rec_ne : recN (signF (secN 7 3) 5) 6 ≠ pubN (secN 7 3) := by
  have h1 : recN (signF (secN 7 3) 5) 6 = recC := by
    unfold recN
    rw [foldN_C]
    refine foldC_congr _ _ _ fun k hk => ?_
    show chainI tagOt (chainI tagOt (secN 7 3 k) (digK 5 k : Nat)) ((15 - digK 6 k : Nat) : Int) = _
    have := digK_le 5 k
    rw [chainI_C _ _ _ (by omega), chainI_C _ _ _ (by omega), sec_C k hk]
  have h2 : pubN (secN 7 3) = pubC := by
    unfold pubN
    rw [foldN_C]
    refine foldC_congr _ _ _ fun k hk => ?_
    show chainI tagOt (secN 7 3 k) ((15 : Nat) : Int) = _
    rw [chainI_C _ _ _ (by omega), sec_C k hk]
  rw [h1, h2]
  exact recC_ne
theorem secN_lt (a b : Int) (k : Nat) : secN a b k < 18446744073709551616 := twoN_lt _ _ _
theorem signF_lt (s : Nat → Nat) (d k : Nat) (h : s k < 18446744073709551616) : signF s d k < 18446744073709551616 := chainI_lt _ _ _ h
end Go.Proofs.Ytlhjkgohojcbpaa
