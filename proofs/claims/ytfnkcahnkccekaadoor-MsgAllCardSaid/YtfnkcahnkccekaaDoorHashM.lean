/- Plain mathematics of the document's digests (chapter 2): numbers modulo 2^64 as natural numbers. -/
import Derived.WalkKit
namespace Go.Proofs.YtfnkcahnkccekaaDoor
open Go.RowKit

def M64 : Nat := 18446744073709551616
def rnd (x : Nat) : Nat := (x ^^^ x / 4294967296) * 15485907386658061715 % 18446744073709551616
/-- Mix, reckoned -/
def mixC (a b : Nat) : Nat :=
  let x := rnd (rnd (a ^^^ (b * 11400714819323198485 % 18446744073709551616)))
  x ^^^ x / 4294967296
/-- Mix, as a name that nothing opens: 'mixN_eq' says what it is -/
theorem mix_is : ∃ f : Nat → Nat → Nat, f = mixC := ⟨_, rfl⟩
noncomputable def mixN : Nat → Nat → Nat := Classical.choose mix_is
theorem mixN_eq : mixN = mixC := Classical.choose_spec mix_is
noncomputable def mixL (h : Nat) (l : List UInt8) : Nat := l.foldl (fun h c => mixN h c.toNat) h
noncomputable def sumL (tag b : List UInt8) : Nat := mixN (mixL (mixN (mixL 0 tag) 256) b) b.length
noncomputable def twoN (tag : List UInt8) (a b : Nat) : Nat := mixN (mixN (sumL tag []) a) b
noncomputable def chainN (s : Nat) (x : Nat) : Nat → Nat
  | 0 => x
  | n + 1 => mixN s (chainN s x n)
noncomputable def chainI (tag : List UInt8) (x : Nat) (n : Int) : Nat := chainN (sumL tag []) x (min n 255).toNat

/-- a number of 64 bits -/
def U64 (a : Int) : Prop := 0 ≤ a ∧ a < 18446744073709551616

theorem rnd_lt (x : Nat) : rnd x < 18446744073709551616 := Nat.mod_lt _ (by decide)
theorem xor_lt64 {a b : Nat} (ha : a < 18446744073709551616) (hb : b < 18446744073709551616) : a ^^^ b < 18446744073709551616 :=
  Nat.xor_lt_two_pow (n := 64) ha hb
theorem mixN_lt (a b : Nat) : mixN a b < 18446744073709551616 := by
  rw [mixN_eq]
  unfold mixC
  have h := rnd_lt (rnd (a ^^^ (b * 11400714819323198485 % 18446744073709551616)))
  exact xor_lt64 h (Nat.lt_of_le_of_lt (Nat.div_le_self _ _) h)
theorem u64_mixN (a b : Nat) : U64 (mixN a b : Int) := ⟨by omega, by have := mixN_lt a b; omega⟩
theorem u64_nat {n : Nat} (h : n < 18446744073709551616) : U64 (n : Int) := ⟨by omega, by omega⟩
theorem u64_byte (c : UInt8) : U64 (c.toNat : Int) := ⟨by omega, by have := c.toNat_lt; omega⟩

/-- what the walk leaves of one round -/
theorem rnd_int (x : Nat) (hx : x < 18446744073709551616) :
    IntKind.u64.wrap (bits .xor .u64 (x : Int) ((x : Int) / 4294967296) * 15485907386658061715) = ((rnd x : Nat) : Int) := by
  have h := mixStep_u64 x 4294967296 15485907386658061715 hx
  simp only [Int.cast_ofNat_Int] at h
  exact h
theorem fin_int (x : Nat) (hx : x < 18446744073709551616) :
    bits .xor .u64 (x : Int) ((x : Int) / 4294967296) = ((x ^^^ x / 4294967296 : Nat) : Int) := by
  have h := xorShift_u64 x 4294967296 hx
  simp only [Int.cast_ofNat_Int] at h
  exact h
theorem beg_int (a b : Nat) (ha : a < 18446744073709551616) :
    bits .xor .u64 (a : Int) (IntKind.u64.wrap ((b : Int) * 11400714819323198485)) = ((a ^^^ (b * 11400714819323198485 % 18446744073709551616) : Nat) : Int) := by
  rw [IntKind.wrap_u64]
  have : ((b : Int) * 11400714819323198485) % 18446744073709551616 = ((b * 11400714819323198485 % 18446744073709551616 : Nat) : Int) := by
    rw [Int.natCast_emod, Int.natCast_mul]; simp only [Int.cast_ofNat_Int]
  rw [this]
  exact bits_xor_u64_nat _ _ ha (Nat.mod_lt _ (by decide))

theorem foldl_snoc {α β : Type} (f : α → β → α) (h : α) (l : List β) (c : β) : (l ++ [c]).foldl f h = f (l.foldl f h) c := by simp
theorem foldl_keep {α β : Type} (P : α → Prop) (f : α → β → α) (hf : ∀ a b, P (f a b)) (l : List β) : ∀ h, P h → P (l.foldl f h) := by
  induction l with
  | nil => intro h hh; exact hh
  | cons c l ih => intro h _; exact ih _ (hf _ _)
theorem mixL_snoc (h : Nat) (l : List UInt8) (c : UInt8) : mixL h (l ++ [c]) = mixN (mixL h l) c.toNat :=
  foldl_snoc (fun h (c : UInt8) => mixN h c.toNat) h l c
theorem mixL_lt (h : Nat) (l : List UInt8) (hh : h < 18446744073709551616) : mixL h l < 18446744073709551616 :=
  foldl_keep (· < 18446744073709551616) (fun h (c : UInt8) => mixN h c.toNat) (fun _ _ => mixN_lt _ _) l h hh
theorem u64_mixL (h : Nat) (l : List UInt8) (hh : h < 18446744073709551616) : U64 (mixL h l : Nat) := u64_nat (mixL_lt h l hh)
theorem u64_size {n : Nat} (h : n ≤ 4611686018427387904) : U64 (n : Int) := ⟨by omega, by omega⟩
theorem sumL_lt (t b : List UInt8) : sumL t b < 18446744073709551616 := mixN_lt _ _
theorem twoN_lt (t : List UInt8) (a b : Nat) : twoN t a b < 18446744073709551616 := mixN_lt _ _
theorem chainN_lt (s x n : Nat) (hx : x < 18446744073709551616) : chainN s x n < 18446744073709551616 := by
  cases n with
  | zero => exact hx
  | succ n => exact mixN_lt _ _
theorem mixN_of (a b x y z : Nat) (h1 : x = rnd (a ^^^ (b * 11400714819323198485 % 18446744073709551616))) (h2 : y = rnd x) (h3 : z = y ^^^ y / 4294967296) : mixN a b = z := by
  rw [mixN_eq, h3, h2, h1]
  rfl
theorem sumL_eq (t b : List UInt8) (n : Nat) (h : b.length = n) : sumL t b = mixN (mixL (mixN (mixL 0 t) 256) b) n := by subst h; rfl
theorem twoN_eq (t : List UInt8) (a b : Nat) : twoN t a b = mixN (mixN (sumL t []) a) b := rfl
theorem chainN_succ (s x n : Nat) : chainN s x (n + 1) = mixN s (chainN s x n) := rfl
theorem chainI_nat (t : List UInt8) (x : Nat) (n : Nat) (h : n ≤ 255) : chainI t x n = chainN (sumL t []) x n := by
  unfold chainI
  rw [show (min (n : Int) 255).toNat = n by omega]
theorem chainI_big (t : List UInt8) (x : Nat) (n : Int) (h : 255 ≤ n) : chainI t x n = chainN (sumL t []) x 255 := by
  unfold chainI
  rw [show (min n 255).toNat = 255 by omega]
theorem chainI_low (t : List UInt8) (x : Nat) (n : Int) (h : n ≤ 0) : chainI t x n = x := by
  unfold chainI
  rw [show (min n 255).toNat = 0 by omega]
  rfl
theorem chainI_lt (t : List UInt8) (x : Nat) (n : Int) (hx : x < 18446744073709551616) : chainI t x n < 18446744073709551616 := chainN_lt _ _ _ hx
theorem take_snoc (s : ByteArray) (k : Nat) (h : k < s.size) : s.data.toList.take (k + 1) = s.data.toList.take k ++ [s[k]] := by
  rw [List.take_succ_eq_append_getElem (by simpa using h)]; rfl
def mixLC (h : Nat) (l : List UInt8) : Nat := l.foldl (fun h c => mixC h c.toNat) h
def sumC (tag b : List UInt8) : Nat := mixC (mixLC (mixC (mixLC 0 tag) 256) b) b.length
theorem mixL_C (h : Nat) (l : List UInt8) : mixL h l = mixLC h l := by unfold mixL mixLC; rw [mixN_eq]
theorem sumL_C (t b : List UInt8) : sumL t b = sumC t b := by unfold sumL sumC; rw [mixL_C, mixL_C, mixN_eq]
theorem mixN_00 : mixN 0 0 = 0 := by rw [mixN_eq]; decide +kernel
theorem sum_differs : sumL [97, 98] [] ≠ sumL [97] [98] := by rw [sumL_C, sumL_C]; decide +kernel
theorem chainN_add (s x m n : Nat) : chainN s (chainN s x m) n = chainN s x (m + n) := by
  induction n with
  | zero => rfl
  | succ n ih => rw [chainN_succ, ih, Nat.add_succ, chainN_succ]
theorem chainI_add (t : List UInt8) (x : Nat) (m n : Int) (hm : 0 ≤ m) (hm' : m ≤ 127) (hn : 0 ≤ n) (hn' : n ≤ 127) : chainI t (chainI t x m) n = chainI t x (m + n) := by
  obtain ⟨m, rfl⟩ := Int.eq_ofNat_of_zero_le hm
  obtain ⟨n, rfl⟩ := Int.eq_ofNat_of_zero_le hn
  rw [chainI_nat t x m (by omega), chainI_nat t _ n (by omega), chainN_add, show ((m : Int) + (n : Int)) = ((m + n : Nat) : Int) by omega, chainI_nat t x (m + n) (by omega)]
theorem chainI_255 (t : List UInt8) (x : Nat) (n : Int) (hn : 0 ≤ n) : chainI t x (255 + n) = chainI t x 255 := by
  rw [chainI_big t x (255 + n) (by omega), chainI_big t x 255 (by omega)]
end Go.Proofs.YtfnkcahnkccekaaDoor
