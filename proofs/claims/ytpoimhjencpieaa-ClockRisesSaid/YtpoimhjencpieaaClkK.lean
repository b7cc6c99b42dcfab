/- The clocks: contracts without cases; what is known. -/
import Derived.Test.YtpoimhjencpieaaClk
namespace Go.Proofs.Ytpoimhjencpieaa
open Go.RowKit
set_option linter.unusedVariables false
theorem cissue_to (g : Nat) (a f x : Int) (hx : isst a f = x) (h : f < 1099511627776) (hf0 : -9223372036854775808 ≤ f) (ha : 0 ≤ a ∧ a ≤ 1099511627776) (w : World) (hb : Bk w g 124 (clkC a f)) :
    Calls Try.prog 56 #[.pointer (some ⟨g, 0, none⟩)] w fun e w' => e = .returned (.tuple #[.int .i64 x, .int .i64 0]) ∧ Tn g w w' ∧ Bk w' g 124 (clkC a x) := by
  subst hx
  exact cissue_ok g a f h hf0 ha w hb
def tkE (a n : Int) : Int := if n < 0 ∨ 1099511627776 - a < n then 1 else 0
def tkA (a n : Int) : Int := if n < 0 ∨ 1099511627776 - a < n then a else a + n
theorem tkA_range (a n : Int) (ha : 0 ≤ a ∧ a ≤ 1099511627776) : 0 ≤ tkA a n ∧ tkA a n ≤ 1099511627776 := by
  unfold tkA; split <;> omega
theorem ctick_any (g : Nat) (a f n : Int) (ha : 0 ≤ a ∧ a ≤ 1099511627776) (w : World) (hb : Bk w g 124 (clkC a f)) :
    Calls Try.prog 58 #[.pointer (some ⟨g, 0, none⟩), .int .i64 n] w fun e w' => e = .returned (.int .i64 (tkE a n)) ∧ Tn g w w' ∧ Bk w' g 124 (clkC (tkA a n) f) := by
  unfold tkE tkA
  by_cases h : n < 0 ∨ 1099511627776 - a < n
  · rw [if_pos h, if_pos h]; exact ctick_no g a f n h ha w hb
  · rw [if_neg h, if_neg h]; exact ctick_ok g a f n (by omega) (by omega) ha w hb
theorem rtick_any (g : Nat) (a f n : Int) (ha : 0 ≤ a ∧ a ≤ 1099511627776) (w : World) (hb : Bk w g 99 (clkC a f)) :
    Calls Try.prog 59 #[.pointer (some ⟨g, 0, none⟩), .int .i64 n] w fun e w' => e = .returned (.int .i64 (tkE a n)) ∧ Tn g w w' ∧ Bk w' g 99 (clkC (tkA a n) f) := by
  unfold tkE tkA
  by_cases h : n < 0 ∨ 1099511627776 - a < n
  · rw [if_pos h, if_pos h]; exact rtick_no g a f n h ha w hb
  · rw [if_neg h, if_neg h]; exact rtick_ok g a f n (by omega) (by omega) ha w hb
def isE (f : Int) : Int := if 1099511627776 ≤ f then 4 else 0
def isX (a f : Int) : Int := if 1099511627776 ≤ f then 0 else isst a f
def isF (a f : Int) : Int := if 1099511627776 ≤ f then f else isst a f
theorem cissue_any (g : Nat) (a f : Int) (hf0 : -9223372036854775808 ≤ f) (ha : 0 ≤ a ∧ a ≤ 1099511627776) (w : World) (hb : Bk w g 124 (clkC a f)) :
    Calls Try.prog 56 #[.pointer (some ⟨g, 0, none⟩)] w fun e w' => e = .returned (.tuple #[.int .i64 (isX a f), .int .i64 (isE f)]) ∧ Tn g w w' ∧ Bk w' g 124 (clkC a (isF a f)) := by
  unfold isE isX isF
  by_cases h : 1099511627776 ≤ f
  · rw [if_pos h, if_pos h, if_pos h]; exact cissue_no g a f h w hb
  · rw [if_neg h, if_neg h, if_neg h]; exact cissue_ok g a f (by omega) hf0 ha w hb
theorem rissue_any (g : Nat) (a f : Int) (hf0 : -9223372036854775808 ≤ f) (ha : 0 ≤ a ∧ a ≤ 1099511627776) (w : World) (hb : Bk w g 99 (clkC a f)) :
    Calls Try.prog 57 #[.pointer (some ⟨g, 0, none⟩)] w fun e w' => e = .returned (.tuple #[.int .i64 (isX a f), .int .i64 (isE f)]) ∧ Tn g w w' ∧ Bk w' g 99 (clkC a (isF a f)) := by
  unfold isE isX isF
  by_cases h : 1099511627776 ≤ f
  · rw [if_pos h, if_pos h, if_pos h]; exact rissue_no g a f h w hb
  · rw [if_neg h, if_neg h, if_neg h]; exact rissue_ok g a f (by omega) hf0 ha w hb
def rsB (f n : Int) : Bool := decide (f < n)
def rsF (f n : Int) : Int := if f < n then n else f
theorem craise_any (g : Nat) (a f n : Int) (w : World) (hb : Bk w g 124 (clkC a f)) :
    Calls Try.prog 61 #[.pointer (some ⟨g, 0, none⟩), .int .i64 n] w fun e w' => e = .returned (.bool (rsB f n)) ∧ Tn g w w' ∧ Bk w' g 124 (clkC a (rsF f n)) := by
  unfold rsB rsF
  by_cases h : f < n
  · rw [if_pos h, decide_eq_true h]; exact craise_ok g a f n h w hb
  · rw [if_neg h, decide_eq_false h]; exact craise_no g a f n (by omega) w hb
theorem rraise_any (g : Nat) (a f n : Int) (w : World) (hb : Bk w g 99 (clkC a f)) :
    Calls Try.prog 60 #[.pointer (some ⟨g, 0, none⟩), .int .i64 n] w fun e w' => e = .returned (.bool (rsB f n)) ∧ Tn g w w' ∧ Bk w' g 99 (clkC a (rsF f n)) := by
  unfold rsB rsF
  by_cases h : f < n
  · rw [if_pos h, decide_eq_true h]; exact rraise_ok g a f n h w hb
  · rw [if_neg h, decide_eq_false h]; exact rraise_no g a f n (by omega) w hb
set_option maxRecDepth 100000 in
theorem ckknown_any (w : World) : Calls Try.prog 53 #[] w fun e w' => e = .returned (.bool true) ∧ Grew w w' := by
  go_enter Try.func53, Try.ntmps53
  go_wp2_with fail
  refine (cnew_ok 5 (by omega) (by omega) _).mono ?_
  rintro e w1 ⟨rfl, hb1, hk1, hl1⟩
  go_wp2_with fail
  refine (cnew_no (-1) (.inl (by omega)) _).mono ?_
  rintro e w' ⟨rfl, rfl⟩
  go_wp2_with fail
  refine (cissue_to w.heap.size 5 0 5 (by decide) (by omega) (by omega) (by omega) _ hk1).mono ?_
  rintro e w2 ⟨rfl, ht2, hk2⟩
  go_wp2_with fail
  refine (cissue_to w.heap.size 5 5 6 (by decide) (by omega) (by omega) (by omega) _ hk2).mono ?_
  rintro e w3 ⟨rfl, ht3, hk3⟩
  go_wp2_with fail
  refine (ctick_ok w.heap.size 5 6 10 (by omega) (by omega) (by omega) _ hk3).mono ?_
  rintro e w4 ⟨rfl, ht4, hk4⟩
  go_wp2_with fail
  refine (cissue_to w.heap.size 15 6 15 (by decide) (by omega) (by omega) (by omega) _ hk4).mono ?_
  rintro e w5 ⟨rfl, ht5, hk5⟩
  go_wp2_with fail
  refine (craise_ok w.heap.size 15 15 100 (by omega) _ hk5).mono ?_
  rintro e w6 ⟨rfl, ht6, hk6⟩
  go_wp2_with fail
  refine (craise_no w.heap.size 15 100 50 (by omega) _ hk6).mono ?_
  rintro e w7 ⟨rfl, ht7, hk7⟩
  go_wp2_with fail
  refine (cissue_to w.heap.size 15 100 101 (by decide) (by omega) (by omega) (by omega) _ hk7).mono ?_
  rintro e w8 ⟨rfl, ht8, hk8⟩
  go_wp2_with fail
  have hl8 := hk8.lt
  refine (ctwin_any w.heap.size 15 101 _ hk8).mono ?_
  rintro e w9 ⟨rfl, hb9, hk9, hl9⟩
  have hk9' := hk8.grew hb9
  go_wp2_with fail
  refine (cnow_any w.heap.size 15 101 _ hk9').mono ?_
  rintro e w' ⟨rfl, rfl⟩
  go_wp2_with fail
  refine (cfloor_any w.heap.size 15 101 _ hk9').mono ?_
  rintro e w' ⟨rfl, rfl⟩
  go_wp2_with fail
  refine (cfloor_any w8.heap.size 15 101 _ hk9).mono ?_
  rintro e w' ⟨rfl, rfl⟩
  go_wp2_with fail
  refine (ctick_no w.heap.size 15 101 (-1) (.inl (by omega)) (by omega) _ hk9').mono ?_
  rintro e w10 ⟨rfl, ht10, hk10⟩
  go_wp2_with fail
  go_ret
  have z1 := hb1.size
  have z2 := tn_size ht2
  have z3 := tn_size ht3
  have z4 := tn_size ht4
  have z5 := tn_size ht5
  have z6 := tn_size ht6
  have z7 := tn_size ht7
  have z8 := tn_size ht8
  have z9 := hb9.size
  have b2 := below_tn hb1 ht2 (by omega) (by omega)
  have b3 := below_tn b2 ht3 (by omega) (by omega)
  have b4 := below_tn b3 ht4 (by omega) (by omega)
  have b5 := below_tn b4 ht5 (by omega) (by omega)
  have b6 := below_tn b5 ht6 (by omega) (by omega)
  have b7 := below_tn b6 ht7 (by omega) (by omega)
  have b8 := below_tn b7 ht8 (by omega) (by omega)
  have b9 := grew_trans b8 hb9
  exact ⟨rfl, below_tn b9 ht10 (by omega) (by omega)⟩
end Go.Proofs.Ytpoimhjencpieaa
