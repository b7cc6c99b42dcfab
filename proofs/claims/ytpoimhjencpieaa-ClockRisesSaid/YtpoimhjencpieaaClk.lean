/- Contracts of the two clocks: the program's and the document's. -/
import Derived.Test.YtpoimhjencpieaaProg
import Derived.Test.YtpoimhjencpieaaTurn
import Derived.StillTailTactics
import Derived.IntWalk
namespace Go.Proofs.Ytpoimhjencpieaa
open Go.RowKit
set_option linter.unusedVariables false
def clkC (a f : Int) : Array Value := #[.int .i64 a, .int .i64 f]
/-- the time that is issued -/
def isst (a f : Int) : Int := if f + 1 < a then a else f + 1
theorem cnew_no (a : Int) (h : a < 0 ∨ 1099511627776 < a) (w : World) :
    Calls Try.prog 54 #[.int .i64 a] w fun e w' => e = .returned (.tuple #[.pointer none, .int .i64 1]) ∧ w = w' := by
  rcases h with h | h
  · go_enter Try.func54, Try.ntmps54
    go_wp2_with fail
    go_ret2
    exact ⟨rfl, rfl⟩
  · have h0 : ¬ a < 0 := by omega
    go_enter Try.func54, Try.ntmps54
    go_wp2_with fail
    go_ret2
    exact ⟨rfl, rfl⟩
theorem cnew_ok (a : Int) (h0 : 0 ≤ a) (h : a ≤ 1099511627776) (w : World) :
    Calls Try.prog 54 #[.int .i64 a] w fun e w' => e = .returned (.tuple #[.pointer (some ⟨w.heap.size, 0, none⟩), .int .i64 0]) ∧ Grew w w' ∧ Bk w' w.heap.size 124 (clkC a 0) ∧ w.heap.size < w'.heap.size := by
  go_enter Try.func54, Try.ntmps54
  go_wp2_with fail
  go_ret2
  exact ⟨rfl, (Below.refl _ _).alloc (Nat.le_refl _) _, Bk.new _ _ _, by simp⟩

theorem ctick_no (g : Nat) (a f n : Int) (h : n < 0 ∨ 1099511627776 - a < n) (ha : 0 ≤ a ∧ a ≤ 1099511627776) (w : World) (hb : Bk w g 124 (clkC a f)) :
    Calls Try.prog 58 #[.pointer (some ⟨g, 0, none⟩), .int .i64 n] w fun e w' => e = .returned (.int .i64 1) ∧ Tn g w w' ∧ Bk w' g 124 (clkC a f) := by
  have hc : w.cell? ⟨g, 0, none⟩ = some (.int .i64 a) := hb.cell 0
  have hf := hb.frozen 0
  rcases h with h | h
  · go_enter Try.func58, Try.ntmps58
    go_wp2_with fail
    go_ret
    exact ⟨rfl, tn_refl _ _, hb⟩
  · by_cases h0 : n < 0
    · go_enter Try.func58, Try.ntmps58
      go_wp2_with fail
      go_ret
      exact ⟨rfl, tn_refl _ _, hb⟩
    · go_enter Try.func58, Try.ntmps58
      go_wp2_with fail
      go_ret
      exact ⟨rfl, tn_refl _ _, hb⟩
theorem ctick_ok (g : Nat) (a f n : Int) (h0 : 0 ≤ n) (h : n ≤ 1099511627776 - a) (ha : 0 ≤ a ∧ a ≤ 1099511627776) (w : World) (hb : Bk w g 124 (clkC a f)) :
    Calls Try.prog 58 #[.pointer (some ⟨g, 0, none⟩), .int .i64 n] w fun e w' => e = .returned (.int .i64 0) ∧ Tn g w w' ∧ Bk w' g 124 (clkC (a + n) f) := by
  have hc : w.cell? ⟨g, 0, none⟩ = some (.int .i64 a) := hb.cell 0
  have hf := hb.frozen 0
  go_enter Try.func58, Try.ntmps58
  go_wp2_with fail
  go_ret
  exact ⟨rfl, tn_set (tn_refl _ _) (.inl rfl) _, hb.set_ 0 _⟩

theorem craise_no (g : Nat) (a f n : Int) (h : n ≤ f) (w : World) (hb : Bk w g 124 (clkC a f)) :
    Calls Try.prog 61 #[.pointer (some ⟨g, 0, none⟩), .int .i64 n] w fun e w' => e = .returned (.bool false) ∧ Tn g w w' ∧ Bk w' g 124 (clkC a f) := by
  have hc : w.cell? ⟨g, 1, none⟩ = some (.int .i64 f) := hb.cell 1
  have hf := hb.frozen 1
  go_enter Try.func61, Try.ntmps61
  go_wp2_with fail
  go_ret
  exact ⟨rfl, tn_refl _ _, hb⟩
theorem craise_ok (g : Nat) (a f n : Int) (h : f < n) (w : World) (hb : Bk w g 124 (clkC a f)) :
    Calls Try.prog 61 #[.pointer (some ⟨g, 0, none⟩), .int .i64 n] w fun e w' => e = .returned (.bool true) ∧ Tn g w w' ∧ Bk w' g 124 (clkC a n) := by
  have hc : w.cell? ⟨g, 1, none⟩ = some (.int .i64 f) := hb.cell 1
  have hf := hb.frozen 1
  go_enter Try.func61, Try.ntmps61
  go_wp2_with fail
  go_ret
  exact ⟨rfl, tn_set (tn_refl _ _) (.inl rfl) _, hb.set_ 1 _⟩

theorem cissue_no (g : Nat) (a f : Int) (h : 1099511627776 ≤ f) (w : World) (hb : Bk w g 124 (clkC a f)) :
    Calls Try.prog 56 #[.pointer (some ⟨g, 0, none⟩)] w fun e w' => e = .returned (.tuple #[.int .i64 0, .int .i64 4]) ∧ Tn g w w' ∧ Bk w' g 124 (clkC a f) := by
  have hc : w.cell? ⟨g, 1, none⟩ = some (.int .i64 f) := hb.cell 1
  go_enter Try.func56, Try.ntmps56
  go_wp2_with fail
  go_ret2
  exact ⟨rfl, tn_refl _ _, hb⟩

theorem rnew_no (a : Int) (h : a < 0 ∨ 1099511627776 < a) (w : World) :
    Calls Try.prog 55 #[.int .i64 a] w fun e w' => e = .returned (.tuple #[.pointer none, .int .i64 1]) ∧ w = w' := by
  rcases h with h | h
  · go_enter Try.func55, Try.ntmps55
    go_wp2_with fail
    go_ret2
    exact ⟨rfl, rfl⟩
  · have h0 : ¬ a < 0 := by omega
    go_enter Try.func55, Try.ntmps55
    go_wp2_with fail
    go_ret2
    exact ⟨rfl, rfl⟩
theorem rnew_ok (a : Int) (h0 : 0 ≤ a) (h : a ≤ 1099511627776) (w : World) :
    Calls Try.prog 55 #[.int .i64 a] w fun e w' => e = .returned (.tuple #[.pointer (some ⟨w.heap.size, 0, none⟩), .int .i64 0]) ∧ Grew w w' ∧ Bk w' w.heap.size 99 (clkC a 0) ∧ w.heap.size < w'.heap.size := by
  go_enter Try.func55, Try.ntmps55
  go_wp2_with fail
  go_ret2
  exact ⟨rfl, (Below.refl _ _).alloc (Nat.le_refl _) _, Bk.new _ _ _, by simp⟩

theorem rtick_no (g : Nat) (a f n : Int) (h : n < 0 ∨ 1099511627776 - a < n) (ha : 0 ≤ a ∧ a ≤ 1099511627776) (w : World) (hb : Bk w g 99 (clkC a f)) :
    Calls Try.prog 59 #[.pointer (some ⟨g, 0, none⟩), .int .i64 n] w fun e w' => e = .returned (.int .i64 1) ∧ Tn g w w' ∧ Bk w' g 99 (clkC a f) := by
  have hc : w.cell? ⟨g, 0, none⟩ = some (.int .i64 a) := hb.cell 0
  have hf := hb.frozen 0
  rcases h with h | h
  · go_enter Try.func59, Try.ntmps59
    go_wp2_with fail
    go_ret
    exact ⟨rfl, tn_refl _ _, hb⟩
  · by_cases h0 : n < 0
    · go_enter Try.func59, Try.ntmps59
      go_wp2_with fail
      go_ret
      exact ⟨rfl, tn_refl _ _, hb⟩
    · go_enter Try.func59, Try.ntmps59
      go_wp2_with fail
      go_ret
      exact ⟨rfl, tn_refl _ _, hb⟩
theorem rtick_ok (g : Nat) (a f n : Int) (h0 : 0 ≤ n) (h : n ≤ 1099511627776 - a) (ha : 0 ≤ a ∧ a ≤ 1099511627776) (w : World) (hb : Bk w g 99 (clkC a f)) :
    Calls Try.prog 59 #[.pointer (some ⟨g, 0, none⟩), .int .i64 n] w fun e w' => e = .returned (.int .i64 0) ∧ Tn g w w' ∧ Bk w' g 99 (clkC (a + n) f) := by
  have hc : w.cell? ⟨g, 0, none⟩ = some (.int .i64 a) := hb.cell 0
  have hf := hb.frozen 0
  go_enter Try.func59, Try.ntmps59
  go_wp2_with fail
  go_ret
  exact ⟨rfl, tn_set (tn_refl _ _) (.inl rfl) _, hb.set_ 0 _⟩

theorem rraise_no (g : Nat) (a f n : Int) (h : n ≤ f) (w : World) (hb : Bk w g 99 (clkC a f)) :
    Calls Try.prog 60 #[.pointer (some ⟨g, 0, none⟩), .int .i64 n] w fun e w' => e = .returned (.bool false) ∧ Tn g w w' ∧ Bk w' g 99 (clkC a f) := by
  have hc : w.cell? ⟨g, 1, none⟩ = some (.int .i64 f) := hb.cell 1
  have hf := hb.frozen 1
  go_enter Try.func60, Try.ntmps60
  go_wp2_with fail
  go_ret
  exact ⟨rfl, tn_refl _ _, hb⟩
theorem rraise_ok (g : Nat) (a f n : Int) (h : f < n) (w : World) (hb : Bk w g 99 (clkC a f)) :
    Calls Try.prog 60 #[.pointer (some ⟨g, 0, none⟩), .int .i64 n] w fun e w' => e = .returned (.bool true) ∧ Tn g w w' ∧ Bk w' g 99 (clkC a n) := by
  have hc : w.cell? ⟨g, 1, none⟩ = some (.int .i64 f) := hb.cell 1
  have hf := hb.frozen 1
  go_enter Try.func60, Try.ntmps60
  go_wp2_with fail
  go_ret
  exact ⟨rfl, tn_set (tn_refl _ _) (.inl rfl) _, hb.set_ 1 _⟩

theorem rissue_no (g : Nat) (a f : Int) (h : 1099511627776 ≤ f) (w : World) (hb : Bk w g 99 (clkC a f)) :
    Calls Try.prog 57 #[.pointer (some ⟨g, 0, none⟩)] w fun e w' => e = .returned (.tuple #[.int .i64 0, .int .i64 4]) ∧ Tn g w w' ∧ Bk w' g 99 (clkC a f) := by
  have hc : w.cell? ⟨g, 1, none⟩ = some (.int .i64 f) := hb.cell 1
  go_enter Try.func57, Try.ntmps57
  go_wp2_with fail
  go_ret2
  exact ⟨rfl, tn_refl _ _, hb⟩

theorem rissue_ok (g : Nat) (a f : Int) (h : f < 1099511627776) (hf0 : -9223372036854775808 ≤ f) (ha : 0 ≤ a ∧ a ≤ 1099511627776) (w : World) (hb : Bk w g 99 (clkC a f)) :
    Calls Try.prog 57 #[.pointer (some ⟨g, 0, none⟩)] w fun e w' => e = .returned (.tuple #[.int .i64 (isst a f), .int .i64 0]) ∧ Tn g w w' ∧ Bk w' g 99 (clkC a (isst a f)) := by
  have hc0 : w.cell? ⟨g, 0, none⟩ = some (.int .i64 a) := hb.cell 0
  have hc : w.cell? ⟨g, 1, none⟩ = some (.int .i64 f) := hb.cell 1
  have hf := hb.frozen 1
  unfold isst
  by_cases hx : f + 1 < a
  · rw [if_pos hx]
    have hn : ¬ a ≤ f := by omega
    go_enter Try.func57, Try.ntmps57
    go_wp2_with fail
    go_ret2
    exact ⟨rfl, tn_set (tn_refl _ _) (.inl rfl) _, hb.set_ 1 _⟩
  · rw [if_neg hx]
    by_cases hn : a ≤ f
    · go_enter Try.func57, Try.ntmps57
      go_wp2_with fail
      go_ret2
      exact ⟨rfl, tn_set (tn_refl _ _) (.inl rfl) _, hb.set_ 1 _⟩
    · have e := show a = f + 1 by omega
      subst e
      go_enter Try.func57, Try.ntmps57
      go_wp2_with fail
      go_ret2
      exact ⟨rfl, tn_set (tn_refl _ _) (.inl rfl) _, hb.set_ 1 _⟩

theorem greater_any (a b : Int) (w : World) :
    Calls Try.prog 76 #[.int .i64 a, .int .i64 b] w fun e w' => e = .returned (.int .i64 (if b < a then a else b)) ∧ w = w' := by
  by_cases h : b < a
  · rw [if_pos h]
    go_enter Try.func76, Try.ntmps76
    go_wp2_with fail
    go_ret
    exact ⟨rfl, rfl⟩
  · rw [if_neg h]
    go_enter Try.func76, Try.ntmps76
    go_wp2_with fail
    go_ret
    exact ⟨rfl, rfl⟩
set_option maxRecDepth 100000 in
theorem cissue_ok (g : Nat) (a f : Int) (h : f < 1099511627776) (hf0 : -9223372036854775808 ≤ f) (ha : 0 ≤ a ∧ a ≤ 1099511627776) (w : World) (hb : Bk w g 124 (clkC a f)) :
    Calls Try.prog 56 #[.pointer (some ⟨g, 0, none⟩)] w fun e w' => e = .returned (.tuple #[.int .i64 (isst a f), .int .i64 0]) ∧ Tn g w w' ∧ Bk w' g 124 (clkC a (isst a f)) := by
  have hc0 : w.cell? ⟨g, 0, none⟩ = some (.int .i64 a) := hb.cell 0
  have hc : w.cell? ⟨g, 1, none⟩ = some (.int .i64 f) := hb.cell 1
  have hf := hb.frozen 1
  have C0 : ∀ W, Calls Try.prog 76 #[.int .i64 a, .int .i64 (IntKind.i64.wrap (f + 1))] W fun e w' => e = .returned (.int .i64 (isst a f)) ∧ w' = W := fun W => by
    rw [show IntKind.i64.wrap (f + 1) = f + 1 from IntWalk.i64_in _ (by omega)]
    exact (greater_any a (f + 1) W).mono fun _ _ h => And.intro h.1 h.2.symm
  have C := Lib.hid C0
  clear C0
  generalize isst a f = y at *
  go_enter Try.func56, Try.ntmps56
  go_wp2_with fail
  refine wp_region_still_tail 13 (by kernel_rfl) (by kernel_rfl) ?_
  simp only [List.take_succ_cons, List.take_zero, List.drop_succ_cons, List.drop_zero]
  change wpStill _ _ w.drew _ _ _
  repeat (first | still_step | still_call (C.out _))
  refine wpStill_nil ?_
  change wpList _ _ _ _ _ w.drew
  go_wp2_with fail
  go_ret2
  exact ⟨rfl, tn_set (tn_drew (tn_refl _ _)) (.inl rfl) _, hb.drew.set_ 1 _⟩

theorem cnow_any (g : Nat) (a f : Int) (w : World) (hb : Bk w g 124 (clkC a f)) :
    Calls Try.prog 63 #[.pointer (some ⟨g, 0, none⟩)] w fun e w' => e = .returned (.int .i64 a) ∧ w = w' := by
  have hc : w.cell? ⟨g, 0, none⟩ = some (.int .i64 a) := hb.cell 0
  go_enter Try.func63, Try.ntmps63
  go_wp2_with fail
  go_ret
  exact ⟨rfl, rfl⟩

theorem cfloor_any (g : Nat) (a f : Int) (w : World) (hb : Bk w g 124 (clkC a f)) :
    Calls Try.prog 64 #[.pointer (some ⟨g, 0, none⟩)] w fun e w' => e = .returned (.int .i64 f) ∧ w = w' := by
  have hc : w.cell? ⟨g, 1, none⟩ = some (.int .i64 f) := hb.cell 1
  go_enter Try.func64, Try.ntmps64
  go_wp2_with fail
  go_ret
  exact ⟨rfl, rfl⟩

theorem ctwin_any (g : Nat) (a f : Int) (w : World) (hb : Bk w g 124 (clkC a f)) :
    Calls Try.prog 62 #[.pointer (some ⟨g, 0, none⟩)] w fun e w' => e = .returned (.pointer (some ⟨w.heap.size, 0, none⟩)) ∧ Grew w w' ∧ Bk w' w.heap.size 124 (clkC a f) ∧ w.heap.size < w'.heap.size := by
  have hc0 : w.cell? ⟨g, 0, none⟩ = some (.int .i64 a) := hb.cell 0
  have hc : w.cell? ⟨g, 1, none⟩ = some (.int .i64 f) := hb.cell 1
  go_enter Try.func62, Try.ntmps62
  go_wp2_with fail
  go_ret
  exact ⟨rfl, (Below.refl _ _).alloc (Nat.le_refl _) _, Bk.new _ _ _, by simp⟩

end Go.Proofs.Ytpoimhjencpieaa
