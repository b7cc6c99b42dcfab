/- field.Num, field.ParseNum. -/
import Derived.Test.YtaeopobofmpioaaGreatDoorZar
import Derived.Test.YtaeopobofmpioaaGreatDoorZaw
import Derived.WalkKit
import Derived.Test.YtaeopobofmpioaaGreatDoorProg
import Derived.Test.YtaeopobofmpioaaGreatDoorZac
import Derived.Laws.MakeOwn
namespace Go.Proofs.YtaeopobofmpioaaGreatDoor
set_option linter.unusedSimpArgs false
set_option linter.unusedVariables false
open Go.RowKit
set_option linter.unusedVariables false
theorem below_bytes (w : World) (e : TypeId) (t : ByteArray) : Below w.heap.size w (Lib.bytesWorld w e t) :=
  ⟨rfl, rfl, rfl, by rw [Lib.bytesWorld_size]; omega, fun i hi => Lib.bytesWorld_at_old w e t i hi⟩
set_option maxRecDepth 100000 in
theorem num_ok (n : Int) (h0 : -9223372036854775808 ≤ n) (h1 : n ≤ 9223372036854775807) (w : World) (hs : Std w) :
    Calls Tryz.prog 38 #[.int .i64 n] w fun e w' => e = .returned (.string ⟨(Lib.itoa n).toArray⟩) ∧ Grew w w' := by
  have CF := Lib.hid (Tryz.strconv_FormatInt_10 n h0 h1 w hs.tab)
  clear hs
  go_enter Tryz.func38, Tryz.ntmps38
  go_wp2_with (first | (go_at_call 105; refine (CF.out).mono ?_; rintro e w' ⟨rfl, k, os, hw⟩))
  go_ret
  exact ⟨rfl, Lib.below_grow _ _ (Nat.le_refl _) _ _⟩
set_option maxRecDepth 100000 in
theorem parseNum_ok (s : ByteArray) (hz : s.size ≤ 281474976710656) (w : World) (hs : Std w) :
    Calls Tryz.prog 85 #[.string s] w fun e w' => e = .returned (.tuple #[.int .i64 (pnum s.data.toList).1, .int .i64 (pnum s.data.toList).2]) ∧ Grew w w' := by
  have hmx : s.size ≤ 9223372036854775806 := by omega
  have cN := isnum_ok s (by omega) w
  by_cases hN : isNumB s.data.toList = true
  · rw [hN] at cN
    have hp := parse_form hN
    by_cases hI : inI64 (nval s.data.toList) = true
    · rw [pnum_ok hN hI]
      rw [if_pos hI] at hp
      have CP := Lib.hid (Tryz.strconv_ParseInt_10_at64_ok s hmx _ hp w)
      have CN := Lib.hid cN
      clear cN hp hN hI hs
      generalize nval s.data.toList = v at *
      go_enter Tryz.func85, Tryz.ntmps85
      go_wp2_with (first
        | (go_at_call 139; refine (CN.out).mono ?_; rintro e w' ⟨rfl, hw⟩; have hw := hw.symm; subst hw)
        | (go_at_call 140; refine (CP.out).mono ?_; rintro e w' ⟨rfl, hw⟩))
      go_ret2
      refine ⟨rfl, ?_⟩
      rcases hw with rfl | ⟨t, rfl⟩
      · exact Below.refl _ _
      · exact below_bytes w 5 t
    · have hI : inI64 (nval s.data.toList) = false := by simpa using hI
      rw [pnum_long hN hI]
      rw [if_neg (by simp [hI])] at hp
      obtain ⟨ev, hv, hev⟩ := hs.rng
      have CP := Lib.hid (Tryz.strconv_ParseInt_10_at64_range s hz hp ev w hv hev)
      have CN := Lib.hid cN
      clear cN hp hN hI hs hv hev
      go_enter Tryz.func85, Tryz.ntmps85
      go_wp2_with (first
        | (go_at_call 139; refine (CN.out).mono ?_; rintro e w' ⟨rfl, hw⟩; have hw := hw.symm; subst hw)
        | (go_at_call 140; refine (CP.out).mono ?_; rintro e w' ⟨N, rfl, hN1, hN2, hN3⟩))
      go_ret2
      exact ⟨rfl, hN3⟩
  · have hN : isNumB s.data.toList = false := by simpa using hN
    rw [pnum_form hN]
    rw [hN] at cN
    have CN := Lib.hid cN
    clear cN hN hs
    go_enter Tryz.func85, Tryz.ntmps85
    go_wp2_with (first
      | (go_at_call 139; refine (CN.out).mono ?_; rintro e w' ⟨rfl, hw⟩; have hw := hw.symm; subst hw))
    go_ret2
    exact ⟨rfl, Below.refl _ _⟩
def in64 (n : Int) : Prop := -9223372036854775808 ≤ n ∧ n ≤ 9223372036854775807
end Go.Proofs.YtaeopobofmpioaaGreatDoor

namespace Go.Proofs.YtaeopobofmpioaaGreatDoor
set_option linter.unusedSimpArgs false
set_option linter.unusedVariables false
open Go.RowKit
structure Cm where
  cl : Int
  no : Int
  fr : Int
  tt : Int
  am : Int
  deriving DecidableEq
def Cm.l (c : Cm) : List Int := [c.cl, c.no, c.fr, c.tt, c.am]
def Cm.in (c : Cm) : Prop := ∀ x ∈ c.l, in64 x
def Cm.v (c : Cm) : Value := .agg #[.int .i64 c.cl, .int .i64 c.no, .int .i64 c.fr, .int .i64 c.tt, .int .i64 c.am]
def Cm.zero : Cm := ⟨0, 0, 0, 0, 0⟩
def okC (c : Cm) : Prop := 0 ≤ c.cl ∧ c.cl < 16 ∧ 0 ≤ c.no ∧ c.no ≤ 1048576 ∧ 0 ≤ c.fr ∧ c.fr < 16 ∧ 0 ≤ c.tt ∧ c.tt < 16 ∧ c.fr ≠ c.tt ∧ 1 ≤ c.am ∧ c.am ≤ 1099511627776
instance (c : Cm) : Decidable (okC c) := by unfold okC; infer_instance
def smallC (n : Int) : Prop := -2147483648 ≤ n ∧ n < 2147483648
instance (n : Int) : Decidable (smallC n) := by unfold smallC; infer_instance
end Go.Proofs.YtaeopobofmpioaaGreatDoor

namespace Go.Proofs.YtaeopobofmpioaaGreatDoor
set_option linter.unusedSimpArgs false
set_option linter.unusedVariables false
open Go.RowKit
set_option linter.unusedVariables false
set_option maxRecDepth 100000 in
theorem small_is (n : Int) (b : Bool) (h : decide (smallC n) = b) (w : World) : Calls Tryz.prog 90 #[.int .i64 n] w fun e w' => e = .returned (.bool b) ∧ w' = w := by
  by_cases h1 : -2147483648 ≤ n
  · by_cases h2 : n < 2147483648
    · skip
      have e : b = true := h.symm.trans (decide_eq_true (by unfold smallC; omega))
      subst e
      clear h
      go_enter Tryz.func90, Tryz.ntmps90
      go_wp2_with fail
      go_ret
      exact ⟨rfl, rfl⟩
    · skip
      have e : b = false := h.symm.trans (decide_eq_false (by unfold smallC; omega))
      subst e
      clear h
      go_enter Tryz.func90, Tryz.ntmps90
      go_wp2_with fail
      go_ret
      exact ⟨rfl, rfl⟩
  · skip
    have e : b = false := h.symm.trans (decide_eq_false (by unfold smallC; omega))
    subst e
    clear h
    go_enter Tryz.func90, Tryz.ntmps90
    go_wp2_with fail
    go_ret
    exact ⟨rfl, rfl⟩

end Go.Proofs.YtaeopobofmpioaaGreatDoor

namespace Go.Proofs.YtaeopobofmpioaaGreatDoor
set_option linter.unusedSimpArgs false
set_option linter.unusedVariables false
open Go.RowKit
set_option linter.unusedVariables false
end Go.Proofs.YtaeopobofmpioaaGreatDoor
