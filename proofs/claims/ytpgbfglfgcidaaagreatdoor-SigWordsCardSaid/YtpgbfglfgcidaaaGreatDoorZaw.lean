/- field.Num, field.ParseNum. -/
import Derived.Test.YtpgbfglfgcidaaaGreatDoorZap
import Derived.Test.YtpgbfglfgcidaaaGreatDoorZau
import Derived.Laws.MakeOwn
namespace Go.Proofs.YtpgbfglfgcidaaaGreatDoor
set_option linter.unusedSimpArgs false
set_option linter.unusedVariables false
open Go.RowKit
set_option linter.unusedVariables false
def txtV (l : List UInt8) : Value := .string ⟨l.toArray⟩
theorem below_bytes (w : World) (e : TypeId) (t : ByteArray) : Below w.heap.size w (Lib.bytesWorld w e t) :=
  ⟨rfl, rfl, rfl, by rw [Lib.bytesWorld_size]; omega, fun i hi => Lib.bytesWorld_at_old w e t i hi⟩
set_option maxRecDepth 100000 in
theorem num_ok (n : Int) (h0 : -9223372036854775808 ≤ n) (h1 : n ≤ 9223372036854775807) (w : World) (hs : Std w) :
    Calls Tryz.prog 56 #[.int .i64 n] w fun e w' => e = .returned (.string ⟨(Lib.itoa n).toArray⟩) ∧ Grew w w' := by
  have CF := Lib.hid (Tryz.strconv_FormatInt_10 n h0 h1 w hs.tab)
  clear hs
  go_enter Tryz.func56, Tryz.ntmps56
  go_wp2_with (first | (go_at_call 93; refine (CF.out).mono ?_; rintro e w' ⟨rfl, k, os, hw⟩))
  go_ret
  exact ⟨rfl, Lib.below_grow _ _ (Nat.le_refl _) _ _⟩
set_option maxRecDepth 100000 in
theorem parseNum_ok (s : ByteArray) (hz : s.size ≤ 281474976710656) (w : World) (hs : Std w) :
    Calls Tryz.prog 87 #[.string s] w fun e w' => e = .returned (.tuple #[.int .i64 (pnum s.data.toList).1, .int .i64 (pnum s.data.toList).2]) ∧ Grew w w' := by
  have hmx : s.size ≤ 9223372036854775806 := by omega
  have cN := isnum_ok s (by omega) w
  by_cases hN : isNumB s.data.toList = true
  · rw [hN] at cN
    have hp := parse_form hN
    by_cases hI : inI64 (nval s.data.toList) = true
    · rw [pnum_ok hN hI]
      rw [if_pos hI] at hp
      have CP := Lib.hid (Tryz.strconv_ParseInt_10_at64_ok s hmx _ hp w)
      have CN := Lib.hid cN
      clear cN hp hN hI hs
      generalize nval s.data.toList = v at *
      go_enter Tryz.func87, Tryz.ntmps87
      go_wp2_with (first
        | (go_at_call 106; refine (CN.out).mono ?_; rintro e w' ⟨rfl, hw⟩; have hw := hw.symm; subst hw)
        | (go_at_call 107; refine (CP.out).mono ?_; rintro e w' ⟨rfl, hw⟩))
      go_ret2
      refine ⟨rfl, ?_⟩
      rcases hw with rfl | ⟨t, rfl⟩
      · exact Below.refl _ _
      · exact below_bytes w 5 t
    · have hI : inI64 (nval s.data.toList) = false := by simpa using hI
      rw [pnum_long hN hI]
      rw [if_neg (by simp [hI])] at hp
      obtain ⟨ev, hv, hev⟩ := hs.rng
      have CP := Lib.hid (Tryz.strconv_ParseInt_10_at64_range s hz hp ev w hv hev)
      have CN := Lib.hid cN
      clear cN hp hN hI hs hv hev
      go_enter Tryz.func87, Tryz.ntmps87
      go_wp2_with (first
        | (go_at_call 106; refine (CN.out).mono ?_; rintro e w' ⟨rfl, hw⟩; have hw := hw.symm; subst hw)
        | (go_at_call 107; refine (CP.out).mono ?_; rintro e w' ⟨N, rfl, hN1, hN2, hN3⟩))
      go_ret2
      exact ⟨rfl, hN3⟩
  · have hN : isNumB s.data.toList = false := by simpa using hN
    rw [pnum_form hN]
    rw [hN] at cN
    have CN := Lib.hid cN
    clear cN hN hs
    go_enter Tryz.func87, Tryz.ntmps87
    go_wp2_with (first
      | (go_at_call 106; refine (CN.out).mono ?_; rintro e w' ⟨rfl, hw⟩; have hw := hw.symm; subst hw))
    go_ret2
    exact ⟨rfl, Below.refl _ _⟩
def in64 (n : Int) : Prop := -9223372036854775808 ≤ n ∧ n ≤ 9223372036854775807
def numS (n : Int) : ByteArray := ⟨(Lib.itoa n).toArray⟩
theorem num_at (n : Int) (h : in64 n) (w : World) (hs : Std w) : Calls Tryz.prog 56 #[.int .i64 n] w fun e w' => e = .returned (.string (numS n)) ∧ Grew w w' := num_ok n h.1 h.2 w hs
end Go.Proofs.YtpgbfglfgcidaaaGreatDoor

namespace Go.Proofs.YtpgbfglfgcidaaaGreatDoor
set_option linter.unusedSimpArgs false
set_option linter.unusedVariables false
open Go.RowKit
set_option linter.unusedVariables false
end Go.Proofs.YtpgbfglfgcidaaaGreatDoor
