/- A key's calls, whatever they come to: the program's and the reference's in the same words. -/
import Derived.Test.YtpgbfglfgcidaaaGreatDoorZbi
import Derived.Test.YtpgbfglfgcidaaaGreatDoorZat
namespace Go.Proofs.YtpgbfglfgcidaaaGreatDoor
set_option linter.unusedSimpArgs false
set_option linter.unusedVariables false
open Go.RowKit
set_option linter.unusedVariables false
set_option linter.unusedSimpArgs false
section
variable (l : List Nat) (nx rs : Nat) (who sd d n : Int)
def soW : Int := if l.length ≤ nx then 0 else if rs ≤ nx then 0 else who
def soL : Int := if l.length ≤ nx then 0 else if rs ≤ nx then 0 else (nx : Int)
noncomputable def soS : Nat → Nat := if l.length ≤ nx then fun _ => 0 else if rs ≤ nx then fun _ => 0 else signF (secN sd nx) d.toNat
noncomputable def soP : List Nat := if l.length ≤ nx then [] else if rs ≤ nx then [] else pathN l nx
def soE : Int := if l.length ≤ nx then 14 else if rs ≤ nx then 16 else 0
def soN : Nat := if l.length ≤ nx then nx else if rs ≤ nx then nx else nx + 1
def reV : Int := if n < 1 then 0 else if (l.length : Int) - rs < n then 0 else (rs : Int) + n
def reE : Int := if n < 1 then 1 else if (l.length : Int) - rs < n then 14 else 0
def reR : Nat := if n < 1 then rs else if (l.length : Int) - rs < n then rs else rs + n.toNat
def skE : Int := if n < nx ∨ (l.length : Int) < n then 1 else 0
def skN : Nat := if n < nx ∨ (l.length : Int) < n then nx else n.toNat
def skR : Nat := if n < nx ∨ (l.length : Int) < n then rs else max rs n.toNat
end
theorem soN_le (l : List Nat) (nx rs : Nat) (h : nx ≤ l.length) : soN l nx rs ≤ l.length := by unfold soN; split <;> (try split) <;> omega
theorem reR_le (l : List Nat) (rs : Nat) (n : Int) (h : rs ≤ l.length) : reR l rs n ≤ l.length := by unfold reR; split <;> (try split) <;> omega
theorem skN_le (l : List Nat) (nx : Nat) (n : Int) (h : nx ≤ l.length) : skN l nx n ≤ l.length := by unfold skN; split <;> omega
theorem skR_le (l : List Nat) (nx rs : Nat) (n : Int) (h : rs ≤ l.length) : skR l nx rs n ≤ l.length := by unfold skR; split <;> omega
theorem soP_len (l : List Nat) (nx rs : Nat) (h : ∀ m, m < l.length → (pathN l m).length ≤ 8) : (soP l nx rs).length ≤ 8 := by
  unfold soP; split
  · simp
  · split
    · simp
    · exact h nx (by omega)
theorem rd_none (w : World) : Rd w w.heap.size none (u64L []) := fun k hk => absurd hk (by simp [u64L])
set_option maxRecDepth 100000 in
theorem ksign_any (b p : Nat) (who sd : Int) (l : List Nat) (nx rs : Nat) (hl : l.length ≤ 256) (hn : nx ≤ l.length) (hr : rs ≤ l.length) (d : Int) (hkk : leavesOk l.length = true) (hbb : ∀ n ∈ l, n < 18446744073709551616) (hsd : U64 sd) (hd : U64 d) (w : World) (h : KyAt w b p who sd l nx rs) :
    Calls Tryz.prog 12 #[.pointer (some ⟨b, 0, none⟩), .int .u64 d] w fun e w' => (∃ A c, e = .returned (.tuple #[.agg (sgC (soW l nx rs who) (soL l nx rs) (soS l nx rs sd d) (.slice A (soP l nx rs).length c)), .int .i64 (soE l nx rs)]) ∧ Rd w' w'.heap.size A (u64L (soP l nx rs)) ∧ (∀ ad, A = some ad → w.heap.size ≤ ad.block)) ∧ Tn b w w' ∧ KyAt w' b p who sd l (soN l nx rs) rs := by
  unfold soW soL soS soP soE soN
  by_cases h1 : l.length ≤ nx
  · simp only [if_pos h1]
    refine (sign_spent b p who sd l nx rs hl hn hr d (by omega) w h).mono ?_
    rintro e w' ⟨rfl, g⟩
    exact ⟨⟨none, 0, rfl, rd_none _, fun ad h => by cases h⟩, tn_grew g, h.grew g⟩
  · simp only [if_neg h1]
    by_cases h2 : rs ≤ nx
    · simp only [if_pos h2]
      refine (sign_state b p who sd l nx rs hl hn hr d (by omega) h2 w h).mono ?_
      rintro e w' ⟨rfl, g⟩
      exact ⟨⟨none, 0, rfl, rd_none _, fun ad h => by cases h⟩, tn_grew g, h.grew g⟩
    · simp only [if_neg h2]
      exact sign_ok b p who sd l nx rs hl hn hr d (by omega) (by omega) hkk hbb hsd hd w h
set_option maxRecDepth 100000 in
theorem rsign_all (b : Nat) (N : Nat → Prop) (hN : N b) (who sd hh : Int) (l : List Nat) (nx rs : Nat) (hl : l.length ≤ 256) (hn : nx ≤ l.length) (hr : rs ≤ l.length) (d : Int) (hkk : leavesOk l.length = true) (hbb : ∀ n ∈ l, n < 18446744073709551616) (hsd : U64 sd) (hd : U64 d) (w : World) (h : RkAt w b N who sd hh l nx rs) :
    Calls Tryz.prog 13 #[.pointer (some ⟨b, 0, none⟩), .int .u64 d] w fun e w' => (∃ A c, e = .returned (.tuple #[.agg (sgC (soW l nx rs who) (soL l nx rs) (soS l nx rs sd d) (.slice A (soP l nx rs).length c)), .int .i64 (soE l nx rs)]) ∧ Rd w' w'.heap.size A (u64L (soP l nx rs)) ∧ (∀ ad, A = some ad → w.heap.size ≤ ad.block)) ∧ Tn b w w' ∧ RkAt w' b N who sd hh l (soN l nx rs) rs := by
  unfold soW soL soS soP soE soN
  by_cases h1 : l.length ≤ nx
  · simp only [if_pos h1]
    refine (rsign_spent b N hN who sd hh l nx rs hl hn hr d (by omega) w h).mono ?_
    rintro e w' ⟨rfl, g⟩
    exact ⟨⟨none, 0, rfl, rd_none _, fun ad h => by cases h⟩, tn_grew g, h.grew g⟩
  · simp only [if_neg h1]
    by_cases h2 : rs ≤ nx
    · simp only [if_pos h2]
      refine (rsign_state b N hN who sd hh l nx rs hl hn hr d (by omega) h2 w h).mono ?_
      rintro e w' ⟨rfl, g⟩
      exact ⟨⟨none, 0, rfl, rd_none _, fun ad h => by cases h⟩, tn_grew g, h.grew g⟩
    · simp only [if_neg h2]
      exact rsign_ok b N hN who sd hh l nx rs hl hn hr d (by omega) (by omega) hkk hbb hsd hd w h
theorem kres_any (b p : Nat) (who sd : Int) (l : List Nat) (nx rs : Nat) (hl : l.length ≤ 256) (hn : nx ≤ l.length) (hr : rs ≤ l.length) (n : Int) (w : World) (h : KyAt w b p who sd l nx rs) :
    Calls Tryz.prog 16 #[.pointer (some ⟨b, 0, none⟩), .int .i64 n] w fun e w' => e = .returned (.tuple #[.int .i64 (reV l rs n), .int .i64 (reE l rs n)]) ∧ Tn b w w' ∧ KyAt w' b p who sd l nx (reR l rs n) := by
  unfold reV reE reR
  by_cases h1 : n < 1
  · simp only [if_pos h1]
    exact reserve_no b p who sd l nx rs hl hn hr n h1 w h
  · simp only [if_neg h1]
    by_cases h2 : (l.length : Int) - rs < n
    · simp only [if_pos h2]
      exact reserve_spent b p who sd l nx rs hl hn hr n (by omega) h2 w h
    · simp only [if_neg h2]
      obtain ⟨m, rfl⟩ := Int.eq_ofNat_of_zero_le (show 0 ≤ n by omega)
      rw [Int.toNat_natCast]
      have := reserve_ok b p who sd l nx rs hl hn hr m (by omega) (by omega) w h
      rwa [show ((rs + m : Nat) : Int) = (rs : Int) + (m : Int) by omega] at this
theorem rres_any (b : Nat) (N : Nat → Prop) (hN : N b) (who sd hh : Int) (l : List Nat) (nx rs : Nat) (hl : l.length ≤ 256) (hn : nx ≤ l.length) (hr : rs ≤ l.length) (n : Int) (w : World) (h : RkAt w b N who sd hh l nx rs) :
    Calls Tryz.prog 17 #[.pointer (some ⟨b, 0, none⟩), .int .i64 n] w fun e w' => e = .returned (.tuple #[.int .i64 (reV l rs n), .int .i64 (reE l rs n)]) ∧ Tn b w w' ∧ RkAt w' b N who sd hh l nx (reR l rs n) := by
  unfold reV reE reR
  by_cases h1 : n < 1
  · simp only [if_pos h1]
    exact rreserve_no b N hN who sd hh l nx rs hl hn hr n h1 w h
  · simp only [if_neg h1]
    by_cases h2 : (l.length : Int) - rs < n
    · simp only [if_pos h2]
      exact rreserve_spent b N hN who sd hh l nx rs hl hn hr n (by omega) h2 w h
    · simp only [if_neg h2]
      obtain ⟨m, rfl⟩ := Int.eq_ofNat_of_zero_le (show 0 ≤ n by omega)
      rw [Int.toNat_natCast]
      have := rreserve_ok b N hN who sd hh l nx rs hl hn hr m (by omega) (by omega) w h
      rwa [show ((rs + m : Nat) : Int) = (rs : Int) + (m : Int) by omega] at this
theorem kskip_any (b p : Nat) (who sd : Int) (l : List Nat) (nx rs : Nat) (hl : l.length ≤ 256) (hn : nx ≤ l.length) (hr : rs ≤ l.length) (n : Int) (w : World) (h : KyAt w b p who sd l nx rs) :
    Calls Tryz.prog 18 #[.pointer (some ⟨b, 0, none⟩), .int .i64 n] w fun e w' => e = .returned (.int .i64 (skE l nx n)) ∧ Tn b w w' ∧ KyAt w' b p who sd l (skN l nx n) (skR l nx rs n) := by
  unfold skE skN skR
  by_cases h1 : n < nx ∨ (l.length : Int) < n
  · simp only [if_pos h1]
    exact skip_no b p who sd l nx rs hl hn hr n h1 w h
  · simp only [if_neg h1]
    obtain ⟨m, rfl⟩ := Int.eq_ofNat_of_zero_le (show 0 ≤ n by omega)
    rw [Int.toNat_natCast]
    exact skip_ok b p who sd l nx rs hl hn hr m (by omega) (by omega) w h
theorem rskip_any (b : Nat) (N : Nat → Prop) (hN : N b) (who sd hh : Int) (l : List Nat) (nx rs : Nat) (hl : l.length ≤ 256) (hn : nx ≤ l.length) (hr : rs ≤ l.length) (n : Int) (w : World) (h : RkAt w b N who sd hh l nx rs) :
    Calls Tryz.prog 19 #[.pointer (some ⟨b, 0, none⟩), .int .i64 n] w fun e w' => e = .returned (.int .i64 (skE l nx n)) ∧ Tn b w w' ∧ RkAt w' b N who sd hh l (skN l nx n) (skR l nx rs n) := by
  unfold skE skN skR
  by_cases h1 : n < nx ∨ (l.length : Int) < n
  · simp only [if_pos h1]
    by_cases h2 : n < nx
    · exact rskip_lo b N hN who sd hh l nx rs hl hn hr n h2 w h
    · exact rskip_hi b N hN who sd hh l nx rs hl hn hr n (by omega) (by omega) w h
  · simp only [if_neg h1]
    obtain ⟨m, rfl⟩ := Int.eq_ofNat_of_zero_le (show 0 ≤ n by omega)
    rw [Int.toNat_natCast]
    by_cases h2 : rs < m
    · rw [show max rs m = m by omega]
      exact rskip_up b N hN who sd hh l nx rs hl hn hr m (by omega) (by omega) h2 w h
    · rw [show max rs m = rs by omega]
      exact rskip_in b N hN who sd hh l nx rs hl hn hr m (by omega) (by omega) (by omega) w h
end Go.Proofs.YtpgbfglfgcidaaaGreatDoor
