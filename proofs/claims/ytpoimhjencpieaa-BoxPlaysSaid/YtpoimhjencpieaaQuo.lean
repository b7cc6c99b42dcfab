/- quorum: N, Q, Check, Enough. -/
import Derived.IntWalk
import Derived.Lib.Hide
import Derived.Test.YtpoimhjencpieaaDis
namespace Go.Proofs.Ytpoimhjencpieaa
open Go.RowKit Go.Lib
set_option linter.unusedVariables false
theorem qn_ok (f : Int) (hf : 1 ≤ f ∧ f ≤ 3) (w : World) : Calls Try.prog 23 #[.agg #[.int .i64 f]] w fun e w' => e = .returned (.int .i64 (3 * f + 1)) ∧ Grew w w' := by
  have e1 : IntKind.i64.wrap (3 * f) = 3 * f := IntWalk.i64_in _ (by omega)
  have e2 : IntKind.i64.wrap (3 * f + 1) = 3 * f + 1 := IntWalk.i64_in _ (by omega)
  go_enter Try.func23, Try.ntmps23
  go_wp2_with fail
  go_ret
  exact ⟨rfl, (Below.refl _ w).alloc (Nat.le_refl _) _⟩
theorem qq_ok (f : Int) (hf : 1 ≤ f ∧ f ≤ 3) (w : World) : Calls Try.prog 25 #[.agg #[.int .i64 f]] w fun e w' => e = .returned (.int .i64 (2 * f + 1)) ∧ Grew w w' := by
  have e1 : IntKind.i64.wrap (2 * f) = 2 * f := IntWalk.i64_in _ (by omega)
  have e2 : IntKind.i64.wrap (2 * f + 1) = 2 * f + 1 := IntWalk.i64_in _ (by omega)
  go_enter Try.func25, Try.ntmps25
  go_wp2_with fail
  go_ret
  exact ⟨rfl, (Below.refl _ w).alloc (Nat.le_refl _) _⟩
theorem qcheck_ok (f : Int) (w : World) : Calls Try.prog 17 #[.agg #[.int .i64 f]] w fun e w' => e = .returned (.int .i64 (if f < 1 ∨ 3 < f then 1 else 0)) ∧ Grew w w' := by
  by_cases h1 : f < 1
  · rw [if_pos (.inl h1)]
    go_enter Try.func17, Try.ntmps17
    go_wp2_with fail
    go_ret
    exact ⟨rfl, (Below.refl _ w).alloc (Nat.le_refl _) _⟩
  · by_cases h2 : 3 < f
    · rw [if_pos (.inr h2)]
      go_enter Try.func17, Try.ntmps17
      go_wp2_with fail
      go_ret
      exact ⟨rfl, (Below.refl _ w).alloc (Nat.le_refl _) _⟩
    · rw [if_neg (by omega)]
      go_enter Try.func17, Try.ntmps17
      go_wp2_with fail
      go_ret
      exact ⟨rfl, (Below.refl _ w).alloc (Nat.le_refl _) _⟩
def inN (N : Int) (x : Int) : Bool := decide (0 ≤ x ∧ x < N)
def cntN (N : Int) (l : List Int) : Nat := (l.filter (inN N)).length
theorem cntN_le (N : Int) (l : List Int) : cntN N l ≤ l.length := List.length_filter_le _ _
theorem cntN_yes {N : Int} {l : List Int} {x : Int} (h : 0 ≤ x ∧ x < N) : cntN N (l ++ [x]) = cntN N l + 1 := by simp [cntN, inN, h]
theorem cntN_no {N : Int} {l : List Int} {x : Int} (h : ¬ (0 ≤ x ∧ x < N)) : cntN N (l ++ [x]) = cntN N l := by
  have : inN N x = false := by simpa [inN] using h
  simp [cntN, this]
theorem distI_le (l : List Int) : (distI l).length ≤ l.length := by
  have := Lib.compact_length_le (sortI l); rw [sortI_length] at this; exact this
set_option maxRecDepth 100000 in
set_option maxHeartbeats 1000000 in
theorem enough_ok (f : Int) (hf : 1 ≤ f ∧ f ≤ 3) (A : Option Addr) (c : Nat) (l : List Int) (hz : l.length ≤ 1048576) (w : World) (hr : Rd w w.heap.size A (i64L l)) :
    Calls Try.prog 27 #[.agg #[.int .i64 f], .slice A l.length c] w fun e w' => e = .returned (.bool (decide (2 * f + 1 ≤ (cntN (3 * f + 1) (distI l) : Int)))) ∧ Grew w w' := by
  have hB0 : Below w.heap.size w (w.alloc (.cells #[.int .i64 f] 25)) := (Below.refl _ w).alloc (Nat.le_refl _) _
  have bN := (Boxed.new w 25 (.int .i64 f)).cell
  have cD := distinct_ok A c l hz (w.alloc (.cells #[.int .i64 f] 25)) ((hr.below hB0).more (by simp))
  have hdle := distI_le l
  generalize distI l = d at *
  have QN := Lib.hid (qn_ok f hf)
  have QQ := Lib.hid (qq_ok f hf)
  go_enter Try.func27, Try.ntmps27
  go_wp2_with (go_at_call 19; refine cD.mono ?_; rintro e W ⟨v, rfl, hrow, hb⟩; obtain ⟨D, dc, rfl, hdc, hdl, hD⟩ := own_rd hrow)
  have hbb : Grew w W := hB0.trans (hb.mono (by simp))
  have hcf : W.cell? ⟨w.heap.size, 0, none⟩ = some (.int .i64 f) := (hb.cell (p := ⟨w.heap.size, 0, none⟩) (by simp)).trans bN
  have hWs := hb.size
  have HD := Lib.hid hD
  rw [World.size_alloc] at hWs
  clear hrow hb cD bN hB0 hD hdl
  go_loopw [5, 11] (fun nv iv wr => ∃ i : Nat, i ≤ d.length ∧ iv = .int .i64 i ∧ nv = .int .i64 (cntN (3 * f + 1) (d.take i)) ∧ Grew W wr) (fun _ i _ => d.length - (intOf i).toNat)
  case atStart => exact ⟨0, Nat.zero_le _, rfl, by simp [cntN], Below.refl _ _⟩
  case round =>
    obtain ⟨i, hil, rfl, rfl, hg⟩ := hrel
    have hcr : wr.cell? ⟨w.heap.size, 0, none⟩ = some (.int .i64 f) := (hg.cell (p := ⟨w.heap.size, 0, none⟩) (by simp only; omega)).trans hcf
    by_cases hlt : i < d.length
    · obtain ⟨ad, rfl, hbl, hc0⟩ := rd_i64 (l := d) (HD.out.below hg) i hlt
      have hts : d.take (i + 1) = d.take i ++ [d[i]] := by rw [List.take_succ_eq_append_getElem hlt]
      have HTS := Lib.hid hts
      have hcl : cntN (3 * f + 1) (d.take i) ≤ i := by have := cntN_le (3 * f + 1) (d.take i); rw [List.length_take] at this; omega
      clear hts
      generalize d[i] = z at *
      obtain ⟨n, hn⟩ : ∃ n, cntN (3 * f + 1) (d.take i) = n := ⟨_, rfl⟩
      rw [hn] at hcl ⊢
      have HN := Lib.hid hn
      clear hn
      have e3 : IntKind.i64.wrap ((n : Int) + 1) = (n : Int) + 1 := IntWalk.i64_in _ (by omega)
      have e4 : IntKind.i64.wrap ((i : Int) + 1) = (i : Int) + 1 := IntWalk.i64_in _ (by omega)
      by_cases hz0 : 0 ≤ z
      · by_cases hz1 : z < 3 * f + 1
        · go_wp2_with (go_at_call 23; refine (QN.out _).mono ?_; rintro e w4 ⟨rfl, hb4⟩)
          go_roundw
          case rel => exact ⟨i + 1, by omega, by go_num, by rw [HTS.out, cntN_yes ⟨hz0, hz1⟩, HN.out]; go_num, grew_trans hg hb4⟩
          case measure => simp [intOf]; omega
        · go_wp2_with (go_at_call 23; refine (QN.out _).mono ?_; rintro e w4 ⟨rfl, hb4⟩)
          go_roundw
          case rel => exact ⟨i + 1, by omega, by go_num, by rw [HTS.out, cntN_no (by omega), HN.out], grew_trans hg hb4⟩
          case measure => simp [intOf]; omega
      · go_wp2_with fail
        go_roundw
        case rel => exact ⟨i + 1, by omega, by go_num, by rw [HTS.out, cntN_no (by omega), HN.out], hg⟩
        case measure => simp [intOf]; omega
    · obtain rfl : i = d.length := by omega
      rw [List.take_length]
      go_wp2_with (go_at_call 25; refine (QQ.out _).mono ?_; rintro e w4 ⟨rfl, hb4⟩)
      go_ret
      exact ⟨rfl, grew_trans hbb (grew_trans hg hb4)⟩
end Go.Proofs.Ytpoimhjencpieaa
