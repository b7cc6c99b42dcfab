/- QuorumBy. -/
import Derived.Test.YtpoimhjencpieaaQlA
namespace Go.Proofs.Ytpoimhjencpieaa
open Go.RowKit Go.Maps
set_option linter.unusedVariables false
theorem qby_big (A : Option Addr) (c : Nat) (l : List Int) (W : World) (h : 60 < l.length) :
    Calls Try.prog 5 #[.slice A l.length c] W fun e w' => e = .returned (.bool true) ∧ Grew W w' := by
  have h1' : (60 : Int) < (l.length : Int) := by omega
  go_enter Try.func5, Try.ntmps5
  go_wp2_with fail
  refine (qknown_any _).mono ?_
  rintro e w1 ⟨rfl, hg1⟩
  go_wp2_with fail
  go_ret
  exact ⟨rfl, hg1⟩
def tk (x : Int) : Int := x.tdiv 10
def tenD (l : List Int) : DataW Unit := byD tk l
/-- how many kinds -/
def kinds (l : List Int) : Nat := Maps.size (tenD l)
theorem kinds_nil : kinds [] = 0 := rfl
theorem kinds_snoc (l : List Int) (x : Int) : kinds (l ++ [x]) = kinds l + if ∃ y ∈ l, tk y = tk x then 0 else 1 := byD_size tk l x
theorem kinds_le (l : List Int) : ∀ n, kinds (l.take n) ≤ n := by
  intro n
  induction n with
  | zero => simp [kinds_nil]
  | succ n ih =>
    by_cases hn : n < l.length
    · have hts : l.take (n + 1) = l.take n ++ [l[n]] := by rw [List.take_succ_eq_append_getElem hn]
      rw [hts, kinds_snoc]
      split <;> omega
    · rw [List.take_of_length_le (by omega)] at ih ⊢; omega
set_option maxRecDepth 100000 in
set_option maxHeartbeats 1000000 in
theorem qby_law (A : Option Addr) (c : Nat) (l : List Int) (W : World) (hz : l.length ≤ 60) (hi : ∀ x ∈ l, -9223372036854775808 ≤ x ∧ x ≤ 9223372036854775807) (hr : Rd W W.heap.size A (i64L l)) :
    Calls Try.prog 5 #[.slice A l.length c] W fun e w' => e = .returned (.bool true) ∧ Grew W w' := by
  have h1' : ¬ (60 : Int) < (l.length : Int) := by omega
  have HI := Lib.hid hi
  clear hi
  go_enter Try.func5, Try.ntmps5
  go_wp2_with fail
  refine (qknown_any _).mono ?_
  rintro e w1 ⟨rfl, hg1⟩
  go_wp2_with fail
  refine (by_tens_ok (H := Unit) A c l (by omega) HI.out w1 ((hr.below hg1).more hg1.size)).mono ?_
  rintro e w2 ⟨rfl, hm2, hb2⟩
  have hg2 := grew_trans hg1 hb2
  have HR := Lib.hid ((hr.below hg2).more hg2.size)
  have HM := Lib.hid (show w2.ownsMap Try.prog 3 (plainElem Try.prog 3) w1.heap.size l.length (tenD l) from hm2)
  clear hm2 hb2 hg1 hr
  generalize w1.heap.size = m at *
  go_wp2_with fail
  go_loopw [4, 5] (fun nv iv wr => ∃ i q : Nat, i ≤ l.length ∧ iv = .int .i64 i ∧ nv = .int .i64 (kinds (l.take i)) ∧ wr = w2.drewN q) (fun _ i _ => l.length - (intOf i).toNat)
  case atStart => exact ⟨0, 0, Nat.zero_le _, rfl, rfl, rfl⟩
  case round =>
    obtain ⟨i, q, hil, rfl, rfl, rfl⟩ := hrel
    by_cases hlt : i < l.length
    · obtain ⟨ad, rfl, hbl, hc0⟩ := rd_i64 HR.out i hlt
      have HTS := Lib.hid (show l.take (i + 1) = l.take i ++ [l[i]] by rw [List.take_succ_eq_append_getElem hlt])
      have HLS := Lib.hid (show l = l.take i ++ l[i] :: l.drop (i + 1) by rw [← List.drop_eq_getElem_cons hlt, List.take_append_drop])
      have hzr := HI.out _ (List.getElem_mem hlt)
      have hkl := kinds_le l i
      have hi1 : (i : Int) < (l.length : Int) := by omega
      have hi0 : (0 : Int) ≤ (i : Int) := by omega
      generalize l[i] = z at *
      go_wp2_with fail
      go_loopw [6, 7] (fun fv kv w3 => ∃ k q' : Nat, k ≤ i ∧ kv = .int .i64 k ∧ fv = .bool (decide (∀ y ∈ l.take k, tk y ≠ tk z)) ∧ w3 = w2.drewN q') (fun _ kv _ => i - (intOf kv).toNat)
      case atStart => exact ⟨0, q, Nat.zero_le _, rfl, by simp, rfl⟩
      case round =>
        obtain ⟨k, q', hk, rfl, rfl, rfl⟩ := hrel
        by_cases hkl' : k < i
        · obtain ⟨ad', hh, hbl', hc1⟩ := rd_i64 HR.out k (by omega)
          obtain rfl : ad = ad' := by injection hh
          have hk0 : (0 : Int) ≤ (k : Int) := by omega
          have hk1 : (k : Int) < (l.length : Int) := by omega
          have hk2 : (k : Int) < (i : Int) := by omega
          have HT := Lib.hid (show l.take (k + 1) = l.take k ++ [l[k]] by rw [List.take_succ_eq_append_getElem (by omega)])
          have hyr := HI.out _ (List.getElem_mem (show k < l.length by omega))
          generalize l[k] = y at *
          have hyt := tdiv10_in hyr
          have hzt := tdiv10_in hzr
          have ey : IntKind.i64.wrap (y.tdiv 10) = tk y := IntWalk.i64_in _ (by omega)
          have ez : IntKind.i64.wrap (z.tdiv 10) = tk z := IntWalk.i64_in _ (by omega)
          have HY := Lib.hid ey
          clear hyt hzt hh
          by_cases hyz : tk y = tk z
          · go_wp2_with fail
            go_quiet (fail)
            go_wp2_with fail
            go_roundw
            case rel => exact ⟨k + 1, q' + nq, by omega, by go_num, by rw [HT.out]; congr 1; symm; rw [decide_eq_false_iff_not]; intro hh; exact hh y (by simp) hyz, rfl⟩
            case measure => simp [intOf]; omega
          · go_wp2_with fail
            go_quiet (fail)
            go_wp2_with fail
            go_roundw
            case rel => exact ⟨k + 1, q' + nq, by omega, by go_num, by rw [HT.out]; congr 1; exact decide_eq_decide.2 ⟨fun hh x hx => by rcases List.mem_append.1 hx with hx | hx; exact hh x hx; simp at hx; subst hx; exact hyz, fun hh x hx => hh x (List.mem_append_left _ hx)⟩, rfl⟩
            case measure => simp [intOf]; omega
        · obtain rfl : k = i := by omega
          have hzt := tdiv10_in hzr
          have ez : IntKind.i64.wrap (z.tdiv 10) = tk z := IntWalk.i64_in _ (by omega)
          have hkey : keyOf Try.prog 3 (.int .i64 (tk z)) = some (.int .i64 (tk z)) := keyOf_int_mk Try.underlying3 (WalkArith.wf_i64 hzt)
          have hmq : (w2.drewN q').ownsMap Try.prog 3 (plainElem Try.prog 3) m l.length (tenD l) := HM.out
          have hhas : Maps.has (tenD l) (.int .i64 (tk z)) = true := ((byD_has tk l).2 _).2 ⟨z, by rw [HLS.out]; simp, rfl⟩
          have e3 : IntKind.i64.wrap ((kinds (l.take k) : Int) + 1) = (kinds (l.take k) : Int) + 1 := IntWalk.i64_in _ (by omega)
          have e4 : IntKind.i64.wrap ((k : Int) + 1) = (k : Int) + 1 := IntWalk.i64_in _ (by omega)
          clear hzt
          by_cases hf : ∀ y ∈ l.take k, tk y ≠ tk z
          · rw [decide_eq_true hf]
            have hat0 : ∀ d, (tenD l).atKey (.int .i64 (tk z)) d = .lit (.int .i64 z) := fun d => by
              have := byD_first (H := Unit) tk (l.take k) (l.drop (k + 1)) z d hf
              rw [← HLS.out] at this; exact this
            have HN := Lib.hid (show kinds (l.take (k + 1)) = kinds (l.take k) + 1 by rw [HTS.out, kinds_snoc, if_neg (fun ⟨y, hy, he⟩ => hf y hy he)])
            have HA0 := Lib.hid hat0
            clear hat0 hf
            go_wp2_with (at_lookup; refine wpList_lookup_own_ok_int _ rfl _ _ 39 rfl 3 3 .i64 int_law Try.underlying39 Try.underlying3 (int_zero _) m l.length _ rfl hmq _ _ rfl hkey ?_; intro cc hat hwc; rw [HA0.out] at hat; (obtain rfl : z = cc := by injection hat with h; injection h); rw [hhas])
            go_roundw
            case rel => exact ⟨k + 1, q', by omega, by go_num, by rw [HN.out]; go_num, rfl⟩
            case measure => simp [intOf]; omega
          · rw [decide_eq_false hf]
            have HN := Lib.hid (show kinds (l.take (k + 1)) = kinds (l.take k) by
              rw [HTS.out, kinds_snoc, if_pos]
              · rfl
              · by_cases he : ∃ y ∈ l.take k, tk y = tk z
                · exact he
                · exact absurd (fun y hy hh => he ⟨y, hy, hh⟩) hf)
            clear hf
            go_wp2_with (at_lookup; refine wpList_lookup_own_ok_int _ rfl _ _ 39 rfl 3 3 .i64 int_law Try.underlying39 Try.underlying3 (int_zero _) m l.length _ rfl hmq _ _ rfl hkey ?_; intro cc hat hwc; rw [hhas])
            go_roundw
            case rel => exact ⟨k + 1, q', by omega, by go_num, by rw [HN.out], rfl⟩
            case measure => simp [intOf]; omega
    · obtain rfl : i = l.length := by omega
      rw [List.take_length]
      have hlen := World.ownsMap.len (show (w2.drewN q).ownsMap Try.prog 3 (plainElem Try.prog 3) m l.length (tenD l) from HM.out) Try.underlying39 3
      rw [show Maps.size (tenD l) = kinds l from rfl] at hlen
      go_wp2_with fail
      go_ret
      exact ⟨by simp, grew_drewN' hg2 q⟩
end Go.Proofs.Ytpoimhjencpieaa
