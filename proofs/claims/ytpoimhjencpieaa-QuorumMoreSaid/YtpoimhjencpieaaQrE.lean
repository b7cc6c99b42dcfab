/- The reference's Enough, Common. -/
import Derived.Test.YtpoimhjencpieaaQrD
namespace Go.Proofs.Ytpoimhjencpieaa
open Go.RowKit Go.Lib
set_option linter.unusedVariables false
set_option maxRecDepth 100000 in
set_option maxHeartbeats 1000000 in
theorem renough_ok (f : Int) (hf : 1 ≤ f ∧ f ≤ 3) (A : Option Addr) (c : Nat) (l : List Int) (hz : l.length ≤ 1048576) (w : World) (hr : Rd w w.heap.size A (i64L l)) :
    Calls Try.prog 28 #[.int .i64 f, .slice A l.length c] w fun e w' => e = .returned (.bool (decide (2 * f + 1 ≤ (cntN (3 * f + 1) (distI l) : Int)))) ∧ Grew w w' := by
  have cD := rdist_ok A c l hz w hr
  have hdle := distI_le l
  generalize distI l = d at *
  have RN := Lib.hid (rn_ok f hf)
  have RQ := Lib.hid (rq_ok f hf)
  go_enter Try.func28, Try.ntmps28
  go_wp2_with (go_at_call 20; refine cD.mono ?_; rintro e W ⟨v, rfl, hrow, hb⟩; obtain ⟨D, dc, rfl, hdc, hdl, hD⟩ := own_rd hrow)
  have HD := Lib.hid hD
  clear hrow cD hD hdl
  go_loopw [6, 7] (fun nv iv wr => ∃ i : Nat, i ≤ d.length ∧ iv = .int .i64 i ∧ nv = .int .i64 (cntN (3 * f + 1) (d.take i)) ∧ Grew W wr) (fun _ i _ => d.length - (intOf i).toNat)
  case atStart => exact ⟨0, Nat.zero_le _, rfl, by simp [cntN], Below.refl _ _⟩
  case round =>
    obtain ⟨i, hil, rfl, rfl, hg⟩ := hrel
    by_cases hlt : i < d.length
    · obtain ⟨ad, rfl, hbl, hc0⟩ := rd_i64 (l := d) (HD.out.below hg) i hlt
      have hts : d.take (i + 1) = d.take i ++ [d[i]] := by rw [List.take_succ_eq_append_getElem hlt]
      have HTS := Lib.hid hts
      have hcl : cntN (3 * f + 1) (d.take i) ≤ i := by have := cntN_le (3 * f + 1) (d.take i); rw [List.length_take] at this; omega
      clear hts
      generalize d[i] = z at *
      obtain ⟨n, hn⟩ : ∃ n, cntN (3 * f + 1) (d.take i) = n := ⟨_, rfl⟩
      rw [hn] at hcl ⊢
      have HN := Lib.hid hn
      clear hn
      have e3 : IntKind.i64.wrap ((n : Int) + 1) = (n : Int) + 1 := IntWalk.i64_in _ (by omega)
      have e4 : IntKind.i64.wrap ((i : Int) + 1) = (i : Int) + 1 := IntWalk.i64_in _ (by omega)
      have hi0 : (0 : Int) ≤ (i : Int) := by omega
      have hi1 : (i : Int) < (d.length : Int) := by omega
      by_cases hz0 : 0 ≤ z
      · have hz0' : decide (0 ≤ z) = true := by simpa using hz0
        by_cases hz1 : z < 3 * f + 1
        · go_wp2_with fail
          go_quiet (first | (go_at_call 24; exact Calls.quiet_of_same (RN.out _)))
          go_wp2_with fail
          go_roundw
          case rel => exact ⟨i + 1, by omega, by go_num, by rw [HTS.out, cntN_yes ⟨hz0, hz1⟩, HN.out]; go_num, grew_drewN' hg _⟩
          case measure => simp [intOf]; omega
        · go_wp2_with fail
          go_quiet (first | (go_at_call 24; exact Calls.quiet_of_same (RN.out _)))
          go_wp2_with fail
          go_roundw
          case rel => exact ⟨i + 1, by omega, by go_num, by rw [HTS.out, cntN_no (by omega), HN.out], grew_drewN' hg _⟩
          case measure => simp [intOf]; omega
      · have hz0' : decide (0 ≤ z) = false := by simpa using hz0
        go_wp2_with fail
        go_quiet (fail)
        go_wp2_with fail
        go_roundw
        case rel => exact ⟨i + 1, by omega, by go_num, by rw [HTS.out, cntN_no (by omega), HN.out], grew_drewN' hg _⟩
        case measure => simp [intOf]; omega
    · obtain rfl : i = d.length := by omega
      rw [List.take_length]
      go_wp2_with (go_at_call 26; refine (RQ.out _).mono ?_; rintro e w4 ⟨rfl, rfl⟩)
      go_ret
      exact ⟨rfl, grew_trans hb hg⟩
/-- what the inner loop has found so far -/
def found (z : Int) (y : List Int) : List Int := if z ∈ y then [z] else []
theorem found_nil (z : Int) : found z [] = [] := rfl
theorem found_hit (z : Int) (y : List Int) (h : z ∉ y) : found z (y ++ [z]) = found z y ++ [z] := by simp [found, h]
theorem found_miss (z u : Int) (y : List Int) (h : z ≠ u) : found z (y ++ [u]) = found z y := by
  by_cases hy : z ∈ y <;> simp [found, h, hy]
theorem found_le (z : Int) (y : List Int) : (found z y).length ≤ 1 := by
  by_cases hy : z ∈ y <;> simp [found, hy]
theorem found_all (a b : List Int) (i : Nat) (z : Int) (h : (distI a).take (i + 1) = (distI a).take i ++ [z]) : ((distI a).take (i + 1)).filter (inB b) = ((distI a).take i).filter (inB b) ++ found z (distI b) := by
  rw [h, List.filter_append]
  congr 1
  have hm := (distI_facts b).2 z
  by_cases hb : z ∈ b
  · simp [found, hm.2 hb, (inB_iff b z).2 hb]
  · have h1 : inB b z = false := by
      cases h' : inB b z with
      | false => rfl
      | true => exact absurd ((inB_iff b z).1 h') hb
    have h2 : z ∉ distI b := fun h => hb (hm.1 h)
    simp [found, h2, h1]
theorem asc_notin {y : List Int} (h : y.Pairwise (· < ·)) (k : Nat) (hk : k < y.length) : y[k] ∉ y.take k := by
  intro hm
  obtain ⟨j, hj, he⟩ := List.getElem_of_mem hm
  rw [List.length_take] at hj
  rw [List.getElem_take] at he
  have := List.pairwise_iff_getElem.1 h j k (by omega) hk (by omega)
  omega
set_option maxRecDepth 100000 in
set_option maxHeartbeats 1000000 in
theorem rcommon_ok (A B : Option Addr) (c c' : Nat) (a b : List Int) (hza : a.length ≤ 1048576) (hzb : b.length ≤ 1048576) (w : World) (hra : Rd w w.heap.size A (i64L a)) (hrb : Rd w w.heap.size B (i64L b)) :
    Calls Try.prog 22 #[.slice A a.length c, .slice B b.length c'] w fun e w' => ∃ v, e = .returned v ∧ w'.ownsRow w.heap.size 3 1 v (comI a b).length (i64L (comI a b)) ∧ Grew w w' := by
  obtain ⟨i0, hi, hz0, hz1, hz2⟩ := info_parts info_int
  have cA := rdist_ok A c a hza w hra
  have cB := Lib.hid (fun W h => rdist_ok B c' b hzb W h)
  have HAF := Lib.hid (found_all a b)
  have HBS := Lib.hid (distI_facts b).1
  have hxl := distI_le a
  have hyl := distI_le b
  rw [show comI a b = (distI a).filter (inB b) from rfl]
  generalize distI a = x at *
  go_enter Try.func22, Try.ntmps22
  go_wp2_with fail
  refine cA.mono ?_
  rintro e W ⟨v, rfl, hrow, hb⟩
  obtain ⟨X, xc, rfl, _, hxll, hX⟩ := own_rd hrow
  have HX := Lib.hid hX
  clear hrow cA hX hxll
  go_wp2_with fail
  have cB1 := cB.out W ((hrb.below hb).more hb.size)
  clear cB
  generalize distI b = y at *
  refine cB1.mono ?_
  rintro e V ⟨v, rfl, hrow, hbV⟩
  obtain ⟨Y, yc, rfl, _, hyll, hY⟩ := own_rd hrow
  have HY := Lib.hid hY
  have HX := Lib.hid (HX.out.below hbV)
  clear hrow cB1 hY hyll
  have hzV := hbV.size
  go_wp2_with fail
  go_loopw [5, 8] (fun ov iv wr => ∃ i : Nat, i ≤ x.length ∧ iv = .int .i64 i ∧ wr.ownsRow V.heap.size 3 1 ov ((x.take i).filter (inB b)).length (i64L ((x.take i).filter (inB b))) ∧ Grew V wr) (fun _ i _ => x.length - (intOf i).toNat)
  case atStart => exact ⟨0, Nat.zero_le _, rfl, by rw [List.take_zero]; exact World.ownsRow_nil _ _ _ _, Below.refl _ _⟩
  case round =>
    obtain ⟨i, hil, rfl, hown, hg⟩ := hrel
    by_cases hlt : i < x.length
    · obtain ⟨ad, rfl, hbl, hc0⟩ := rd_i64 (l := x) HX.out i hlt
      have HF := Lib.hid (HAF.out i x[i] (by rw [List.take_succ_eq_append_getElem hlt]))
      have hc0 : V.cell? (ad.add i) = some (.int .i64 x[i]) := hc0
      have hFl : ((x.take i).filter (inB b)).length ≤ i := by have := List.length_filter_le (inB b) (x.take i); rw [List.length_take] at this; omega
      generalize x[i] = z at *
      obtain ⟨F, hF⟩ : ∃ F, (x.take i).filter (inB b) = F := ⟨_, rfl⟩
      rw [hF] at hown hFl HF
      clear hF
      have hi0 : (0 : Int) ≤ (i : Int) := by omega
      have hi1 : (i : Int) < (x.length : Int) := by omega
      have hblV : ad.block < V.heap.size := by omega
      go_wp2_with fail
      go_loopw [5, 9] (fun ov kv w2 => ∃ k : Nat, k ≤ y.length ∧ kv = .int .i64 k ∧ w2.ownsRow V.heap.size 3 1 ov (F ++ found z (y.take k)).length (i64L (F ++ found z (y.take k))) ∧ Grew V w2) (fun _ kv _ => y.length - (intOf kv).toNat)
      case atStart => exact ⟨0, Nat.zero_le _, rfl, by rw [List.take_zero, found_nil, List.append_nil]; exact hown, hg⟩
      case round =>
        obtain ⟨k, hk, rfl, hown2, hg2⟩ := hrel
        have hcx : wr.cell? (ad.add i) = some (.int .i64 z) := (hg2.cell (by rw [blk_add]; omega)).trans hc0
        by_cases hky : k < y.length
        · obtain ⟨ad', rfl, hbl', hc1⟩ := rd_i64 (l := y) (HY.out.below hg2) k hky
          have HT := Lib.hid (show y.take (k + 1) = y.take k ++ [y[k]] by rw [List.take_succ_eq_append_getElem hky])
          have HN := Lib.hid (asc_notin HBS.out k hky)
          have hk0 : (0 : Int) ≤ (k : Int) := by omega
          have hk1 : (k : Int) < (y.length : Int) := by omega
          have hfl := found_le z (y.take k)
          have hll : (F ++ found z (y.take k)).length ≤ i + 1 := by rw [List.length_append]; omega
          generalize y[k] = u at *
          obtain ⟨G, hG⟩ : ∃ G, F ++ found z (y.take k) = G := ⟨_, rfl⟩
          rw [hG] at hown2 hll
          have HG := Lib.hid hG
          clear hG
          by_cases hzu : z = u
          · subst hzu
            go_wp2_with fail
            go_quiet (fail)
            have hcx2 : (wr.drewN nq).cell? (ad.add i) = some (.int .i64 z) := hcx
            have hown3 : (wr.drewN nq).ownsRow V.heap.size 3 1 _ G.length (i64L G) := hown2
            have hg3 : Grew V (wr.drewN nq) := grew_drewN' hg2 nq
            generalize wr.drewN nq = w3 at *
            have hz3 := hg3.size
            go_wp2_with (at_builtin; refine wpList_append_own _ rfl _ _ 22 rfl V.heap.size 3 i0 (.int .i64 0) 1 8 Try.underlying22 hi hz0 hz1 hz2 rfl (by decide) _ _ _ rfl (hown3.alloc _) ⟨w3.heap.size, 0, none⟩ 1 1 [.int .i64 z] rfl rfl (cell_one_new _ _ _) (by simp [Value.oneCell']) (by unfold maxLen; omega) (by omega) (by simp; omega) ?_; intro v' w4 hown' hgrow _)
            go_roundw
            case rel => exact ⟨k + 1, by omega, by go_num, by rw [HT.out, found_hit z _ HN.out, ← List.append_assoc, HG.out]; rw [List.length_append, List.length_singleton, i64L_append]; exact hown', (grew_alloc' hg3 _).grown hgrow (by simp; omega) (fun j hj => own_base hown3 j hj)⟩
            case measure => simp [intOf]; omega
          · go_wp2_with fail
            go_quiet (fail)
            go_wp2_with fail
            go_roundw
            case rel => exact ⟨k + 1, by omega, by go_num, by rw [HT.out, found_miss z u _ hzu, HG.out]; exact hown2, grew_drewN' hg2 _⟩
            case measure => simp [intOf]; omega
        · obtain rfl : k = y.length := by omega
          rw [List.take_length, ← HF.out] at hown2
          go_wp2_with fail
          go_roundw
          case rel => exact ⟨i + 1, by omega, by go_num, hown2, hg2⟩
          case measure => simp [intOf]; omega
    · obtain rfl : i = x.length := by omega
      rw [List.take_length] at hown
      go_wp2_with fail
      go_ret
      exact ⟨_, rfl, ownsRow_low hown (Nat.le_trans hb.size hzV), grew_trans (grew_trans hb hbV) hg⟩
end Go.Proofs.Ytpoimhjencpieaa
