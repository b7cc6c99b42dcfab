/- QuorumEdges. -/
import Derived.Test.YtpoimhjencpieaaQlA
namespace Go.Proofs.Ytpoimhjencpieaa
open Go.RowKit
set_option linter.unusedVariables false
/-- the row of QuorumEdges: i of those that count, 2 j strangers -/
def EdgeI (N : Int) (i j : Nat) (L : List Int) : Prop := L.length = i + 2 * j ∧ (∀ x ∈ L, (N - i ≤ x ∧ x < N + j) ∨ (-(j : Int) ≤ x ∧ x ≤ -1)) ∧ (distI L).length = L.length ∧ cntN N (distI L) = i
theorem edge_nil (N : Int) : EdgeI N 0 0 [] := ⟨rfl, by simp, by rw [dist_nil], by rw [dist_nil]; rfl⟩
theorem edge_new {N : Int} {i j i' j' : Nat} {L : List Int} {x : Int} (h : EdgeI N i j L) (hx : x ∉ L) : (distI (L ++ [x])).length = L.length + 1 ∧ cntN N (distI (L ++ [x])) = i + if inN N x = true then 1 else 0 := by
  obtain ⟨h1, h2, h3, h4⟩ := h
  refine ⟨by rw [len_snoc L x hx, h3], ?_⟩
  have := cnt_snoc (inN N) L x hx
  unfold cntN at h4 ⊢
  rw [this, h4]
theorem edge_in {N : Int} {i : Nat} {L : List Int} (h : EdgeI N i 0 L) (hi : (i : Int) < N) : EdgeI N (i + 1) 0 (L ++ [N - 1 - i]) := by
  have hx : N - 1 - (i : Int) ∉ L := fun hm => by rcases h.2.1 _ hm with h | h <;> omega
  obtain ⟨e1, e2⟩ := edge_new (i' := 0) (j' := 0) h hx
  have hin : inN N (N - 1 - (i : Int)) = true := by unfold inN; rw [decide_eq_true_iff]; omega
  rw [hin] at e2
  obtain ⟨h1, h2, h3, h4⟩ := h
  refine ⟨by rw [List.length_append, h1, List.length_singleton], fun x hm => ?_, by rw [e1, List.length_append, List.length_singleton], by rw [e2]; rfl⟩
  rcases List.mem_append.1 hm with hm | hm
  · rcases h2 x hm with h | h
    · left; omega
    · right; omega
  · obtain rfl : x = N - 1 - (i : Int) := by simpa using hm
    left; omega
theorem edge_out {N : Int} {i j : Nat} {L : List Int} (h : EdgeI N i j L) (hi : (i : Int) ≤ N) : EdgeI N i (j + 1) (L ++ [N + j, -1 - j]) := by
  have hx : N + (j : Int) ∉ L := fun hm => by rcases h.2.1 _ hm with h | h <;> omega
  obtain ⟨e1, e2⟩ := edge_new (i' := 0) (j' := 0) h hx
  have hin : inN N (N + (j : Int)) = false := by unfold inN; rw [decide_eq_false_iff_not]; omega
  rw [hin, if_neg (by simp)] at e2
  obtain ⟨h1, h2, h3, h4⟩ := h
  have hm2 : ∀ x ∈ L ++ [N + (j : Int)], (N - i ≤ x ∧ x < N + j + 1) ∨ (-(j : Int) ≤ x ∧ x ≤ -1) := fun x hm => by
    rcases List.mem_append.1 hm with hm | hm
    · rcases h2 x hm with h | h
      · left; omega
      · right; omega
    · obtain rfl : x = N + (j : Int) := by simpa using hm
      left; omega
  have hy : -1 - (j : Int) ∉ L ++ [N + (j : Int)] := fun hm => by rcases hm2 _ hm with h | h <;> omega
  have e3 := len_snoc (L ++ [N + (j : Int)]) _ hy
  have e4 := cnt_snoc (inN N) (L ++ [N + (j : Int)]) _ hy
  have hin2 : inN N (-1 - (j : Int)) = false := by unfold inN; rw [decide_eq_false_iff_not]; omega
  rw [hin2, if_neg (by simp)] at e4
  have ea : L ++ [N + (j : Int), -1 - (j : Int)] = L ++ [N + (j : Int)] ++ [-1 - (j : Int)] := by simp
  rw [ea]
  unfold cntN at e2
  unfold EdgeI cntN
  refine ⟨by simp [h1]; omega, fun x hm => ?_, by rw [e3, e1]; simp, by rw [e4, Nat.add_zero, e2, Nat.add_zero]⟩
  rcases List.mem_append.1 hm with hm | hm
  · rcases hm2 x hm with h | h
    · left; omega
    · right; omega
  · obtain rfl : x = -1 - (j : Int) := by simpa using hm
    right; omega
theorem grew_undrew1 {a b : World} (h : Grew a.drew b) : Grew a b := ⟨h.os, h.tape, h.output, h.size, h.block⟩
set_option maxRecDepth 100000 in
set_option maxHeartbeats 1000000 in
theorem qedges_law (f n s : Int) (hf : 0 ≤ f ∧ f ≤ 255) (hn : 0 ≤ n ∧ n ≤ 255) (hs : 0 ≤ s ∧ s ≤ 255) (W : World) :
    Calls Try.prog 7 #[.int .u8 f, .int .u8 n, .int .u8 s] W fun e w' => e = .returned (.bool true) ∧ Grew W w' := by
  go_enter Try.func7, Try.ntmps7
  go_wp2_with fail
  refine (qknown_any _).mono ?_
  rintro e w1 ⟨rfl, hg1⟩
  go_wp2_with fail
  have k1 : CF (1 + f % 3) W w1.heap.size none [] none [] _ := CF.made hg1 (Rd.nil_ _ _ _) (Rd.nil_ _ _ _)
  have hF : 1 ≤ 1 + f % 3 ∧ 1 + f % 3 ≤ 3 := by omega
  generalize 1 + f % 3 = F at *
  generalize w1.heap.size = p at *
  generalize w1.alloc (.cells #[.int .i64 F] 25) = w2 at *
  refine (qn_ok F hF _).mono ?_
  rintro e w3 ⟨rfl, hb3⟩
  have k3 := k1.step hb3
  have e1 : IntKind.i64.wrap (3 * F + 1 + 1) = 3 * F + 2 := by rw [IntWalk.i64_in _ (by omega)]; omega
  clear k1 hb3 hg1
  go_wp2_with fail
  have hkk : 0 ≤ n % (3 * F + 2) ∧ n % (3 * F + 2) ≤ 3 * F + 1 := by
    have h1 := Int.emod_nonneg n (show 3 * F + 2 ≠ 0 by omega)
    have h2 := Int.emod_lt_of_pos n (show 0 < 3 * F + 2 by omega)
    omega
  obtain ⟨K, hK⟩ : ∃ K : Nat, n % (3 * F + 2) = K := ⟨(n % (3 * F + 2)).toNat, by omega⟩
  rw [hK] at hkk
  have hss : 0 ≤ s % 9 ∧ s % 9 ≤ 8 := by omega
  rw [hK]
  clear hK hn
  obtain ⟨i0, hi, hz0, hz1, hz2⟩ := info_parts info_int
  have hz3 := k3.gr.size
  go_loopw [9, 10] (fun ov iv wr => ∃ (i : Nat) (L : List Int), i ≤ K ∧ iv = .int .i64 i ∧ Hid (EdgeI (3 * F + 1) i 0 L) ∧ L.length = i ∧ wr.ownsRow w3.heap.size 3 1 ov L.length (i64L L) ∧ Grew w3 wr) (fun _ i _ => K - (intOf i).toNat)
  case atStart => exact ⟨0, [], Nat.zero_le _, rfl, Lib.hid (edge_nil _), rfl, World.ownsRow_nil _ _ _ _, Below.refl _ _⟩
  case round =>
    obtain ⟨i, L, hiK, rfl, hE, hLl, hown, hg⟩ := hrel
    have kr := k3.step hg
    have qr := kr.cell
    have hrz := hg.size
    by_cases hlt : i < K
    · have hlt' : (i : Int) < (K : Int) := by omega
      have e2 : IntKind.i64.wrap (3 * F + 1 - 1) = 3 * F := by rw [IntWalk.i64_in _ (by omega)]; omega
      have e3 : IntKind.i64.wrap (3 * F - (i : Int)) = 3 * F - (i : Int) := IntWalk.i64_in _ (by omega)
      have e4 : IntKind.i64.wrap ((i : Int) + 1) = (i : Int) + 1 := IntWalk.i64_in _ (by omega)
      have HE := Lib.hid (edge_in hE.out (by omega))
      go_wp2_with fail
      refine (qn_ok F hF _).mono ?_
      rintro e w5 ⟨rfl, hb5⟩
      have k5 := kr.step hb5
      have hg5 := grew_trans hg hb5
      have hown5 := ownsRow_kp hown (kp_grew (S := fun _ => False) hb5) (fun _ _ => id)
      have hz5 := hg5.size
      clear hown kr qr
      go_wp2_with (at_builtin; refine wpList_append_own _ rfl _ _ 22 rfl w3.heap.size 3 i0 (.int .i64 0) 1 8 Try.underlying22 hi hz0 hz1 hz2 rfl (by decide) _ _ _ rfl (hown5.alloc _) ⟨w5.heap.size, 0, none⟩ 1 1 [.int .i64 (3 * F - (i : Int))] rfl rfl (cell_one_new _ _ _) (by simp [Value.oneCell']) (by unfold maxLen; omega) (by omega) (by simp; omega) ?_; intro v' w6 hown' hgrow _)
      go_roundw
      case rel =>
        have hval : (3 * F + 1 - 1 - (i : Int)) = 3 * F - i := by omega
        have HE2 := HE.out
        rw [hval] at HE2
        exact ⟨i + 1, L ++ [3 * F - (i : Int)], by omega, by go_num, Lib.hid HE2, by simp [hLl], by rw [List.length_append, List.length_singleton, i64L_append]; exact hown', (grew_alloc' hg5 _).grown hgrow (by simp; omega) (fun j hj => own_base hown5 j hj)⟩
      case measure => simp [intOf]; omega
    · obtain rfl : i = K := by omega
      clear hlt
      go_wp2_with fail
      clear qr
      go_loopw [9, 11] (fun ov jv w2 => ∃ (j : Nat) (M : List Int), (j : Int) ≤ s % 9 ∧ jv = .int .i64 j ∧ Hid (EdgeI (3 * F + 1) i j M) ∧ M.length = i + 2 * j ∧ w2.ownsRow w3.heap.size 3 1 ov M.length (i64L M) ∧ Grew w3 w2) (fun _ j _ => (s % 9).toNat - (intOf j).toNat)
      case atStart => exact ⟨0, L, by omega, rfl, hE, by omega, hown, hg⟩
      case round =>
        obtain ⟨j, M, hjs, rfl, hEM, hMl, hownM, hgM⟩ := hrel
        have km := k3.step hgM
        have qm := km.cell
        have hmz := hgM.size
        by_cases hjl : (j : Int) < s % 9
        · have e2 : IntKind.i64.wrap (3 * F + 1 + (j : Int)) = 3 * F + 1 + (j : Int) := IntWalk.i64_in _ (by omega)
          have e3 : IntKind.i64.wrap (-1 - (j : Int)) = -1 - (j : Int) := IntWalk.i64_in _ (by omega)
          have e4 : IntKind.i64.wrap ((j : Int) + 1) = (j : Int) + 1 := IntWalk.i64_in _ (by omega)
          have HE := Lib.hid (edge_out hEM.out (by omega))
          go_wp2_with fail
          refine (qn_ok F hF _).mono ?_
          rintro e w5 ⟨rfl, hb5⟩
          have hg5 := grew_trans hgM hb5
          have hown5 := ownsRow_kp hownM (kp_grew (S := fun _ => False) hb5) (fun _ _ => id)
          have hz5 := hg5.size
          clear hownM km qm
          go_wp2_with (at_builtin; refine wpList_append_rd rfl (.tmp 45) (.tmp 52) 22 rfl w3.heap.size 3 i0 (.int .i64 0) 8 Try.underlying22 hi hz0 hz1 hz2 rfl _ M.length (i64L M) rfl (hown5.alloc _) (w5.heap.size + 1) (some ⟨w5.heap.size, 0, none⟩) 2 2 (i64L [3 * F + 1 + (j : Int), -1 - (j : Int)]) rfl rfl (rd_new w5 3 #[.int .i64 (3 * F + 1 + (j : Int)), .int .i64 (-1 - (j : Int))] (0, 0)) (i64L_one _) (by unfold maxLen; omega) (by omega) (by simp; omega) ?_; intro v6 w6 hown6 hgrow6 hat6)
          go_roundw
          case rel =>
            exact ⟨j + 1, M ++ [3 * F + 1 + (j : Int), -1 - (j : Int)], by omega, by go_num, HE, by simp [hMl]; omega, by rw [List.length_append, i64L_append]; exact hown6, (grew_alloc' hg5 _).grown hgrow6 (by simp; omega) (fun j hj => own_base hown5 j hj)⟩
          case measure => simp [intOf]; omega
        · have hjs' : s % 9 = (j : Int) := by omega
          obtain ⟨D, dc, rfl, _, _, hD⟩ := own_rd hownM
          have HK : Hid (CF F W p D M none [] wr) := Lib.hid ⟨km.cell, km.lt, hD, km.rb, km.gr⟩
          have hq := km.cell
          have cD : ∀ w, Rd w w.heap.size D (i64L M) → Calls Try.prog 19 #[.slice D M.length dc] w fun e W' => ∃ v, e = .returned v ∧ W'.ownsRow w.heap.size 3 1 v M.length ((distI M).map (Value.int .i64)) ∧ Below w.heap.size w W' := fun w h => by
            have := distinct_ok D dc M (by omega) w h
            rw [hEM.out.2.2.1] at this
            exact this
          have CD := Lib.hid cD
          have e5 : IntKind.i64.wrap (3 * F) = 3 * F := IntWalk.i64_in _ (by omega)
          have e6 : IntKind.i64.wrap (3 * F + 1) = 3 * F + 1 := IntWalk.i64_in _ (by omega)
          have e7 : IntKind.i64.wrap (2 * F) = 2 * F := IntWalk.i64_in _ (by omega)
          have e8 : IntKind.i64.wrap (2 * F + 1) = 2 * F + 1 := IntWalk.i64_in _ (by omega)
          have hMb : M.length ≤ 1048576 := by omega
          clear hownM hD km cD qm e1 hss hjs hjs' hMl hLl
          by_cases hqi : 2 * F + 1 ≤ (i : Int)
          · have cE : ∀ w, Rd w w.heap.size D (i64L M) → Calls Try.prog 27 #[.agg #[.int .i64 F], .slice D M.length dc] w fun e w' => e = .returned (.bool true) ∧ Grew w w' := fun w h => by
              have := enough_ok F hF D dc M hMb w h
              rw [hEM.out.2.2.2, decide_eq_true hqi] at this
              exact this
            have CE := Lib.hid cE
            clear cE
            go_wp2_with fail
            go_region_held3 (fun w' => w'.cell? ⟨p, 0, none⟩ = some (.int .i64 F)) (go_keep)
              (first
                | (go_at_call 27; refine (CE.out _ (by exact HK.out.ra)).mono ?_; rintro e w5 ⟨rfl, hb5⟩; have HK := Lib.hid (show CF F W p D M none [] w5 by first | exact HK.out.step hb5 | exact HK.out.step (grew_undrew1 hb5)); have hq5 := HK.out.cell)
                | (go_at_call 25; refine (qq_ok F hF _).mono ?_; rintro e w5 ⟨rfl, hb5⟩; have HK := Lib.hid (show CF F W p D M none [] w5 by first | exact HK.out.step hb5 | exact HK.out.step (grew_undrew1 hb5)); have hq5 := HK.out.cell)
                | (go_at_call 23; refine (qn_ok F hF _).mono ?_; rintro e w5 ⟨rfl, hb5⟩; have HK := Lib.hid (show CF F W p D M none [] w5 by first | exact HK.out.step hb5 | exact HK.out.step (grew_undrew1 hb5)); have hq5 := HK.out.cell)
                | (go_at_call 19; refine (CD.out _ (by exact HK.out.ra)).mono ?_; rintro e w5 ⟨v5, rfl, ho5, hb5⟩; obtain ⟨D5, c5, rfl, _, _, _⟩ := own_rd ho5; have HK := Lib.hid (show CF F W p D M none [] w5 by first | exact HK.out.step hb5 | exact HK.out.step (grew_undrew1 hb5)); have hq5 := HK.out.cell))
            go_wp2_with fail
            go_ret
            exact ⟨rfl, HK.out.gr⟩
          · have cE : ∀ w, Rd w w.heap.size D (i64L M) → Calls Try.prog 27 #[.agg #[.int .i64 F], .slice D M.length dc] w fun e w' => e = .returned (.bool false) ∧ Grew w w' := fun w h => by
              have := enough_ok F hF D dc M hMb w h
              rw [hEM.out.2.2.2, decide_eq_false hqi] at this
              exact this
            have CE := Lib.hid cE
            have hqd : decide (2 * F + 1 ≤ (i : Int)) = false := decide_eq_false hqi
            clear cE
            go_wp2_with fail
            go_region_held3 (fun w' => w'.cell? ⟨p, 0, none⟩ = some (.int .i64 F)) (go_keep)
              (first
                | (go_at_call 27; refine (CE.out _ (by exact HK.out.ra)).mono ?_; rintro e w5 ⟨rfl, hb5⟩; have HK := Lib.hid (show CF F W p D M none [] w5 by first | exact HK.out.step hb5 | exact HK.out.step (grew_undrew1 hb5)); have hq5 := HK.out.cell)
                | (go_at_call 25; refine (qq_ok F hF _).mono ?_; rintro e w5 ⟨rfl, hb5⟩; have HK := Lib.hid (show CF F W p D M none [] w5 by first | exact HK.out.step hb5 | exact HK.out.step (grew_undrew1 hb5)); have hq5 := HK.out.cell)
                | (go_at_call 23; refine (qn_ok F hF _).mono ?_; rintro e w5 ⟨rfl, hb5⟩; have HK := Lib.hid (show CF F W p D M none [] w5 by first | exact HK.out.step hb5 | exact HK.out.step (grew_undrew1 hb5)); have hq5 := HK.out.cell)
                | (go_at_call 19; refine (CD.out _ (by exact HK.out.ra)).mono ?_; rintro e w5 ⟨v5, rfl, ho5, hb5⟩; obtain ⟨D5, c5, rfl, _, _, _⟩ := own_rd ho5; have HK := Lib.hid (show CF F W p D M none [] w5 by first | exact HK.out.step hb5 | exact HK.out.step (grew_undrew1 hb5)); have hq5 := HK.out.cell))
            go_wp2_with fail
            go_ret
            exact ⟨rfl, HK.out.gr⟩
end Go.Proofs.Ytpoimhjencpieaa
