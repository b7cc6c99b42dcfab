/- known of layer 1. -/
import Derived.Test.YthbphlbjjoddeaaDoorFdF
import Derived.Test.YthbphlbjjoddeaaDoorFdK
import Derived.Test.YthbphlbjjoddeaaDoorNmJ
import Derived.Test.YthbphlbjjoddeaaDoorNmK
import Derived.Test.YthbphlbjjoddeaaDoorNmN
namespace Go.Proofs.YthbphlbjjoddeaaDoor
open Go.RowKit
set_option linter.unusedVariables false
theorem Rd.grew {w w' : World} {A : Option Addr} {xs : List Value} (h : Rd w w.heap.size A xs) (hb : Grew w w') : Rd w' w'.heap.size A xs := (h.below hb).more hb.size
theorem split_some {s : ByteArray} {l : List (List UInt8)} (h : splitF s.data.toList = some l) (hl : l.length ≤ 4096) (hs : s.size ≤ 100000000) (w : World) :
    Calls Tryd.prog 17 #[.string s] w fun e w' => (∃ v, e = .returned (.tuple #[v, .int .i64 0]) ∧ w'.ownsRow w.heap.size 9 1 v l.length (strL (txt l))) ∧ Grew w w' :=
  (split_ok s hs w).mono fun e w' ⟨hh, hg⟩ => by
    refine ⟨?_, hg⟩
    rcases hh with ⟨h1, _⟩ | ⟨l', h1, h2⟩
    · rw [h] at h1; cases h1
    · rw [h] at h1
      injection h1 with h1
      subst h1
      rcases h2 with ⟨h3, _⟩ | ⟨_, h4⟩
      · omega
      · exact h4
theorem split_none {s : ByteArray} (h : splitF s.data.toList = none) (hs : s.size ≤ 100000000) (w : World) :
    Calls Tryd.prog 17 #[.string s] w fun e w' => e = .returned (.tuple #[.slice none 0 0, .int .i64 2]) ∧ Grew w w' :=
  (split_ok s hs w).mono fun e w' ⟨hh, hg⟩ => by
    refine ⟨?_, hg⟩
    rcases hh with ⟨_, h1⟩ | ⟨l', h1, _⟩
    · exact h1
    · rw [h] at h1; cases h1
theorem parseNum_lit (s : List UInt8) (v e : Int) (h : pnum s = (v, e)) (hz : s.length ≤ 1000) (w : World) (hs : Std w) :
    Calls Tryd.prog 24 #[.string ⟨s.toArray⟩] w fun e' w' => e' = .returned (.tuple #[.int .i64 v, .int .i64 e]) ∧ Grew w w' := by
  have := parseNum_ok ⟨s.toArray⟩ (by show s.toArray.size ≤ _; simp; omega) w hs
  simpa [h] using this
theorem parseNums_lit (s : List UInt8) (l : List Int) (e : Int) (h : pnums s = (l, e)) (hz : s.length ≤ 1000) (w : World) (hs : Std w) (hg8 : 3 < w.heap.size) :
    Calls Tryd.prog 22 #[.string ⟨s.toArray⟩] w fun e' w' => (∃ v, e' = .returned (.tuple #[v, .int .i64 e]) ∧ w'.ownsRow w.heap.size 2 1 v l.length (i64L l)) ∧ Grew w w' := by
  have := parseNums_ok ⟨s.toArray⟩ (by show s.toArray.size ≤ _; simp; omega) w hs hg8
  simpa [h] using this
def knL : List ByteArray := [⟨#[97, 124, 98]⟩, ⟨#[]⟩, ⟨#[92]⟩]
theorem knL_join : joinF (bys knL) = [124, 97, 92, 124, 98, 124, 124, 92, 92] := by decide
theorem knL_split : splitF [124, 97, 92, 124, 98, 124, 124, 92, 92] = some (bys knL) := by decide +kernel
theorem kn_none1 : splitF [97] = none := by decide +kernel
theorem kn_none2 : splitF [124, 97, 92, 98] = none := by decide +kernel
theorem kn_p1 : pnum [45, 57, 50, 50, 51, 51, 55, 50, 48, 51, 54, 56, 53, 52, 55, 55, 53, 56, 48, 56] = (-9223372036854775808, 0) := by decide +kernel
theorem kn_p2 : pnum [45, 48] = (0, 2) := by decide +kernel
theorem kn_p3 : pnum [57, 50, 50, 51, 51, 55, 50, 48, 51, 54, 56, 53, 52, 55, 55, 53, 56, 48, 56] = (0, 4) := by decide +kernel
theorem kn_p4 : pnums [49, 44, 45, 50, 44, 51] = ([1, -2, 3], 0) := by decide +kernel
theorem kn_p5 : pnums [57, 57, 57, 57, 57, 57, 57, 57, 57, 57, 57, 57, 57, 57, 57, 57, 57, 57, 57, 57, 44, 97] = ([], 2) := by decide +kernel
theorem kn_n : nums [1, -2, 3] = [49, 44, 45, 50, 44, 51] := by
  have := nums_pnums (s := [49, 44, 45, 50, 44, 51]) (by rw [kn_p4])
  rwa [kn_p4] at this
theorem kn_0 : Lib.itoa 0 = [48] := by
  have := (pnum_zero (l := [48]) (by decide +kernel)).1
  rwa [show (pnum [48]).1 = 0 from by decide +kernel] at this
theorem bys_txt (l : List ByteArray) : txt (bys l) = l := by
  unfold txt bys
  rw [List.map_map]
  conv => rhs; rw [← List.map_id l]
  apply List.map_congr_left
  intro x _
  simp
set_option maxRecDepth 100000 in
set_option maxHeartbeats 2000000 in
theorem fknown_ok (w : World) (hs : Std w) (hg8 : 3 < w.heap.size) : Calls Tryd.prog 14 #[] w fun e w' => e = .returned (.bool true) ∧ Grew w w' := by
  go_enter Tryd.func14, Tryd.ntmps14
  go_wp2_with fail
  have g1 := grew_alloc (grew_refl w) (.cells #[.string ⟨#[97, 124, 98]⟩, .string ⟨#[]⟩, .string ⟨#[92]⟩] 9)
  have r1 := rd_new w 9 #[.string ⟨#[97, 124, 98]⟩, .string ⟨#[]⟩, .string ⟨#[92]⟩] (0, 0)
  have cJ := join_ok _ 3 knL (by decide) (by rw [knL_join]; decide) _ (r1.more (by simp))
  rw [knL_join] at cJ
  refine cJ.mono ?_
  clear cJ
  rintro e w1 ⟨rfl, gg⟩
  have g2 := grew_trans g1 gg
  clear g1 gg r1
  go_wp2_with fail
  refine (split_some (l := bys knL) knL_split (by decide) (by decide) w1).mono ?_
  rintro e w2 ⟨⟨v2, rfl, o2⟩, gg⟩
  have g3 := grew_trans g2 gg
  obtain ⟨A2, c2, rfl, _, _, r2⟩ := own_rd o2
  clear g2 gg o2
  go_wp2_with fail
  refine (split_none kn_none1 (by decide) w2).mono ?_
  rintro e w3 ⟨rfl, gg⟩
  have g4 := grew_trans g3 gg
  have r3 := r2.grew gg
  clear g3 gg r2
  go_wp2_with fail
  refine (split_none kn_none2 (by decide) w3).mono ?_
  rintro e w4 ⟨rfl, gg⟩
  have g5 := grew_trans g4 gg
  have r4 := r3.grew gg
  clear g4 gg r3
  go_wp2_with fail
  refine (parseNum_lit _ _ _ kn_p1 (by decide) w4 (hs.grew g5)).mono ?_
  rintro e w5 ⟨rfl, gg⟩
  have g6 := grew_trans g5 gg
  have r5 := r4.grew gg
  clear g5 gg r4
  go_wp2_with fail
  refine (parseNum_lit _ _ _ kn_p2 (by decide) w5 (hs.grew g6)).mono ?_
  rintro e w6 ⟨rfl, gg⟩
  have g7 := grew_trans g6 gg
  have r6 := r5.grew gg
  clear g6 gg r5
  go_wp2_with fail
  refine (parseNum_lit _ _ _ kn_p3 (by decide) w6 (hs.grew g7)).mono ?_
  rintro e w7 ⟨rfl, gg⟩
  have g8 := grew_trans g7 gg
  have r7 := r6.grew gg
  clear g7 gg r6
  go_wp2_with fail
  refine (parseNums_lit _ _ _ kn_p4 (by decide) w7 (hs.grew g8) (Nat.lt_of_lt_of_le hg8 g8.size)).mono ?_
  rintro e w8 ⟨⟨v8, rfl, o8⟩, gg⟩
  have g9 := grew_trans g8 gg
  have r8 := r7.grew gg
  obtain ⟨A8, c8, rfl, _, _, s8⟩ := own_rd o8
  clear g8 gg r7 o8
  go_wp2_with fail
  refine (parseNums_lit _ _ _ kn_p5 (by decide) w8 (hs.grew g9) (Nat.lt_of_lt_of_le hg8 g9.size)).mono ?_
  rintro e w9 ⟨⟨v9, rfl, o9⟩, gg⟩
  have g10 := grew_trans g9 gg
  have r9 := r8.grew gg
  have s9 := s8.grew gg
  clear g9 gg r8 s8 o9
  go_wp2_with fail
  have t9 := rd_new w9 9 #[.string ⟨#[97, 124, 98]⟩, .string ⟨#[]⟩, .string ⟨#[92]⟩] (0, 0)
  have cN := names_any _ _ c2 3 _ _ (txt (bys knL)) knL (by decide) (by decide) _ (r9.alloc (Nat.le_refl _) (.cells #[.string ⟨#[97, 124, 98]⟩, .string ⟨#[]⟩, .string ⟨#[92]⟩] 9)) t9
  rw [decide_eq_true (bys_txt knL)] at cN
  refine cN.mono ?_
  clear cN
  rintro e w10 ⟨rfl, n10, hw⟩
  have gg : Grew w9 w10 := by rw [hw]; exact grew_drewN (grew_alloc (grew_refl w9) _) n10
  have g11 := grew_trans g10 gg
  have s10 := s9.grew gg
  clear g10 gg r9 s9 t9 hw
  go_wp2_with fail
  have t10 := rd_new w10 2 #[.int .i64 1, .int .i64 (-2), .int .i64 3] (0, 0)
  have cI := ints_any _ _ c8 3 _ _ [1, -2, 3] [1, -2, 3] (by decide) (by decide) _ (s10.alloc (Nat.le_refl _) (.cells #[.int .i64 1, .int .i64 (-2), .int .i64 3] 2)) t10
  rw [decide_eq_true rfl] at cI
  refine cI.mono ?_
  clear cI
  rintro e w11 ⟨rfl, n11, hw⟩
  have gg : Grew w10 w11 := by rw [hw]; exact grew_drewN (grew_alloc (grew_refl w10) _) n11
  have g12 := grew_trans g11 gg
  have s11 := s10.grew gg
  clear g11 gg s10 t10 hw
  go_wp2_with fail
  have cU := nums_ok A8 c8 [1, -2, 3] (by decide) (by unfold in64; simp) w11 (hs.grew g12) s11
  rw [kn_n] at cU
  refine cU.mono ?_
  clear cU
  rintro e w12 ⟨rfl, gg⟩
  have g13 := grew_trans g12 gg
  have s12 := s11.grew gg
  clear g12 gg s11
  go_wp2_with fail
  have cO := num_ok 0 (by decide) (by decide) w12 (hs.grew g13)
  rw [kn_0] at cO
  refine cO.mono ?_
  clear cO
  rintro e w13 ⟨rfl, gg⟩
  have g14 := grew_trans g13 gg
  have s13 := s12.grew gg
  clear g13 gg s12
  go_wp2_with fail
  refine (join_ok none 0 [] (by decide) (by decide) w13 (Rd.nil_ _ _ _)).mono ?_
  rintro e w14 ⟨rfl, gg⟩
  have g15 := grew_trans g14 gg
  have s14 := s13.grew gg
  clear g14 gg s13
  go_wp2_with fail
  refine (mapTwice_ok A8 c8 [1, -2, 3] (by decide) (by unfold in64; simp) w14 (hs.grew g15) s14).mono ?_
  rintro e w15 ⟨v15, rfl, o15, gg⟩
  have g16 := grew_trans g15 gg
  obtain ⟨A15, c15, rfl, _, _, r15⟩ := own_rd o15
  have hm : [1, -2, 3].map tw = [2, -4, 6] := by decide +kernel
  rw [hm] at r15
  have r15 : Rd w15 w15.heap.size A15 (i64L [2, -4, 6]) := r15
  clear g15 gg s14 o15 hm
  go_wp2_with fail
  have t15 := rd_new w15 2 #[.int .i64 2, .int .i64 (-4), .int .i64 6] (0, 0)
  have cI := ints_any _ _ c15 3 _ _ [2, -4, 6] [2, -4, 6] (by decide) (by decide) _ (r15.alloc (Nat.le_refl _) (.cells #[.int .i64 2, .int .i64 (-4), .int .i64 6] 2)) t15
  rw [decide_eq_true rfl] at cI
  refine cI.mono ?_
  clear cI
  rintro e w16 ⟨rfl, n16, hw⟩
  have gg : Grew w15 w16 := by rw [hw]; exact grew_drewN (grew_alloc (grew_refl w15) _) n16
  have g17 := grew_trans g16 gg
  clear g16 gg r15 t15 hw
  go_wp2_with fail
  go_ret
  exact ⟨rfl, g17⟩
end Go.Proofs.YthbphlbjjoddeaaDoor
