/- known of layer 6. -/
import Derived.Test.YtpoimhjencpieaaQlt
import Derived.Test.YtpoimhjencpieaaInt
namespace Go.Proofs.Ytpoimhjencpieaa
open Go.RowKit Go.Maps
set_option linter.unusedVariables false
set_option maxRecDepth 100000 in
theorem qknown_any (w : World) : Calls Try.prog 15 #[] w fun e w' => e = .returned (.bool true) ∧ Grew w w' := by
  go_enter Try.func15, Try.ntmps15
  go_wp2_with fail
  have hb0 : Below w.heap.size w (w.alloc (.cells #[.int .i64 1] 25)) := (Below.refl _ w).alloc (Nat.le_refl _) _
  have hc0 := (Boxed.new w 25 (.int .i64 1)).cell
  have hr1 := (rd_new (w.alloc (.cells #[.int .i64 1] 25)) 3 #[.int .i64 12, .int .i64 25, .int .i64 13] (0, 0))
  have hb1 := hb0.alloc (by simp) (.cells #[.int .i64 12, .int .i64 25, .int .i64 13] 3)
  have hc1 := (Below.refl _ (w.alloc (.cells #[.int .i64 1] 25))).alloc (Nat.le_refl _) (.cells #[.int .i64 12, .int .i64 25, .int .i64 13] 3)
  have hc1 := (hc1.cell (p := ⟨w.heap.size, 0, none⟩) (by simp)).trans hc0
  rw [World.size_alloc] at hr1
  refine (by_tens_ok (H := Unit) _ 3 [12, 25, 13] (by decide) (by simp) _ (hr1.more (by simp))).mono ?_
  rintro e w2 ⟨rfl, hm2, hb2⟩
  have hz2 : ((w.alloc (.cells #[.int .i64 1] 25)).alloc (.cells #[.int .i64 12, .int .i64 25, .int .i64 13] 3)).heap.size = w.heap.size + 2 := by simp
  rw [hz2] at hm2
  have hk2 : KQ w w2 := ⟨(hb2.cell (p := ⟨w.heap.size, 0, none⟩) (by simp; omega)).trans hc1, hm2, hb1.trans (hb2.mono (by simp; omega)), hm2.lt⟩
  clear hm2 hb2 hb1 hc1 hr1 hc0 hb0
  have q2 := hk2.1
  go_wp2_with fail
  refine (qn_ok 1 (by omega) _).mono ?_
  rintro e w3 ⟨rfl, hb3⟩
  have hk3 := hk2.step hb3
  have q3 := hk3.1
  go_wp2_with fail
  refine (qq_ok 1 (by omega) _).mono ?_
  rintro e w4 ⟨rfl, hb4⟩
  have hk4 := hk3.step hb4
  have q4 := hk4.1
  clear q2 q3 hb3 hb4 hk2 hk3
  go_wp2_with fail
  have r4 := rd_new w4 3 #[.int .i64 3, .int .i64 1, .int .i64 3] (0, 0)
  refine (distinct_ok _ 3 [3, 1, 3] (by decide) _ (r4.more (by simp))).mono ?_
  rintro e w5 ⟨v5, rfl, ho5, hb5⟩
  have hk5 := (hk4.alloc _).step hb5
  rw [lit_dist] at ho5
  obtain ⟨D5, c5, rfl, _, _, r5⟩ := own_rd ho5
  have q5 := hk5.1
  clear q4 r4 hk4 hb5 ho5
  go_wp2_with fail
  refine (ints_same2 D5 _ c5 2 _ _ _ _ [1, 3] rfl rfl (by decide) _ (r5.alloc (Nat.le_refl _) _) (rd_new w5 3 #[.int .i64 1, .int .i64 3] (0, 0))).mono ?_
  rintro e w' ⟨rfl, n6, rfl⟩
  have hk6 := (hk5.alloc (.cells #[.int .i64 1, .int .i64 3] 3)).step (grew_drewN' (Below.refl _ _) n6)
  generalize (w5.alloc (.cells #[.int .i64 1, .int .i64 3] 3)).drewN n6 = w6 at *
  have q6 := hk6.1
  clear q5 r5 hk5
  go_wp2_with fail
  have r6 := rd_new w6 3 #[.int .i64 0, .int .i64 3, .int .i64 1, .int .i64 3] (0, 0)
  have cE := enough_ok 1 (by omega) _ 4 [0, 3, 1, 3] (by decide) _ (r6.more (by simp))
  rw [lit_cnt1, show decide ((2 : Int) * 1 + 1 ≤ ((3 : Nat) : Int)) = true from rfl] at cE
  refine cE.mono ?_
  rintro e w7 ⟨rfl, hb7⟩
  have hk7 := (hk6.alloc _).step hb7
  have q7 := hk7.1
  clear q6 r6 hk6 hb7 cE
  go_wp2_with fail
  have r7 := rd_new w7 3 #[.int .i64 0, .int .i64 4, .int .i64 1, .int .i64 (-1)] (0, 0)
  have cE := enough_ok 1 (by omega) _ 4 [0, 4, 1, -1] (by decide) _ (r7.more (by simp))
  rw [lit_cnt2, show decide ((2 : Int) * 1 + 1 ≤ ((2 : Nat) : Int)) = false from rfl] at cE
  refine cE.mono ?_
  rintro e w8 ⟨rfl, hb8⟩
  have hk8 := (hk7.alloc _).step hb8
  have q8 := hk8.1
  clear q7 r7 hk7 hb8 cE
  go_wp2_with fail
  have r8 := rd_new w8 3 #[.int .i64 2, .int .i64 1, .int .i64 2] (0, 0)
  have r8' := r8.alloc (o := .cells #[.int .i64 3, .int .i64 2] 3) (by simp)
  have r9 := rd_new (w8.alloc (.cells #[.int .i64 2, .int .i64 1, .int .i64 2] 3)) 3 #[.int .i64 3, .int .i64 2] (0, 0)
  rw [World.size_alloc] at r9
  refine (common_ok _ _ 3 2 [2, 1, 2] [3, 2] (by decide) (by decide) (by simp) (fun x hx => by rw [(distI_facts _).2] at hx; simp at hx; omega) _ (r8'.more (by simp)) (r9.more (by simp))).mono ?_
  rintro e w9 ⟨v9, rfl, ho9, hb9⟩
  have hk9 := ((hk8.alloc _).alloc _).step hb9
  rw [lit_com] at ho9
  obtain ⟨D9, c9, rfl, _, _, r9⟩ := own_rd ho9
  have q9 := hk9.1
  clear q8 r8 hk8 hb9 ho9
  go_wp2_with fail
  refine (ints_same2 D9 _ c9 1 _ _ _ _ [2] rfl rfl (by decide) _ (r9.alloc (Nat.le_refl _) _) (rd_new w9 3 #[.int .i64 2] (0, 0))).mono ?_
  rintro e w' ⟨rfl, n10, rfl⟩
  have hk10 := (hk9.alloc (.cells #[.int .i64 2] 3)).step (grew_drewN' (Below.refl _ _) n10)
  generalize (w9.alloc (.cells #[.int .i64 2] 3)).drewN n10 = w10 at *
  have q10 := hk10.1
  clear q9 r9 hk9
  go_wp2_with fail
  refine (qcheck_ok 1 _).mono ?_
  rintro e w11 ⟨rfl, hb11⟩
  have hk11 := hk10.step hb11
  have q11 := hk11.1
  clear q10 hk10 hb11
  go_wp2_with fail
  refine (qcheck_ok 4 _).mono ?_
  rintro e w12 ⟨rfl, hb12⟩
  have hk12 := hk11.step hb12
  have q12 := hk12.1
  clear q11 hk11 hb12
  have hlen := hk12.2.1.len Try.underlying39 3
  rw [lit_size] at hlen
  obtain ⟨x1, hx1, ha1, -⟩ := hk12.2.1.lookup_int int_law Try.underlying39 Try.underlying3 (int_zero _) (keyOf_int_mk Try.underlying3 (WalkArith.wf_i64 (n := 1) (by omega)))
  obtain ⟨x2, hx2, ha2, -⟩ := hk12.2.1.lookup_int int_law Try.underlying39 Try.underlying3 (int_zero _) (keyOf_int_mk Try.underlying3 (WalkArith.wf_i64 (n := 2) (by omega)))
  rw [lit_at1] at ha1
  rw [lit_at2] at ha2
  obtain rfl : (12 : Int) = x1 := by injection ha1 with h; injection h
  obtain rfl : (25 : Int) = x2 := by injection ha2 with h; injection h
  go_wp2_with fail
  go_ret
  exact ⟨rfl, hk12.2.2.1⟩
end Go.Proofs.Ytpoimhjencpieaa
