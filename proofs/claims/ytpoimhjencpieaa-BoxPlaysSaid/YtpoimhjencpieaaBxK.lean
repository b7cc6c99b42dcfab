/- known of layer 7. -/
import Derived.Test.YtpoimhjencpieaaBxD
import Derived.Test.YtpoimhjencpieaaInt
namespace Go.Proofs.Ytpoimhjencpieaa
open Go.Conc Go.RowKit
set_option linter.unusedVariables false
theorem grew_kp {S : Nat → Prop} {a b c : World} (h : Grew a b) (k : Kp S b c) (hS : ∀ i, S i → a.heap.size ≤ i) : Grew a c := below_kp h k h.size hS
set_option maxRecDepth 100000 in
set_option maxHeartbeats 1000000 in
theorem bknown_any (w : World) : Calls Try.prog 31 #[] w fun e w' => e = .returned (.bool true) ∧ Grew w w' := by
  go_enter Try.func31, Try.ntmps31
  go_wp2_with fail
  refine (bnew_ok 1 2 (by omega) (by omega) w).mono ?_
  rintro e w1 ⟨g, c1, c2, rfl, hg, hc1, hc2, hb1, hgr1⟩
  have hb1 : BoxI w1 g c1 c2 1 2 [] [] := hb1
  go_wp2_with fail
  refine (bnew_bad 0 1 (by omega) _).mono ?_
  rintro e w1 ⟨rfl, rfl⟩
  go_wp2_with fail
  refine (bput2 g c1 c2 1 2 [] [] 1 _ hb1 (by decide)).mono ?_
  rintro e w2 ⟨rfl, hb2, hk2⟩
  have gr2 := grew_kp hgr1 hk2 (fun i hi => by subst hi; exact hc2)
  clear hb1 hgr1 hk2
  go_wp2_with fail
  refine (bput1 g c1 c2 1 2 [] [1] 2 _ hb2 (by decide)).mono ?_
  rintro e w3 ⟨rfl, hb3, hk3⟩
  have gr3 := grew_kp gr2 hk3 (fun i hi => by subst hi; exact hc1)
  clear hb2 gr2 hk3
  go_wp2_with fail
  refine (bput1_full g c1 c2 1 2 [2] [1] 3 _ hb3 (by decide)).mono ?_
  rintro e w3 ⟨rfl, rfl⟩
  go_wp2_with fail
  refine (bput2 g c1 c2 1 2 [2] [1] 4 _ hb3 (by decide)).mono ?_
  rintro e w4 ⟨rfl, hb4, hk4⟩
  have gr4 := grew_kp gr3 hk4 (fun i hi => by subst hi; exact hc2)
  clear hb3 gr3 hk4
  go_wp2_with fail
  refine (ball_ok g c1 c2 1 2 [2] [1, 4] _ hb4).mono ?_
  rintro e w5 ⟨v5, rfl, ho5, hb5, hk5⟩
  have gr5 := grew_kp gr4 hk5 (fun i hi => by rcases hi with rfl | rfl <;> assumption)
  have l1 := hb4.h1.lt
  have l2 := hb4.h2.lt
  have lg := hb4.bk.lt
  have ho5 : w5.ownsRow w4.heap.size 3 1 v5 3 (i64L [2, 1, 4]) := ho5
  clear hb4 gr4 hk5
  go_wp2_with fail
  refine (btwin_ok g c1 c2 1 2 [2] [1, 4] _ hb5).mono ?_
  rintro e w6 ⟨tg, t1, t2, rfl, htg, ht1, ht2, htw, hb6, hk6⟩
  have gr6 := grew_kp gr5 hk6 (fun i hi => by rcases hi with rfl | rfl <;> assumption)
  have hz5 := gr5.size
  have ho6 := ownsRow_kp ho5 hk6 (fun q hq hh => by have h3 := own_base ho5 q hq; rcases hh with rfl | rfl <;> omega)
  have m1 := hb5.h1.lt
  have m2 := hb5.h2.lt
  clear hb5 gr5 hk6 ho5
  go_wp2_with fail
  refine (blen g c1 c2 1 2 [2] [1, 4] _ hb6).mono ?_
  rintro e w' ⟨rfl, n6, rfl⟩
  have htw : BoxI (w6.drewN n6) tg t1 t2 1 2 [2] [1, 4] := htw.kp (kp_drewN (kp_refl (fun _ => False) w6) n6) id id id
  have hb6 : BoxI (w6.drewN n6) g c1 c2 1 2 [2] [1, 4] := hb6.kp (kp_drewN (kp_refl (fun _ => False) w6) n6) id id id
  have gr6 := grew_drewN' gr6 n6
  have ho6 := ownsRow_kp ho6 (kp_drewN (kp_refl (fun _ => False) w6) n6) (fun _ _ => id)
  generalize w6.drewN n6 = w7 at *
  go_wp2_with fail
  refine (btake1 g c1 c2 1 2 2 [] [1, 4] _ hb6).mono ?_
  rintro e w8 ⟨rfl, hb8, hk8⟩
  have gr8 := grew_kp gr6 hk8 (fun i hi => by subst hi; exact hc1)
  have ho8 := ownsRow_kp ho6 hk8 (fun q hq hh => by have h3 := own_base ho6 q hq; omega)
  have htw8 := htw.kp hk8 (by omega) (by omega) (by omega)
  clear hb6 gr6 hk8 ho6 htw
  go_wp2_with fail
  refine (bclear_ok g c1 c2 1 2 [] [1, 4] _ hb8).mono ?_
  rintro e w9 ⟨rfl, hb9, hk9⟩
  have gr9 := grew_kp gr8 hk9 (fun i hi => by rcases hi with rfl | rfl <;> assumption)
  have ho9 := ownsRow_kp ho8 hk9 (fun q hq hh => by have h3 := own_base ho8 q hq; rcases hh with rfl | rfl <;> omega)
  have htw9 := htw8.kp hk9 (fun hh => by rcases hh with rfl | rfl <;> omega) (fun hh => by rcases hh with rfl | rfl <;> omega) (fun hh => by rcases hh with rfl | rfl <;> omega)
  clear hb8 gr8 hk9 ho8 htw8
  go_wp2_with fail
  refine (btake0 g c1 c2 1 2 _ hb9).mono ?_
  rintro e w9 ⟨rfl, rfl⟩
  obtain ⟨A9, d9, rfl, _, _, r9⟩ := own_rd ho9
  have e1 : IntKind.i64.wrap 0 = 0 := IntWalk.i64_in _ (by omega)
  go_wp2_with fail
  refine (ints_same2 A9 _ d9 3 _ _ _ _ [2, 1, 4] rfl rfl (by decide) _ (r9.alloc (Nat.le_refl _) _) (rd_new w9 3 #[.int .i64 2, .int .i64 1, .int .i64 4] (0, 0))).mono ?_
  rintro e w' ⟨rfl, n10, rfl⟩
  have gr10 := grew_drewN' (grew_alloc' gr9 (.cells #[.int .i64 2, .int .i64 1, .int .i64 4] 3)) n10
  have htw10 := htw9.kp (kp_drewN (kp_alloc (kp_refl (fun _ => False) w9) (.cells #[.int .i64 2, .int .i64 1, .int .i64 4] 3)) n10) id id id
  generalize (w9.alloc (.cells #[.int .i64 2, .int .i64 1, .int .i64 4] 3)).drewN n10 = w10 at *
  clear r9 ho9 hb9 gr9 htw9
  go_wp2_with fail
  refine (ball_ok tg t1 t2 1 2 [2] [1, 4] _ htw10).mono ?_
  rintro e w11 ⟨v11, rfl, ho11, hb11, hk11⟩
  have hz6 := gr10.size
  have gr11 := grew_kp gr10 hk11 (fun i hi => by rcases hi with rfl | rfl <;> omega)
  have ho11 : w11.ownsRow w10.heap.size 3 1 v11 3 (i64L [2, 1, 4]) := ho11
  obtain ⟨A11, d11, rfl, _, _, r11⟩ := own_rd ho11
  clear ho11 hb11 hk11 gr10 htw10
  go_wp2_with fail
  refine (ints_same2 A11 _ d11 3 _ _ _ _ [2, 1, 4] rfl rfl (by decide) _ (r11.alloc (Nat.le_refl _) _) (rd_new w11 3 #[.int .i64 2, .int .i64 1, .int .i64 4] (0, 0))).mono ?_
  rintro e w' ⟨rfl, n12, rfl⟩
  go_wp2_with fail
  go_ret
  exact ⟨rfl, grew_drewN' (grew_alloc' gr11 _) n12⟩
end Go.Proofs.Ytpoimhjencpieaa
