/- QuorumAny. -/
import Derived.Test.YtpoimhjencpieaaQkn
import Derived.Test.YtpoimhjencpieaaQrE
namespace Go.Proofs.Ytpoimhjencpieaa
open Go.RowKit
set_option linter.unusedVariables false
/-- What stands while a law runs: the conf's cell (or none yet), two rows that came in. -/
structure CF (f : Int) (W : World) (p : Nat) (A : Option Addr) (a : List Int) (B : Option Addr) (b : List Int) (w : World) : Prop where
  cell : w.cell? ⟨p, 0, none⟩ = some (.int .i64 f)
  lt : p < w.heap.size
  ra : Rd w w.heap.size A (i64L a)
  rb : Rd w w.heap.size B (i64L b)
  gr : Grew W w
theorem CF.step {f : Int} {W : World} {p : Nat} {A : Option Addr} {a : List Int} {B : Option Addr} {b : List Int} {w w' : World} (h : CF f W p A a B b w) (g : Grew w w') : CF f W p A a B b w' :=
  ⟨(g.cell (p := ⟨p, 0, none⟩) h.lt).trans h.cell, Nat.lt_of_lt_of_le h.lt g.size, (h.ra.below g).more g.size, (h.rb.below g).more g.size, grew_trans h.gr g⟩
theorem CF.made {f : Int} {W : World} {A : Option Addr} {a : List Int} {B : Option Addr} {b : List Int} {w : World} (hg : Grew W w) (ha : Rd W W.heap.size A (i64L a)) (hb : Rd W W.heap.size B (i64L b)) :
    CF f W w.heap.size A a B b (w.alloc (.cells #[.int .i64 f] 25)) := by
  have g1 : Grew W (w.alloc (.cells #[.int .i64 f] 25)) := grew_alloc' hg _
  exact ⟨(Boxed.new w 25 (.int .i64 f)).cell, by simp, (ha.below g1).more g1.size, (hb.below g1).more g1.size, g1⟩
theorem qany_big (f : Int) (A B : Option Addr) (c c' : Nat) (a b : List Int) (W : World) (h : 60 < a.length ∨ 60 < b.length) :
    Calls Try.prog 3 #[.int .i64 f, .slice A a.length c, .slice B b.length c'] W fun e w' => e = .returned (.bool true) ∧ Grew W w' := by
  by_cases h1 : 60 < a.length
  · have h1' : (60 : Int) < (a.length : Int) := by omega
    go_enter Try.func3, Try.ntmps3
    go_wp2_with fail
    refine (qknown_any _).mono ?_
    rintro e w1 ⟨rfl, hg1⟩
    go_wp2_with fail
    go_ret
    exact ⟨rfl, hg1⟩
  · have h1' : ¬ (60 : Int) < (a.length : Int) := by omega
    have h2' : (60 : Int) < (b.length : Int) := by omega
    go_enter Try.func3, Try.ntmps3
    go_wp2_with fail
    refine (qknown_any _).mono ?_
    rintro e w1 ⟨rfl, hg1⟩
    go_wp2_with fail
    go_ret
    exact ⟨rfl, hg1⟩
set_option maxRecDepth 100000 in
set_option maxHeartbeats 1000000 in
theorem qany_law (f : Int) (A B : Option Addr) (c c' : Nat) (a b : List Int) (W : World) (hza : a.length ≤ 60) (hzb : b.length ≤ 60) (hia : ∀ x ∈ a, -9223372036854775808 ≤ x ∧ x ≤ 9223372036854775807) (hib : ∀ x ∈ b, -9223372036854775808 ≤ x ∧ x ≤ 9223372036854775807)
    (hra : Rd W W.heap.size A (i64L a)) (hrb : Rd W W.heap.size B (i64L b)) :
    Calls Try.prog 3 #[.int .i64 f, .slice A a.length c, .slice B b.length c'] W fun e w' => e = .returned (.bool true) ∧ Grew W w' := by
  have h1' : ¬ (60 : Int) < (a.length : Int) := by omega
  have h2' : ¬ (60 : Int) < (b.length : Int) := by omega
  have hid : ∀ x ∈ distI a, -9223372036854775808 ≤ x ∧ x ≤ 9223372036854775807 := fun x hx => hia x (((distI_facts a).2 x).1 hx)
  have HIB := Lib.hid hib
  have HID := Lib.hid hid
  clear hia hib hid
  have cR := fun w => rcheck_ok f w
  have cQ := fun w => qcheck_ok f w
  obtain ⟨ee, hee⟩ : ∃ ee : Int, (if f < 1 ∨ 3 < f then (1 : Int) else 0) = ee := ⟨_, rfl⟩
  simp only [hee] at cR cQ
  have CR := Lib.hid cR
  have CQ := Lib.hid cQ
  have hok : ee = 0 → 1 ≤ f ∧ f ≤ 3 := by
    intro h
    rw [h] at hee
    by_cases hb : f < 1 ∨ 3 < f
    · rw [if_pos hb] at hee; omega
    · omega
  have HOK := Lib.hid hok
  clear hee hok cR cQ
  go_enter Try.func3, Try.ntmps3
  go_wp2_with fail
  refine (qknown_any _).mono ?_
  rintro e w1 ⟨rfl, hg1⟩
  go_wp2_with fail
  have k1 : CF f W w1.heap.size A a B b _ := CF.made hg1 hra hrb
  clear hra hrb
  refine (CR.out _).mono ?_
  rintro e w' ⟨rfl, rfl⟩
  have q1 := k1.cell
  generalize w1.heap.size = p at *
  generalize w1.alloc (.cells #[.int .i64 f] 25) = w2 at *
  go_wp2_with fail
  refine (CQ.out _).mono ?_
  rintro e w3 ⟨rfl, hg3⟩
  have k3 := k1.step hg3
  clear q1 k1 hg3 hg1
  go_wp2_with fail
  refine (distinct_ok A c a (by omega) _ k3.ra).mono ?_
  rintro e w4 ⟨v4, rfl, ho4, hb4⟩
  obtain ⟨D4, c4, rfl, _, _, r4⟩ := own_rd ho4
  have k4 := k3.step hb4
  clear k3 hb4 ho4
  go_wp2_with fail
  refine (rdist_ok A c a (by omega) _ k4.ra).mono ?_
  rintro e w5 ⟨v5, rfl, ho5, hb5⟩
  obtain ⟨D5, c5, rfl, _, _, r5⟩ := own_rd ho5
  have k5 := k4.step hb5
  have r4' := r4.below hb5
  clear k4 hb5 ho5 r4
  go_wp2_with fail
  refine (ints_same2 D4 D5 c4 c5 _ _ _ _ (distI a) rfl rfl (by have := distI_le a; omega) _ r4' r5).mono ?_
  rintro e w' ⟨rfl, n6, rfl⟩
  have k6 := k5.step (grew_drewN' (Below.refl _ _) n6)
  generalize w5.drewN n6 = w6 at *
  clear k5 r4' r5
  go_wp2_with fail
  refine (common_ok A B c c' a b (by omega) (by omega) HIB.out HID.out _ k6.ra k6.rb).mono ?_
  rintro e w7 ⟨v7, rfl, ho7, hb7⟩
  obtain ⟨D7, c7, rfl, _, _, r7⟩ := own_rd ho7
  have k7 := k6.step hb7
  clear k6 hb7 ho7
  go_wp2_with fail
  refine (rcommon_ok A B c c' a b (by omega) (by omega) _ k7.ra k7.rb).mono ?_
  rintro e w8 ⟨v8, rfl, ho8, hb8⟩
  obtain ⟨D8, c8, rfl, _, _, r8⟩ := own_rd ho8
  have k8 := k7.step hb8
  have r7' := r7.below hb8
  clear k7 hb8 ho8 r7
  go_wp2_with fail
  refine (ints_same2 D7 D8 c7 c8 _ _ _ _ (comI a b) rfl rfl (by have := com_le a b; omega) _ r7' r8).mono ?_
  rintro e w' ⟨rfl, n9, rfl⟩
  have k9 := k8.step (grew_drewN' (Below.refl _ _) n9)
  generalize w8.drewN n9 = w9 at *
  clear k8 r7' r8
  by_cases he : ee = 0
  · have hf := HOK.out he
    subst he
    have q9 := k9.cell
    go_wp2_with fail
    refine (qn_ok f hf _).mono ?_
    rintro e w10 ⟨rfl, hb10⟩
    have k10 := k9.step hb10
    clear q9 k9 hb10
    go_wp2_with fail
    refine (rn_ok f hf _).mono ?_
    rintro e w' ⟨rfl, rfl⟩
    have q10 := k10.cell
    go_wp2_with fail
    refine (qq_ok f hf _).mono ?_
    rintro e w11 ⟨rfl, hb11⟩
    have k11 := k10.step hb11
    clear q10 k10 hb11
    go_wp2_with fail
    refine (rq_ok f hf _).mono ?_
    rintro e w' ⟨rfl, rfl⟩
    have q11 := k11.cell
    go_wp2_with fail
    refine (enough_ok f hf A c a (by omega) _ k11.ra).mono ?_
    rintro e w12 ⟨rfl, hb12⟩
    have k12 := k11.step hb12
    clear q11 k11 hb12
    have cE := renough_ok f hf A c a (by omega) w12 k12.ra
    generalize decide (2 * f + 1 ≤ (cntN (3 * f + 1) (distI a) : Int)) = bb at *
    go_wp2_with fail
    refine cE.mono ?_
    rintro e w13 ⟨rfl, hb13⟩
    have k13 := k12.step hb13
    clear k12 hb13 cE
    go_wp2_with fail
    go_ret
    exact ⟨by simp, k13.gr⟩
  · have he' : ¬ ee = 0 := he
    go_wp2_with fail
    go_ret
    exact ⟨rfl, k9.gr⟩
end Go.Proofs.Ytpoimhjencpieaa
