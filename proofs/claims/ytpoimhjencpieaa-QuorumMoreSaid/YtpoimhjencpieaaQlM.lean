/- QuorumMore. -/
import Derived.Deep.DeepFit
import Derived.Test.YtpoimhjencpieaaQlE
namespace Go.Proofs.Ytpoimhjencpieaa
open Go.RowKit
set_option linter.unusedVariables false
/-- CF, and two rows of the law's own -/
structure CG (f : Int) (W : World) (p : Nat) (A : Option Addr) (a : List Int) (B : Option Addr) (b : List Int) (X : Option Addr) (x : List Int) (Y : Option Addr) (y : List Int) (w : World) : Prop where
  cf : CF f W p A a B b w
  rx : Rd w w.heap.size X (i64L x)
  ry : Rd w w.heap.size Y (i64L y)
theorem CG.step {f : Int} {W : World} {p : Nat} {A : Option Addr} {a : List Int} {B : Option Addr} {b : List Int} {X : Option Addr} {x : List Int} {Y : Option Addr} {y : List Int} {w w' : World} (h : CG f W p A a B b X x Y y w) (g : Grew w w') : CG f W p A a B b X x Y y w' :=
  ⟨h.cf.step g, (h.rx.below g).more g.size, (h.ry.below g).more g.size⟩
theorem qmore_big (f : Int) (hf : 0 ≤ f ∧ f ≤ 255) (A B : Option Addr) (c c' : Nat) (a b : List Int) (W : World) (h : 40 < a.length ∨ 40 < b.length) :
    Calls Try.prog 6 #[.int .u8 f, .slice A a.length c, .slice B b.length c'] W fun e w' => e = .returned (.bool true) ∧ Grew W w' := by
  by_cases h1 : 40 < a.length
  · have h1' : (40 : Int) < (a.length : Int) := by omega
    go_enter Try.func6, Try.ntmps6
    go_wp2_with fail
    refine (qknown_any _).mono ?_
    rintro e w1 ⟨rfl, hg1⟩
    go_wp2_with fail
    go_ret
    exact ⟨rfl, hg1⟩
  · have h1' : ¬ (40 : Int) < (a.length : Int) := by omega
    have h2' : (40 : Int) < (b.length : Int) := by omega
    go_enter Try.func6, Try.ntmps6
    go_wp2_with fail
    refine (qknown_any _).mono ?_
    rintro e w1 ⟨rfl, hg1⟩
    go_wp2_with fail
    go_ret
    exact ⟨rfl, hg1⟩
set_option maxRecDepth 100000 in
set_option maxHeartbeats 16000000 in
theorem qmore_law (f : Int) (hf : 0 ≤ f ∧ f ≤ 255) (A B : Option Addr) (c c' : Nat) (a b : List Int) (W : World) (hza : a.length ≤ 40) (hzb : b.length ≤ 40) (hia : ∀ x ∈ a, -9223372036854775808 ≤ x ∧ x ≤ 9223372036854775807) (hib : ∀ x ∈ b, -9223372036854775808 ≤ x ∧ x ≤ 9223372036854775807)
    (hra : Rd W W.heap.size A (i64L a)) (hrb : Rd W W.heap.size B (i64L b)) :
    Calls Try.prog 6 #[.int .u8 f, .slice A a.length c, .slice B b.length c'] W fun e w' => e = .returned (.bool true) ∧ Grew W w' := by
  have h1' : ¬ (40 : Int) < (a.length : Int) := by omega
  have h2' : ¬ (40 : Int) < (b.length : Int) := by omega
  have HIA := Lib.hid hia
  have HIB := Lib.hid hib
  clear hia hib
  obtain ⟨i0, hi, hz0, hz1, hz2⟩ := info_parts info_int
  have hF : 1 ≤ 1 + f % 3 ∧ 1 + f % 3 ≤ 3 := by omega
  go_enter Try.func6, Try.ntmps6
  go_wp2_with fail
  refine (qknown_any _).mono ?_
  rintro e w1 ⟨rfl, hg1⟩
  have k1 : CF (1 + f % 3) W w1.heap.size A a B b _ := CF.made hg1 hra hrb
  have HK := Lib.hid k1
  have HK1 := Lib.hid (k1.step (grew_alloc' (Below.refl _ _) (.cells #[] 3)))
  obtain ⟨w2, hw2⟩ : ∃ w2, w1.alloc (.cells #[.int .i64 (1 + f % 3)] 25) = w2 := ⟨_, rfl⟩
  have hz2s : w2.heap.size = w1.heap.size + 1 := by rw [← hw2]; simp
  have hm1 : ((w1.alloc (.cells #[.int .i64 (1 + f % 3)] 25)).alloc (.cells #[] 3)).ownsRow (w1.heap.size + 1) 3 1 (.slice (some ⟨w1.heap.size + 1, 0, none⟩) 0 0) 0 [] := by
    have := World.ownsRow_made (base := w1.heap.size + 1) (e := 3) (size := 1) (w1.alloc (.cells #[.int .i64 (1 + f % 3)] 25)) #[] 0 (by simp) (by decide) rfl
    rwa [World.size_alloc] at this
  have HM1 := Lib.hid hm1
  clear hra hrb k1 hm1
  have hzs : (w1.alloc (.cells #[.int .i64 (1 + f % 3)] 25)).heap.size ≤ w1.heap.size + 1 := by simp
  clear hw2 hz2s
  go_wp2_with (first
    | (at_builtin; refine wpList_append_rd rfl (.tmp 27) (.tmp 28) 22 rfl (w1.heap.size + 1) 3 i0 (.int .i64 0) 8 Try.underlying22 hi hz0 hz1 hz2 rfl (.slice (some ⟨w1.heap.size + 1, 0, none⟩) 0 0) 0 [] rfl HM1.out _ A a.length c (i64L a) rfl (i64L_length a) HK1.out.ra (i64L_one _) (by unfold maxLen; omega) (by omega) (by simp) ?_; intro v2 w2 hown2 hgrow2 hat2; have g2 := grew_grown (grew_alloc' (Below.refl _ (w1.alloc (.cells #[.int .i64 (1 + f % 3)] 25))) (.cells #[] 3)) hgrow2 (fun j hj => by have h2 : some (w1.heap.size + 1) = some j := hj; injection h2 with h2; omega); simp only [Nat.zero_add, List.nil_append] at hown2; obtain ⟨A2, c2, rfl, _, _, _⟩ := own_rd hown2; have hs2 := hgrow2.size; simp only [World.size_alloc] at hs2)
    | (at_builtin; refine wpList_append_rd rfl (.tmp 29) (.tmp 30) 22 rfl (w1.heap.size + 1) 3 i0 (.int .i64 0) 8 Try.underlying22 hi hz0 hz1 hz2 rfl (.slice A2 a.length c2) a.length (i64L a) rfl hown2 w2.heap.size B b.length c' (i64L b) rfl (i64L_length b) (HK.out.step g2).rb (i64L_one _) (by unfold maxLen; omega) (by omega) (by omega) ?_; intro v3 w3 hown3 hgrow3 hat3; obtain ⟨A3, c3, rfl, _, _, hrd3⟩ := own_rd hown3; have g3 := grew_grown g2 hgrow3 (fun j hj => by have := own_base hown2 j hj; omega); have hs3 := g3.size; have hm3 : (w3.alloc (.cells #[] 3)).ownsRow w3.heap.size 3 1 (.slice (some ⟨w3.heap.size, 0, none⟩) 0 0) 0 [] := World.ownsRow_made w3 #[] 0 (Nat.le_refl _) (by decide) rfl; have g3a := grew_alloc' g3 (.cells #[] 3))
    | (at_builtin; refine wpList_append_rd rfl (.tmp 32) (.tmp 33) 22 rfl w3.heap.size 3 i0 (.int .i64 0) 8 Try.underlying22 hi hz0 hz1 hz2 rfl (.slice (some ⟨w3.heap.size, 0, none⟩) 0 0) 0 [] rfl hm3 _ A a.length c (i64L a) rfl (i64L_length a) (HK.out.step g3a).ra (i64L_one _) (by unfold maxLen; omega) (by omega) (by simp) ?_; intro v4 w4 hown4 hgrow4 hat4; have g4 := grew_grown (grew_alloc' (Below.refl _ w3) (.cells #[] 3)) hgrow4 (fun j hj => by have h2 : some w3.heap.size = some j := hj; injection h2 with h2; omega); simp only [Nat.zero_add, List.nil_append] at hown4; obtain ⟨A4, c4, rfl, _, _, _⟩ := own_rd hown4; have hs4 := g4.size)
    | (at_builtin; refine wpList_append_rd rfl (.tmp 34) (.tmp 35) 22 rfl w3.heap.size 3 i0 (.int .i64 0) 8 Try.underlying22 hi hz0 hz1 hz2 rfl (.slice A4 a.length c4) a.length (i64L a) rfl hown4 w4.heap.size A a.length c (i64L a) rfl (i64L_length a) (HK.out.step (grew_trans g3 g4)).ra (i64L_one _) (by unfold maxLen; omega) (by omega) (by omega) ?_; intro v5 w5 hown5 hgrow5 hat5; obtain ⟨A5, c5, rfl, _, _, hrd5⟩ := own_rd hown5; have g5 := grew_grown g4 hgrow5 (own_base hown4)))
  have HG : Hid (CG (1 + f % 3) W w1.heap.size A a B b A3 (a ++ b) A5 (a ++ a) w5) := Lib.hid ⟨(HK.out.step g3).step g5, by rw [i64L_append]; exact (hrd3.below g5).more g5.size, by rw [i64L_append]; exact hrd5⟩
  have hq5 := HG.out.cf.cell
  clear HK HK1 HM1 g2 g3 g3a g4 g5 hs2 hs3 hs4 hown2 hown3 hown4 hown5 hrd3 hrd5 hgrow2 hgrow3 hgrow4 hgrow5 hat2 hat3 hat4 hat5 hm3 hzs hg1
  generalize 1 + f % 3 = F at *
  generalize w1.heap.size = p at *
  have hlab : (a ++ b).length = a.length + b.length := List.length_append
  have hlaa : (a ++ a).length = a.length + a.length := List.length_append
  have hmono := cnt_more (3 * F + 1) a b
  obtain ⟨ea, hea⟩ : ∃ ea, decide (2 * F + 1 ≤ (cntN (3 * F + 1) (distI a) : Int)) = ea := ⟨_, rfl⟩
  have cA : ∀ w, Rd w w.heap.size A (i64L a) → Calls Try.prog 27 #[.agg #[.int .i64 F], .slice A a.length c] w fun e w' => e = .returned (.bool ea) ∧ Grew w w' := fun w h => by
    have := enough_ok F hF A c a (by omega) w h
    rw [hea] at this; exact this
  have cT : ∀ w, Rd w w.heap.size A5 (i64L (a ++ a)) → Calls Try.prog 27 #[.agg #[.int .i64 F], .slice A5 (a.length + a.length) c5] w fun e w' => e = .returned (.bool ea) ∧ Grew w w' := fun w h => by
    have := enough_ok F hF A5 c5 (a ++ a) (by omega) w h
    rw [dist_twice, hea, hlaa] at this; exact this
  have cB : ea = true → ∀ w, Rd w w.heap.size A3 (i64L (a ++ b)) → Calls Try.prog 27 #[.agg #[.int .i64 F], .slice A3 (a.length + b.length) c3] w fun e w' => e = .returned (.bool true) ∧ Grew w w' := fun he w h => by
    have := enough_ok F hF A3 c3 (a ++ b) (by omega) w h
    rw [he, decide_eq_true_eq] at hea
    rw [decide_eq_true (by omega), hlab] at this; exact this
  have cD : ∀ w, Rd w w.heap.size A3 (i64L (a ++ b)) → Calls Try.prog 19 #[.slice A3 (a.length + b.length) c3] w fun e W' => ∃ v, e = .returned v ∧ W'.ownsRow w.heap.size 3 1 v (distI (a ++ b)).length ((distI (a ++ b)).map (Value.int .i64)) ∧ Below w.heap.size w W' := fun w h => by
    have := distinct_ok A3 c3 (a ++ b) (by omega) w h
    rw [hlab] at this; exact this
  have CD := Lib.hid cD
  have HDA := Lib.hid (show ∀ x ∈ distI a, -9223372036854775808 ≤ x ∧ x ≤ 9223372036854775807 from fun x hx => HIA.out x (((distI_facts a).2 x).1 hx))
  have HDB := Lib.hid (show ∀ x ∈ distI b, -9223372036854775808 ≤ x ∧ x ≤ 9223372036854775807 from fun x hx => HIB.out x (((distI_facts b).2 x).1 hx))
  have HCC := Lib.hid (com_count a b)
  have HDL := Lib.hid (distI_le (a ++ b))
  have HDP := Lib.hid (distI_facts (a ++ b)).1
  have CA := Lib.hid cA
  have CT := Lib.hid cT
  have CB := Lib.hid cB
  have HL := Lib.hid hlab
  clear hlab hlaa hmono hea cA cT cB cD
  cases ea
  · (first | (go_region_with (first
        | (go_at_call 27; go_fit (CA.out _ (by exact HG.out.cf.ra)); rintro e w6 ⟨rfl, hb6⟩; have HG := Lib.hid (show CG F W p A a B b A3 (a ++ b) A5 (a ++ a) w6 by first | exact HG.out.step hb6 | exact HG.out.step (grew_undrew1 hb6)); have hq5 := HG.out.cf.cell)
        | (go_at_call 27; go_fit (CT.out _ (by exact HG.out.ry)); rintro e w6 ⟨rfl, hb6⟩; have HG := Lib.hid (show CG F W p A a B b A3 (a ++ b) A5 (a ++ a) w6 by first | exact HG.out.step hb6 | exact HG.out.step (grew_undrew1 hb6)); have hq5 := HG.out.cf.cell))) | fail)
    all_goals go_wp2_with fail
    all_goals
      refine (CD.out _ HG.out.rx).mono ?_
      rintro e w7 ⟨v7, rfl, ho7, hb7⟩
      obtain ⟨D7, c7, rfl, _, _, r7⟩ := own_rd ho7
      have HG7 := Lib.hid (HG.out.step hb7)
      have R7 : Hid (Rd w7 w7.heap.size D7 (i64L (distI (a ++ b)))) := Lib.hid r7
      clear ho7 hb7 r7 hq5 HG
      generalize distI (a ++ b) = d at *
      go_wp2_with fail
      go_loopw [11] (fun iv wr => ∃ j n : Nat, iv = .int .i64 ((j : Int) + 1) ∧ wr = w7.drewN n) (fun iv _ => d.length + 1 - (intOf iv).toNat)
      case atStart => exact ⟨0, 0, rfl, rfl⟩
      case round =>
        obtain ⟨j, n, rfl, rfl⟩ := hrel
        by_cases hlt : j + 1 < d.length
        · obtain ⟨ad, rfl, hbl, hc0⟩ := rd_i64 R7.out j (by omega)
          obtain ⟨ad', hh, hbl', hc1⟩ := rd_i64 R7.out (j + 1) hlt
          obtain rfl : ad = ad' := by injection hh
          have hxy : d[j] < d[j + 1] := List.pairwise_iff_getElem.1 HDP.out j (j + 1) (by omega) hlt (by omega)
          have hdl := HDL.out
          rw [HL.out] at hdl
          generalize d[j] = x at *
          generalize d[j + 1] = y at *
          have e1 : IntKind.i64.wrap ((j : Int) + 1 - 1) = (j : Int) := by rw [IntWalk.i64_in _ (by omega)]; omega
          have e3 : IntKind.i64.wrap (j : Int) = (j : Int) := IntWalk.i64_in _ (by omega)
          have e2 : IntKind.i64.wrap ((j : Int) + 1 + 1) = (j : Int) + 1 + 1 := IntWalk.i64_in _ (by omega)
          obtain ⟨m, hm⟩ : ∃ m, j + 1 = m := ⟨_, rfl⟩
          rw [hm] at hc1
          have t1 : ((j : Int) + 1).toNat = m := by omega
          have i1 : (0 : Int) ≤ (j : Int) + 1 := by omega
          have i2 : (j : Int) + 1 < (d.length : Int) := by omega
          have i3 : (0 : Int) ≤ (j : Int) := by omega
          have i4 : (j : Int) < (d.length : Int) := by omega
          have hxy' : ¬ y ≤ x := by omega
          clear hh hdl hm hlt
          go_wp2_with fail
          go_quiet (fail)
          go_wp2_with fail
          go_roundw
          case rel => exact ⟨j + 1, n + nq, by go_num, rfl⟩
          case measure => simp [intOf]; clear hxy'; omega
        · have i2 : ¬ (j : Int) + 1 < (d.length : Int) := by omega
          have HG8 := Lib.hid (HG7.out.step (grew_drewN' (Below.refl _ _) n))
          clear HG7 R7
          generalize w7.drewN n = w8 at *
          go_wp2_with fail
          refine (common_ok A B c c' a b (by omega) (by omega) HIB.out HDA.out _ HG8.out.cf.ra HG8.out.cf.rb).mono ?_
          rintro e w9 ⟨v9, rfl, ho9, hb9⟩
          obtain ⟨D9, c9, rfl, _, _, _⟩ := own_rd ho9
          have HG9 := Lib.hid (HG8.out.step hb9)
          clear ho9 hb9 HG8
          go_wp2_with fail
          refine (distinct_ok A c a (by omega) _ HG9.out.cf.ra).mono ?_
          rintro e w10 ⟨v10, rfl, ho10, hb10⟩
          obtain ⟨D10, c10, rfl, _, _, _⟩ := own_rd ho10
          have HG10 := Lib.hid (HG9.out.step hb10)
          clear ho10 hb10 HG9
          go_wp2_with fail
          refine (distinct_ok B c' b (by omega) _ HG10.out.cf.rb).mono ?_
          rintro e w11 ⟨v11, rfl, ho11, hb11⟩
          obtain ⟨D11, c11, rfl, _, _, _⟩ := own_rd ho11
          have HG11 := Lib.hid (HG10.out.step hb11)
          clear ho11 hb11 HG10
          have hla := distI_le a
          have hlb := distI_le b
          have hcc := HCC.out
          have e3 : IntKind.i64.wrap (((distI a).length : Int) + ((distI b).length : Int)) = ((distI a).length : Int) + ((distI b).length : Int) := IntWalk.i64_in _ (by omega)
          have e4 : IntKind.i64.wrap (((distI a).length : Int) + ((distI b).length : Int) - (d.length : Int)) = ((comI a b).length : Int) := by rw [IntWalk.i64_in _ (by omega)]; omega
          clear hla hlb hcc
          go_wp2_with fail
          refine (common_ok A B c c' a b (by omega) (by omega) HIB.out HDA.out _ HG11.out.cf.ra HG11.out.cf.rb).mono ?_
          rintro e w12 ⟨v12, rfl, ho12, hb12⟩
          obtain ⟨D12, c12, rfl, _, _, r12⟩ := own_rd ho12
          have HG12 := Lib.hid (HG11.out.step hb12)
          clear ho12 hb12 HG11
          go_wp2_with fail
          have cBA := common_ok B A c' c b a (by omega) (by omega) HIA.out HDB.out w12 HG12.out.cf.rb HG12.out.cf.ra
          rw [com_comm b a] at cBA
          refine cBA.mono ?_
          rintro e w13 ⟨v13, rfl, ho13, hb13⟩
          obtain ⟨D13, c13, rfl, _, _, r13⟩ := own_rd ho13
          have HG13 := Lib.hid (HG12.out.step hb13)
          have r12' := r12.below hb13
          clear ho13 hb13 HG12 cBA r12
          go_wp2_with fail
          refine (ints_same2 D12 D13 c12 c13 _ _ _ _ (comI a b) rfl rfl (by have := com_le a b; omega) _ r12' r13).mono ?_
          rintro e w' ⟨rfl, n14, rfl⟩
          go_wp2_with fail
          go_ret
          exact ⟨rfl, grew_drewN' HG13.out.cf.gr n14⟩
  · (first | (go_region_held3 (fun w' => w'.cell? ⟨p, 0, none⟩ = some (.int .i64 F)) (go_keep)
      (first
        | (go_at_call 27; go_fit (CA.out _ (by exact HG.out.cf.ra)); rintro e w6 ⟨rfl, hb6⟩; have HG := Lib.hid (show CG F W p A a B b A3 (a ++ b) A5 (a ++ a) w6 by first | exact HG.out.step hb6 | exact HG.out.step (grew_undrew1 hb6)); have hq5 := HG.out.cf.cell)
        | (go_at_call 27; go_fit (CT.out _ (by exact HG.out.ry)); rintro e w6 ⟨rfl, hb6⟩; have HG := Lib.hid (show CG F W p A a B b A3 (a ++ b) A5 (a ++ a) w6 by first | exact HG.out.step hb6 | exact HG.out.step (grew_undrew1 hb6)); have hq5 := HG.out.cf.cell)
        | (go_at_call 27; go_fit (CB.out (by simp) _ (by exact HG.out.rx)); rintro e w6 ⟨rfl, hb6⟩; have HG := Lib.hid (show CG F W p A a B b A3 (a ++ b) A5 (a ++ a) w6 by first | exact HG.out.step hb6 | exact HG.out.step (grew_undrew1 hb6)); have hq5 := HG.out.cf.cell))) | fail)
    all_goals go_wp2_with fail
    all_goals
      refine (CD.out _ HG.out.rx).mono ?_
      rintro e w7 ⟨v7, rfl, ho7, hb7⟩
      obtain ⟨D7, c7, rfl, _, _, r7⟩ := own_rd ho7
      have HG7 := Lib.hid (HG.out.step hb7)
      have R7 : Hid (Rd w7 w7.heap.size D7 (i64L (distI (a ++ b)))) := Lib.hid r7
      clear ho7 hb7 r7 hq5 HG
      generalize distI (a ++ b) = d at *
      go_wp2_with fail
      go_loopw [11] (fun iv wr => ∃ j n : Nat, iv = .int .i64 ((j : Int) + 1) ∧ wr = w7.drewN n) (fun iv _ => d.length + 1 - (intOf iv).toNat)
      case atStart => exact ⟨0, 0, rfl, rfl⟩
      case round =>
        obtain ⟨j, n, rfl, rfl⟩ := hrel
        by_cases hlt : j + 1 < d.length
        · obtain ⟨ad, rfl, hbl, hc0⟩ := rd_i64 R7.out j (by omega)
          obtain ⟨ad', hh, hbl', hc1⟩ := rd_i64 R7.out (j + 1) hlt
          obtain rfl : ad = ad' := by injection hh
          have hxy : d[j] < d[j + 1] := List.pairwise_iff_getElem.1 HDP.out j (j + 1) (by omega) hlt (by omega)
          have hdl := HDL.out
          rw [HL.out] at hdl
          generalize d[j] = x at *
          generalize d[j + 1] = y at *
          have e1 : IntKind.i64.wrap ((j : Int) + 1 - 1) = (j : Int) := by rw [IntWalk.i64_in _ (by omega)]; omega
          have e3 : IntKind.i64.wrap (j : Int) = (j : Int) := IntWalk.i64_in _ (by omega)
          have e2 : IntKind.i64.wrap ((j : Int) + 1 + 1) = (j : Int) + 1 + 1 := IntWalk.i64_in _ (by omega)
          obtain ⟨m, hm⟩ : ∃ m, j + 1 = m := ⟨_, rfl⟩
          rw [hm] at hc1
          have t1 : ((j : Int) + 1).toNat = m := by omega
          have i1 : (0 : Int) ≤ (j : Int) + 1 := by omega
          have i2 : (j : Int) + 1 < (d.length : Int) := by omega
          have i3 : (0 : Int) ≤ (j : Int) := by omega
          have i4 : (j : Int) < (d.length : Int) := by omega
          have hxy' : ¬ y ≤ x := by omega
          clear hh hdl hm hlt
          go_wp2_with fail
          go_quiet (fail)
          go_wp2_with fail
          go_roundw
          case rel => exact ⟨j + 1, n + nq, by go_num, rfl⟩
          case measure => simp [intOf]; clear hxy'; omega
        · have i2 : ¬ (j : Int) + 1 < (d.length : Int) := by omega
          have HG8 := Lib.hid (HG7.out.step (grew_drewN' (Below.refl _ _) n))
          clear HG7 R7
          generalize w7.drewN n = w8 at *
          go_wp2_with fail
          refine (common_ok A B c c' a b (by omega) (by omega) HIB.out HDA.out _ HG8.out.cf.ra HG8.out.cf.rb).mono ?_
          rintro e w9 ⟨v9, rfl, ho9, hb9⟩
          obtain ⟨D9, c9, rfl, _, _, _⟩ := own_rd ho9
          have HG9 := Lib.hid (HG8.out.step hb9)
          clear ho9 hb9 HG8
          go_wp2_with fail
          refine (distinct_ok A c a (by omega) _ HG9.out.cf.ra).mono ?_
          rintro e w10 ⟨v10, rfl, ho10, hb10⟩
          obtain ⟨D10, c10, rfl, _, _, _⟩ := own_rd ho10
          have HG10 := Lib.hid (HG9.out.step hb10)
          clear ho10 hb10 HG9
          go_wp2_with fail
          refine (distinct_ok B c' b (by omega) _ HG10.out.cf.rb).mono ?_
          rintro e w11 ⟨v11, rfl, ho11, hb11⟩
          obtain ⟨D11, c11, rfl, _, _, _⟩ := own_rd ho11
          have HG11 := Lib.hid (HG10.out.step hb11)
          clear ho11 hb11 HG10
          have hla := distI_le a
          have hlb := distI_le b
          have hcc := HCC.out
          have e3 : IntKind.i64.wrap (((distI a).length : Int) + ((distI b).length : Int)) = ((distI a).length : Int) + ((distI b).length : Int) := IntWalk.i64_in _ (by omega)
          have e4 : IntKind.i64.wrap (((distI a).length : Int) + ((distI b).length : Int) - (d.length : Int)) = ((comI a b).length : Int) := by rw [IntWalk.i64_in _ (by omega)]; omega
          clear hla hlb hcc
          go_wp2_with fail
          refine (common_ok A B c c' a b (by omega) (by omega) HIB.out HDA.out _ HG11.out.cf.ra HG11.out.cf.rb).mono ?_
          rintro e w12 ⟨v12, rfl, ho12, hb12⟩
          obtain ⟨D12, c12, rfl, _, _, r12⟩ := own_rd ho12
          have HG12 := Lib.hid (HG11.out.step hb12)
          clear ho12 hb12 HG11
          go_wp2_with fail
          have cBA := common_ok B A c' c b a (by omega) (by omega) HIA.out HDB.out w12 HG12.out.cf.rb HG12.out.cf.ra
          rw [com_comm b a] at cBA
          refine cBA.mono ?_
          rintro e w13 ⟨v13, rfl, ho13, hb13⟩
          obtain ⟨D13, c13, rfl, _, _, r13⟩ := own_rd ho13
          have HG13 := Lib.hid (HG12.out.step hb13)
          have r12' := r12.below hb13
          clear ho13 hb13 HG12 cBA r12
          go_wp2_with fail
          refine (ints_same2 D12 D13 c12 c13 _ _ _ _ (comI a b) rfl rfl (by have := com_le a b; omega) _ r12' r13).mono ?_
          rintro e w' ⟨rfl, n14, rfl⟩
          go_wp2_with fail
          go_ret
          exact ⟨rfl, grew_drewN' HG13.out.cf.gr n14⟩
end Go.Proofs.Ytpoimhjencpieaa
