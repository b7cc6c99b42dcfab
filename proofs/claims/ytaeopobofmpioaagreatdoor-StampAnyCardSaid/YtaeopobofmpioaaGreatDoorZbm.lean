/- StampHolds: the law. -/
import Derived.Test.YtaeopobofmpioaaGreatDoorZbl
import Derived.Test.YtaeopobofmpioaaGreatDoorZat
import Derived.Test.YtaeopobofmpioaaGreatDoorZbh
import Derived.Test.YtaeopobofmpioaaGreatDoorZad
namespace Go.Proofs.YtaeopobofmpioaaGreatDoor
set_option linter.unusedSimpArgs false
set_option linter.unusedVariables false
open Go.RowKit
set_option linter.unusedVariables false
set_option linter.unusedSimpArgs false
theorem stC_cm (a b : Nat) (who at_ sw lf : Int) (s : Nat → Nat) (pv : Value) : (stC a who at_ sw lf s pv).toList.set 0 (.int .u64 (b : Nat)) = (stC b who at_ sw lf s pv).toList := rfl
theorem put_ky (W : World) (cs : Array Value) (h : cs.size = 3) : ∃ W', (W.alloc (.cells (#[.int .i64 0, .slice none 0 0, .int .i64 0]) 36)).setCells W.heap.size 0 cs.toList = W' ∧ (W.alloc (.cells (#[.int .i64 0, .slice none 0 0, .int .i64 0]) 36)).there W.heap.size 0 cs.size ∧ Grew W W' ∧ Ag W' W.heap.size cs.toList :=
  ⟨_, rfl, by rw [h]; exact (Ag.new W 36 (#[.int .i64 0, .slice none 0 0, .int .i64 0])).thereN 3 rfl, setCells_grew (o := 0) (b := W.heap.size) cs.toList (grew_alloc (grew_refl W) _) (Nat.le_refl _), Ag.set (vs := cs.toList) (Ag.new W 36 (#[.int .i64 0, .slice none 0 0, .int .i64 0])) (by simp [h])⟩
theorem va_no (R : List Nat) (h : Int) (cm m n : Nat) (at_ lf : Int) (s : Nat → Nat) (l : List Nat) (hm : m < 4) (hn : m ≠ n) (ht : tmB at_ = true) (hR : R.length = 4) : vaE 1 R h cm (m : Int) at_ (n : Int) lf s l = 7 := by
  unfold vaE ckE
  rw [if_neg (by omega), if_neg (by omega), if_pos ht, if_neg (by omega), if_neg (by omega)]
set_option maxRecDepth 100000 in
set_option maxHeartbeats 12000000 in
theorem stampHolds_law (seed : Int) (hsd : U64 seed) (who : Int) (hwh : 0 ≤ who ∧ who ≤ 255) (cm : Nat) (hcm : cm < 18446744073709551616) (at_ other : Int) (hat : in64 at_) (hot : in64 other) (w : World) (hS : Std w) :
    Calls Tryz.prog 5 #[.int .u64 seed, .int .u8 who, .int .u64 (cm : Nat), .int .i64 at_, .int .i64 other] w fun e w' => e = .returned (.bool true) ∧ Grew w w' := by
  have HS := Lib.hid hS
  have CK := Lib.hid (sknown_ok w hS)
  have CE := Lib.hid (fun W => keys_ok seed hsd 2 (by omega) W)
  have hkt := Tryz.underlying36
  have hut := Tryz.underlying44
  have hsl := Tryz.underlying66
  obtain ⟨m, hm, hm4⟩ : ∃ m : Nat, who % 4 = (m : Int) ∧ m < 4 := ⟨(who % 4).toNat, by omega, by omega⟩
  have HAT := Lib.hid hat
  have HOT := Lib.hid hot
  have HCM := Lib.hid hcm
  clear hS hsd hat hot hcm
  go_enter Tryz.func5, Tryz.ntmps5
  go_wp2_with fail
  refine CK.out.mono ?_
  rintro e w0 ⟨rfl, G0⟩
  clear CK
  have CE2 := CE.out w0
  rw [show ((2 : Nat) : Int) = 2 from rfl] at CE2
  go_wp2_with fail
  refine CE2.mono ?_
  clear CE CE2
  rintro e w1 ⟨LA, Lc, RA, Rc, p, rfl, KS, rL, rR, FL0, FR0, gg⟩
  have G1 := grew_trans G0 gg
  obtain ⟨lad, hLA, -, -⟩ := rL 0 (by simp [ptrL])
  subst hLA
  have hnil : ∀ W, (binOp .eql 66 (.slice (some lad) 4 Lc) (.slice none 0 0)).run Tryz.prog W = .ok (.bool false) W := fun W => by
    unfold binOp
    simp [run_equal_slice_nil W _ _ (some lad) 4 Lc hsl]
  have hB := G0.size
  obtain ⟨w2, hw2, ht2, g2, z2⟩ := put_ky w1 (kyS 1 RA 4 Rc 2) rfl
  have HW2 := Lib.hid hw2
  have HTK := Lib.hid ht2
  have HSK : Hid ((Tryz.prog.info? 36).map (·.size) = some (kyS 1 RA 4 Rc 2).size) := Lib.hid (by kernel_rfl)
  have HSKL : Hid ((Tryz.prog.info? 36).map (·.size) = some (kyS 1 RA 4 Rc 2).toList.length) := Lib.hid (by kernel_rfl)
  have HOK := Lib.hid (kyS_one 1 2 RA 4 Rc)
  have KS2 := KS.grew g2
  have rL2 := rL.gr g2
  have rR2 := rR.gr g2
  have G2 := grew_trans G1 g2
  have hpq : p m + 1 < w1.heap.size := (KS.key m hm4).key.lt
  have hwp0 : w.heap.size ≤ p m + 1 := by have := KS.low m hm4; omega
  clear hw2 ht2 g2 KS rL rR G1 gg G0 hB
  have hc2 : w2.cell? (lad.add m) = some (.pointer (some ⟨p m + 1, 0, none⟩)) := by
    obtain ⟨ad, e, _, hc⟩ := rL2 m (by simp [ptrL]; omega)
    cases e
    rw [hc]
    simp [ptrL]
  have HKC := Lib.hid (rfl : kyS 1 RA 4 Rc 2 = kyS 1 RA 4 Rc 2)
  have K2 := KS2.key m hm4
  rw [show (2 : Nat) ^ 2 = 4 from rfl] at K2
  have FL : Hid (lad.block ≠ p m + 1) := Lib.hid (FL0 lad rfl m hm4).2
  have FR : Hid (∀ ad, RA = some ad → ad.block ≠ p m + 1) := Lib.hid (fun ad e => (FR0 ad e m hm4).2)
  clear FL0 FR0 KS2 rL2
  obtain ⟨pm, hpm⟩ : ∃ q, p m = q := ⟨_, rfl⟩
  rw [hpm] at K2 FL FR hc2 hpq hwp0
  clear hpm
  have hm0 : (0 : Int) ≤ (m : Int) := by omega
  have hm4' : (m : Int) < 4 := by omega
  go_wp2_with (with_reducible refine wpList_store_mid rfl 36 (.tmp 12) (.tmp 25) rfl w1.heap.size 0 (kyS 1 RA 4 Rc 2) rfl rfl HTK.out HSK.out HOK.out ?_; rw [HW2.out]; clear HW2 HTK)
  cases hT : tmB at_ with
  | false =>
    refine (stmake_no (.pointer (some ⟨pm + 1, 0, none⟩)) cm (m : Int) at_ hT w2).mono ?_
    rintro e w3 ⟨rfl, gg⟩
    obtain ⟨v3, hv3, th3, gs3, z3⟩ := put_st w3 (#[.int .u64 0, .int .i64 0, .int .i64 0, .int .i64 0, .int .i64 0, .int .u64 0, .int .u64 0, .int .u64 0, .int .u64 0, .int .u64 0, .int .u64 0, .int .u64 0, .int .u64 0, .int .u64 0, .int .u64 0, .int .u64 0, .int .u64 0, .int .u64 0, .int .u64 0, .int .u64 0, .int .u64 0, .int .u64 0, .int .u64 0, .slice none 0 0]) rfl
    have HV3 := Lib.hid hv3
    have TH3 := Lib.hid th3
    have HSZ : Hid ((Tryz.prog.info? 44).map (·.size) = some (#[.int .u64 0, .int .i64 0, .int .i64 0, .int .i64 0, .int .i64 0, .int .u64 0, .int .u64 0, .int .u64 0, .int .u64 0, .int .u64 0, .int .u64 0, .int .u64 0, .int .u64 0, .int .u64 0, .int .u64 0, .int .u64 0, .int .u64 0, .int .u64 0, .int .u64 0, .int .u64 0, .int .u64 0, .int .u64 0, .int .u64 0, .slice none 0 0] : Array Value).size) := Lib.hid st_info
    have HOZ : Hid ((#[.int .u64 0, .int .i64 0, .int .i64 0, .int .i64 0, .int .i64 0, .int .u64 0, .int .u64 0, .int .u64 0, .int .u64 0, .int .u64 0, .int .u64 0, .int .u64 0, .int .u64 0, .int .u64 0, .int .u64 0, .int .u64 0, .int .u64 0, .int .u64 0, .int .u64 0, .int .u64 0, .int .u64 0, .int .u64 0, .int .u64 0, .slice none 0 0] : Array Value).all (·.oneCell') = true) := Lib.hid (by simp [Value.oneCell'])
    have G3 := grew_trans G2 (grew_trans gg gs3)
    clear hv3 th3 gs3 z3 gg z2 K2 hc2 rR2 G2
    have hT' := of_decide_eq_false hT
    rcases (show at_ < 1 ∨ (¬ at_ < 1 ∧ 1099511627776 < at_) by omega) with t | ⟨t, t'⟩
    · have t0 : decide (at_ < 1) = true := decide_eq_true t
      clear hT hT' t
      go_wp2_with (with_reducible refine wpList_store_mid rfl 44 (.tmp 14) (.tmp 45) rfl w3.heap.size 0 (#[.int .u64 0, .int .i64 0, .int .i64 0, .int .i64 0, .int .i64 0, .int .u64 0, .int .u64 0, .int .u64 0, .int .u64 0, .int .u64 0, .int .u64 0, .int .u64 0, .int .u64 0, .int .u64 0, .int .u64 0, .int .u64 0, .int .u64 0, .int .u64 0, .int .u64 0, .int .u64 0, .int .u64 0, .int .u64 0, .int .u64 0, .slice none 0 0]) rfl rfl TH3.out HSZ.out HOZ.out ?_; rw [HV3.out])
      go_ret
      exact ⟨rfl, G3⟩
    · have t0 : decide (at_ < 1) = false := decide_eq_false t
      have t1 : decide (1099511627776 < at_) = true := decide_eq_true t'
      clear hT hT' t t'
      go_wp2_with (with_reducible refine wpList_store_mid rfl 44 (.tmp 14) (.tmp 45) rfl w3.heap.size 0 (#[.int .u64 0, .int .i64 0, .int .i64 0, .int .i64 0, .int .i64 0, .int .u64 0, .int .u64 0, .int .u64 0, .int .u64 0, .int .u64 0, .int .u64 0, .int .u64 0, .int .u64 0, .int .u64 0, .int .u64 0, .int .u64 0, .int .u64 0, .int .u64 0, .int .u64 0, .int .u64 0, .int .u64 0, .int .u64 0, .int .u64 0, .slice none 0 0]) rfl rfl TH3.out HSZ.out HOZ.out ?_; rw [HV3.out])
      go_ret
      exact ⟨rfl, G3⟩
  | true =>
    have hL4 : (ksL seed 2 m).length = 4 := pubsL_length _ _
    have HKL := Lib.hid hL4
    refine (stmake_ok (pm + 1) pm (m : Int) (sdI seed m) (ksL seed 2 m) 0 4 (by omega) (by omega) (by omega) (by rw [hL4]; decide) (pubsL_lt _ _) (sdI_u64 _ _) (fun j hj => by unfold ksL; rw [path_len _ 2 (by omega) j (by rw [hL4] at hj; exact hj)]; omega) cm HCM.out (m : Int) at_ ⟨by omega, by omega⟩ HAT.out hT (by omega) (by omega) w2 (HS.out.grew G2) K2).mono ?_
    rintro e w3 ⟨⟨A1, c1, rfl, r3, hA1⟩, T3, K3⟩
    have zk3 := z2.kp (kp_tn T3) (show ¬ w1.heap.size = pm + 1 by omega)
    have rR3 := (rR2.kp (kp_tn T3) (Nat.le_refl _) (fun ad e _ (h : ad.block = pm + 1) => FR.out ad e h)).more T3.size
    have G3 := grew_tn G2 T3 hwp0
    have hpl : (pathN (ksL seed 2 m) 0).length = 2 := by unfold ksL; exact path_len _ 2 (by omega) 0 (by decide)
    have HVA : Hid (vaE 1 (rtL seed 2 4) 2 cm (m : Int) at_ (m : Int) 0 (signF (secN (sdI seed m) ((0 : Nat) : Int)) (stD cm (m : Int) at_)) (pathN (ksL seed 2 m) 0) = 0) := Lib.hid (va_yes seed 2 (by omega) m 0 hm4 (by omega) cm at_ hT)
    have HPB : Hid (∀ x ∈ pathN (ksL seed 2 m) 0, x < 18446744073709551616) := Lib.hid (pathN_lt _ 0 (pubsL_lt _ _))
    have HSF : Hid (∀ k, k < 18 → signF (secN (sdI seed m) ((0 : Nat) : Int)) (stD cm (m : Int) at_) k < 18446744073709551616) := Lib.hid (fun k hk => signF_lt _ _ _ (secN_lt _ _ _))
    have hRl : (rtL seed 2 4).length = 4 := rt_len _ _ _
    have HRB : Hid (∀ x ∈ rtL seed 2 4, x < 18446744073709551616) := Lib.hid (rt_lt _ _ _ (by omega))
    clear z2 K2 K3 rR2 G2 T3 hc2 FL FR hwp0 hpq hL4 HKL hA1
    generalize signF (secN (sdI seed m) ((0 : Nat) : Int)) (stD cm (m : Int) at_) = sF at *
    generalize pathN (ksL seed 2 m) 0 = pl at *
    generalize rtL seed 2 4 = R at *
    obtain ⟨gs, hgs⟩ : ∃ g, stC cm (m : Int) at_ (m : Int) ((0 : Nat) : Int) sF (.slice A1 pl.length c1) = g := ⟨_, rfl⟩
    have HGS := Lib.hid hgs
    have HZS : Hid (gs.size = 24) := Lib.hid (by rw [← hgs]; rfl)
    have HSS1 : Hid ((Tryz.prog.info? 44).map (·.size) = some gs.size) := Lib.hid (by rw [← hgs]; exact st_info)
    have HSL1 : Hid ((Tryz.prog.info? 44).map (·.size) = some gs.toList.length) := Lib.hid (by rw [← hgs]; exact st_info)
    have HOS1 : Hid (gs.all (·.oneCell') = true) := Lib.hid (by rw [← hgs]; exact stC_one _ _ _ _ _ _ A1 _ c1)
    have HG0 : Hid (gs.toList[0]? = some (.int .u64 (cm : Nat))) := Lib.hid (by rw [← hgs]; rfl)
    have HG1 : Hid (gs.toList[1]? = some (.int .i64 (m : Int))) := Lib.hid (by rw [← hgs]; rfl)
    have HG2 : Hid (gs.toList[2]? = some (.int .i64 at_)) := Lib.hid (by rw [← hgs]; rfl)
    have CV := stvalid_ok 1 (by omega) R RA Rc 2 cm (m : Int) at_ (m : Int) ((0 : Nat) : Int) sF A1 c1 pl HCM.out ⟨by omega, by omega⟩ HAT.out ⟨by omega, by omega⟩ ⟨by omega, by omega⟩ (by omega) HSF.out HPB.out (by omega) HRB.out
    rw [hgs, hRl, show vaE 1 R 2 cm (m : Int) at_ (m : Int) ((0 : Nat) : Int) sF pl = 0 from HVA.out] at CV
    rw [hgs]
    clear hgs HVA
    obtain ⟨v3, hv3, th3, gs3, zs3⟩ := put_st w3 gs HZS.out
    have HV3 := Lib.hid hv3
    have TH3 := Lib.hid th3
    have zk3 := zk3.grew gs3
    have rR3 := rR3.gr gs3
    have r3 := r3.gr gs3
    have G3 := grew_trans G3 gs3
    have hmk := zk3.cell
    have hms := zs3.cell
    have hT' := of_decide_eq_true hT
    have t0 : decide (at_ < 1) = false := decide_eq_false (by omega)
    have t1 : decide (1099511627776 < at_) = false := decide_eq_false (by omega)
    clear hv3 th3 gs3 hT'
    go_wp2_with (first
      | (with_reducible refine wpList_store_mid rfl 44 (.tmp 14) (.tmp 45) rfl w3.heap.size 0 gs rfl rfl TH3.out HSS1.out HOS1.out ?_; rw [HV3.out])
      | (refine wpList_load_mid_want (by rfl) 36 (.tmp 12) rfl w1.heap.size 0 rfl (kyS 1 RA 4 Rc 2).toList _ hmk hkt rfl HSKL.out ?_; simp only [Array.toArray_toList])
      | (refine wpList_load_mid_want (by rfl) 44 (.tmp 14) rfl w3.heap.size 0 rfl gs.toList _ hms hut rfl HSL1.out ?_; simp only [Array.toArray_toList]))
    refine (CV v3 (HS.out.grew G3) rR3 r3).mono ?_
    rintro e w4 ⟨rfl, gg⟩
    have zk4 := zk3.grew gg
    have zs4 := zs3.grew gg
    have rR4 := rR3.gr gg
    have r4 := r3.gr gg
    have G4 := grew_trans G3 gg
    clear HV3 TH3 hmk hms CV zk3 zs3 rR3 r3 G3 gg t0 t1
    obtain ⟨cu, hcu, hcu64⟩ : ∃ cu : Nat, IntKind.u64.wrap ((cm : Int) + 1) = (cu : Int) ∧ cu < 18446744073709551616 := by
      refine ⟨((cm + 1) % 18446744073709551616), ?_, Nat.mod_lt _ (by omega)⟩
      simp [IntKind.wrap, IntKind.bits, IntKind.signed]
    obtain ⟨mv, hmv, hmv4, hmne⟩ : ∃ mv : Nat, ((m : Int) + 1) % 4 = (mv : Int) ∧ mv < 4 ∧ mv ≠ m := ⟨(m + 1) % 4, by omega, by omega, by omega⟩
    have ew : IntKind.i64.wrap ((m : Int) + 1) = (m : Int) + 1 := IntWalk.i64_in _ (by omega)
    obtain ⟨v5, hv5, th5, gs5, z5⟩ := put_st w4 gs HZS.out
    have HV5 := Lib.hid hv5
    have TH5 := Lib.hid th5
    have hm5 := zs4.cell
    have zk5 := zk4.grew gs5
    have zs5 := zs4.grew gs5
    have rR5 := rR4.gr gs5
    have r5 := r4.gr gs5
    have G5 := grew_trans G4 gs5
    have cc5 : v5.cell? ⟨w4.heap.size, 2, none⟩ = some (.int .i64 at_) := by simpa using z5.cell 2 _ HG2.out
    have fc5 : v5.frozen? ⟨w4.heap.size, 2, none⟩ = false := by simpa using (z5.there 2 (by rw [Array.length_toList, HZS.out]; omega)).2
    have y5 := z5.set1 2 (.int .i64 other) (by rw [Array.length_toList, HZS.out]; omega)
    rw [← HGS.out, stC_at] at y5
    have K5 := setCells_kp [.int .i64 other] w4.heap.size 2 v5
    rw [show v5.setCells w4.heap.size 2 [.int .i64 other] = v5.setCell ⟨w4.heap.size, 2, none⟩ (.int .i64 other) from rfl] at K5
    have g5 : Grew w (v5.setCell ⟨w4.heap.size, 2, none⟩ (.int .i64 other)) := setCells_grew (o := 2) (b := w4.heap.size) [.int .i64 other] G5 (by have := G4.size; omega)
    have zk5 := zk5.kp K5 (by have := zk4.lt; omega)
    have zs5 := zs5.kp K5 (by have := zs4.lt; omega)
    have rR5 := (rR5.kp K5 (Nat.le_refl _) (fun ad e _ (h : ad.block = w4.heap.size) => by
      obtain ⟨ad', e', hlt, _⟩ := rR4 0 (by simp [u64L, hRl])
      rw [e] at e'; injection e' with e'; subst e'; omega)).more K5.size
    have r5 := (r5.kp K5 (Nat.le_refl _) (fun ad e _ (h : ad.block = w4.heap.size) => by
      obtain ⟨ad', e', hlt, _⟩ := r4 0 (by simp [u64L, hpl])
      rw [e] at e'; injection e' with e'; subst e'; omega)).more K5.size
    go_upto_region 14 with (first
      | (with_reducible refine wpList_load_mid rfl 44 (.tmp 14) rfl w3.heap.size 0 rfl gs.toList _ hm5 hut rfl HSL1.out ?_; simp only [Array.toArray_toList])
      | (with_reducible refine wpList_store_mid rfl 44 (.tmp 16) (.tmp 63) rfl w4.heap.size 0 gs rfl rfl TH5.out HSS1.out HOS1.out ?_; rw [HV5.out]))
    clear HV5 TH5 hm5 cc5 fc5 K5 z5 gs5 G5 zk4 zs4 rR4 r4 G4
    obtain ⟨x5, hx5⟩ : ∃ v, v5.setCell ⟨w4.heap.size, 2, none⟩ (.int .i64 other) = v := ⟨_, rfl⟩
    rw [hx5] at y5 zk5 zs5 rR5 r5 g5 ⊢
    clear hx5
    have G5 := g5
    clear g5
    obtain ⟨v6, hv6, th6, gs6, z6⟩ := put_st x5 gs HZS.out
    have HV6 := Lib.hid hv6
    have TH6 := Lib.hid th6
    have hm6 := zs5.cell
    have zk6 := zk5.grew gs6
    have zs6 := zs5.grew gs6
    have rR6 := rR5.gr gs6
    have r6 := r5.gr gs6
    have G6 := grew_trans G5 gs6
    have y5_lt := y5.lt
    have y5 := y5.grew gs6
    have cc6 : v6.cell? ⟨x5.heap.size, 0, none⟩ = some (.int .u64 (cm : Nat)) := by simpa using z6.cell 0 _ HG0.out
    have fc6 : v6.frozen? ⟨x5.heap.size, 0, none⟩ = false := by simpa using (z6.there 0 (by rw [Array.length_toList, HZS.out]; omega)).2
    have y6 := z6.set1 0 (.int .u64 (cu : Nat)) (by rw [Array.length_toList, HZS.out]; omega)
    rw [← HGS.out, stC_cm] at y6
    have K6 := setCells_kp [.int .u64 (cu : Nat)] x5.heap.size 0 v6
    rw [show v6.setCells x5.heap.size 0 [.int .u64 (cu : Nat)] = v6.setCell ⟨x5.heap.size, 0, none⟩ (.int .u64 (cu : Nat)) from rfl] at K6
    have g6 : Grew w (v6.setCell ⟨x5.heap.size, 0, none⟩ (.int .u64 (cu : Nat))) := setCells_grew (o := 0) (b := x5.heap.size) [.int .u64 (cu : Nat)] G6 (by have := G5.size; omega)
    have zk6 := zk6.kp K6 (by have := zk5.lt; omega)
    have zs6 := zs6.kp K6 (by have := zs5.lt; omega)
    have rR6 := (rR6.kp K6 (Nat.le_refl _) (fun ad e _ (h : ad.block = x5.heap.size) => by
      obtain ⟨ad', e', hlt, _⟩ := rR5 0 (by simp [u64L, hRl])
      rw [e] at e'; injection e' with e'; subst e'; omega)).more K6.size
    have r6 := (r6.kp K6 (Nat.le_refl _) (fun ad e _ (h : ad.block = x5.heap.size) => by
      obtain ⟨ad', e', hlt, _⟩ := r5 0 (by simp [u64L, hpl])
      rw [e] at e'; injection e' with e'; subst e'; omega)).more K6.size
    have y5 := y5.kp K6 (by have := y5_lt; omega)
    go_upto_region 16 with (first
      | (with_reducible refine wpList_load_mid rfl 44 (.tmp 14) rfl w3.heap.size 0 rfl gs.toList _ hm6 hut rfl HSL1.out ?_; simp only [Array.toArray_toList])
      | (with_reducible refine wpList_store_mid rfl 44 (.tmp 17) (.tmp 66) rfl x5.heap.size 0 gs rfl rfl TH6.out HSS1.out HOS1.out ?_; rw [HV6.out]))
    clear HV6 TH6 hm6 cc6 fc6 K6 z6 gs6 G6 zk5 zs5 rR5 r5 G5 y5_lt
    obtain ⟨x6, hx6⟩ : ∃ v, v6.setCell ⟨x5.heap.size, 0, none⟩ (.int .u64 (cu : Nat)) = v := ⟨_, rfl⟩
    rw [hx6] at y6 zk6 zs6 rR6 r6 g6 y5 ⊢
    clear hx6
    have G6 := g6
    clear g6
    obtain ⟨v7, hv7, th7, gs7, z7⟩ := put_st x6 gs HZS.out
    have HV7 := Lib.hid hv7
    have TH7 := Lib.hid th7
    have hm7 := zs6.cell
    have zk7 := zk6.grew gs7
    have zs7 := zs6.grew gs7
    have rR7 := rR6.gr gs7
    have r7 := r6.gr gs7
    have G7 := grew_trans G6 gs7
    have y5_lt := y5.lt
    have y6_lt := y6.lt
    have y5 := y5.grew gs7
    have y6 := y6.grew gs7
    have cc7 : v7.cell? ⟨x6.heap.size, 1, none⟩ = some (.int .i64 (m : Int)) := by simpa using z7.cell 1 _ HG1.out
    have fc7 : v7.frozen? ⟨x6.heap.size, 1, none⟩ = false := by simpa using (z7.there 1 (by rw [Array.length_toList, HZS.out]; omega)).2
    have y7 := z7.set1 1 (.int .i64 (mv : Int)) (by rw [Array.length_toList, HZS.out]; omega)
    rw [← HGS.out, stC_who] at y7
    have K7 := setCells_kp [.int .i64 (mv : Int)] x6.heap.size 1 v7
    rw [show v7.setCells x6.heap.size 1 [.int .i64 (mv : Int)] = v7.setCell ⟨x6.heap.size, 1, none⟩ (.int .i64 (mv : Int)) from rfl] at K7
    have g7 : Grew w (v7.setCell ⟨x6.heap.size, 1, none⟩ (.int .i64 (mv : Int))) := setCells_grew (o := 1) (b := x6.heap.size) [.int .i64 (mv : Int)] G7 (by have := G6.size; omega)
    have zk7 := zk7.kp K7 (by have := zk6.lt; omega)
    have zs7 := zs7.kp K7 (by have := zs6.lt; omega)
    have rR7 := (rR7.kp K7 (Nat.le_refl _) (fun ad e _ (h : ad.block = x6.heap.size) => by
      obtain ⟨ad', e', hlt, _⟩ := rR6 0 (by simp [u64L, hRl])
      rw [e] at e'; injection e' with e'; subst e'; omega)).more K7.size
    have r7 := (r7.kp K7 (Nat.le_refl _) (fun ad e _ (h : ad.block = x6.heap.size) => by
      obtain ⟨ad', e', hlt, _⟩ := r6 0 (by simp [u64L, hpl])
      rw [e] at e'; injection e' with e'; subst e'; omega)).more K7.size
    have y5 := y5.kp K7 (by have := y5_lt; omega)
    have y6 := y6.kp K7 (by have := y6_lt; omega)
    go_upto_region 18 with (first
      | (with_reducible refine wpList_load_mid rfl 44 (.tmp 14) rfl w3.heap.size 0 rfl gs.toList _ hm7 hut rfl HSL1.out ?_; simp only [Array.toArray_toList])
      | (with_reducible refine wpList_store_mid rfl 44 (.tmp 18) (.tmp 70) rfl x6.heap.size 0 gs rfl rfl TH7.out HSS1.out HOS1.out ?_; rw [HV7.out]))
    clear HV7 TH7 hm7 cc7 fc7 K7 z7 gs7 G7 zk6 zs6 rR6 r6 G6 y5_lt y6_lt
    obtain ⟨x7, hx7⟩ : ∃ v, v7.setCell ⟨x6.heap.size, 1, none⟩ (.int .i64 (mv : Int)) = v := ⟨_, rfl⟩
    rw [hx7] at y7 zk7 zs7 rR7 r7 g7 y5 y6 ⊢
    clear hx7
    have G7 := g7
    clear g7
    have CV5 := Lib.hid (stvalid_ok 1 (by omega) R RA Rc 2 cm (m : Int) other (m : Int) ((0 : Nat) : Int) sF A1 c1 pl HCM.out ⟨by omega, by omega⟩ HOT.out ⟨by omega, by omega⟩ ⟨by omega, by omega⟩ (by omega) HSF.out HPB.out (by omega) HRB.out)
    have CV6 := Lib.hid (stvalid_ok 1 (by omega) R RA Rc 2 cu (m : Int) at_ (m : Int) ((0 : Nat) : Int) sF A1 c1 pl hcu64 ⟨by omega, by omega⟩ HAT.out ⟨by omega, by omega⟩ ⟨by omega, by omega⟩ (by omega) HSF.out HPB.out (by omega) HRB.out)
    have CV7 := Lib.hid (stvalid_ok 1 (by omega) R RA Rc 2 cm (mv : Int) at_ (m : Int) ((0 : Nat) : Int) sF A1 c1 pl HCM.out ⟨by omega, by omega⟩ HAT.out ⟨by omega, by omega⟩ ⟨by omega, by omega⟩ (by omega) HSF.out HPB.out (by omega) HRB.out)
    have CR5 := Lib.hid (fun A2 c2 A3 c3 W h1 h2 => rstvalid_ok 1 (by omega) R A2 c2 2 cm (m : Int) other (m : Int) ((0 : Nat) : Int) sF A3 c3 pl HCM.out ⟨by omega, by omega⟩ HOT.out ⟨by omega, by omega⟩ ⟨by omega, by omega⟩ (by omega) HSF.out HPB.out (by omega) W h1 h2)
    have CR6 := Lib.hid (fun A2 c2 A3 c3 W h1 h2 => rstvalid_ok 1 (by omega) R A2 c2 2 cu (m : Int) at_ (m : Int) ((0 : Nat) : Int) sF A3 c3 pl hcu64 ⟨by omega, by omega⟩ HAT.out ⟨by omega, by omega⟩ ⟨by omega, by omega⟩ (by omega) HSF.out HPB.out (by omega) W h1 h2)
    have CO5 := Lib.hid (fun W hR => stof_ok cm (m : Int) other (m : Int) ((0 : Nat) : Int) sF A1 c1 pl (by omega) W hR)
    have CO6 := Lib.hid (fun W hR => stof_ok cu (m : Int) at_ (m : Int) ((0 : Nat) : Int) sF A1 c1 pl (by omega) W hR)
    have CKK := Lib.hid (fun W hR => ofkeys_ok 1 R RA Rc 2 (by omega) W hR)
    rw [va_no R 2 cm mv m at_ ((0 : Nat) : Int) sF pl hmv4 hmne hT hRl] at CV7
    have SL5 : Hid ((Tryz.prog.info? 44).map (·.size) = some (stC cm (m : Int) other (m : Int) ((0 : Nat) : Int) sF (.slice A1 pl.length c1)).toList.length) := Lib.hid st_info
    have SL6 : Hid ((Tryz.prog.info? 44).map (·.size) = some (stC cu (m : Int) at_ (m : Int) ((0 : Nat) : Int) sF (.slice A1 pl.length c1)).toList.length) := Lib.hid st_info
    have SL7 : Hid ((Tryz.prog.info? 44).map (·.size) = some (stC cm (mv : Int) at_ (m : Int) ((0 : Nat) : Int) sF (.slice A1 pl.length c1)).toList.length) := Lib.hid st_info
    have hky : kyS 1 RA R.length Rc 2 = kyS 1 RA 4 Rc 2 := by rw [hRl]
    rw [hky] at CV5 CV6 CV7 CKK
    clear hky HGS HZS HSS1 HSL1 HOS1 HG0 HG1 HG2 HSF HPB HRB HAT HOT HCM hcu hcu64 hmv hmv4 hmne ew zs7 hpl hT hm hm0 hm4' hRl
    generalize vaE 1 R 2 cm (m : Int) other (m : Int) ((0 : Nat) : Int) sF pl = vT at *
    generalize vaE 1 R 2 cu (m : Int) at_ (m : Int) ((0 : Nat) : Int) sF pl = vU at *
    have HKY := Lib.hid zk7
    have HY5 := Lib.hid y5
    have HY6 := Lib.hid y6
    have HY7 := Lib.hid y7
    clear zk7 y5 y6 y7
    generalize stC cm (m : Int) other (m : Int) ((0 : Nat) : Int) sF (.slice A1 pl.length c1) = g5 at *
    generalize stC cu (m : Int) at_ (m : Int) ((0 : Nat) : Int) sF (.slice A1 pl.length c1) = g6 at *
    generalize stC cm (mv : Int) at_ (m : Int) ((0 : Nat) : Int) sF (.slice A1 pl.length c1) = g7 at *
    generalize kyS 1 RA 4 Rc 2 = ky at *
    have HMK := Lib.hid (fun y (g : Grew x7 y) => (HKY.out.grew g).cell)
    have HM5 := Lib.hid (fun y (g : Grew x7 y) => (HY5.out.grew g).cell)
    have HM6 := Lib.hid (fun y (g : Grew x7 y) => (HY6.out.grew g).cell)
    have HM7 := Lib.hid (fun y (g : Grew x7 y) => (HY7.out.grew g).cell)
    have RRY := Lib.hid (fun y (g : Grew x7 y) => rR7.gr g)
    have RLY := Lib.hid (fun y (g : Grew x7 y) => r7.gr g)
    have SSY := Lib.hid (fun y (g : Grew x7 y) => HS.out.grew (grew_trans G7 g))
    have G8 := Lib.hid G7
    clear rR7 r7 G7
    obtain ⟨bT, eT⟩ : ∃ b, (vT == 0) = b := ⟨_, rfl⟩
    obtain ⟨bU, eU⟩ : ∃ b, (vU == 0) = b := ⟨_, rfl⟩
    have eTT : (bT == bT) = true := by simp
    have eUU : (bU == bU) = true := by simp
    generalize w1.heap.size = pk at *
    generalize w4.heap.size = p5 at *
    generalize x5.heap.size = p6 at *
    generalize x6.heap.size = p7 at *
    refine wp_region_rel 30 (fun i => match i with
        | 0 => fun v _ => v = .agg ky
        | 1 => fun v _ => v = .agg g5
        | 2 => fun v _ => v = .int .i64 vT
        | 3 => fun v _ => v = .bool bT
        | 4 => fun v _ => v = .agg ky
        | 5 => fun v w => KV w 0 1 R 2 v
        | 6 => fun v _ => v = .agg g5
        | 7 => fun v w => AgT w 0 cm (m : Int) other (m : Int) ((0 : Nat) : Int) sF pl v
        | 8 => fun v _ => v = .int .i64 vT
        | 9 => fun v _ => v = .bool bT
        | 10 => fun v _ => v = .bool true
        | 11 => fun v _ => v = .bool true
        | 12 => fun v _ => v = .agg ky
        | 13 => fun v _ => v = .agg g6
        | 14 => fun v _ => v = .int .i64 vU
        | 15 => fun v _ => v = .bool bU
        | 16 => fun v _ => v = .agg ky
        | 17 => fun v w => KV w 0 1 R 2 v
        | 18 => fun v _ => v = .agg g6
        | 19 => fun v w => AgT w 0 cu (m : Int) at_ (m : Int) ((0 : Nat) : Int) sF pl v
        | 20 => fun v _ => v = .int .i64 vU
        | 21 => fun v _ => v = .bool bU
        | 22 => fun v _ => v = .bool true
        | 23 => fun v _ => v = .bool true
        | 24 => fun v _ => v = .bool true
        | 25 => fun v _ => v = .agg ky
        | 26 => fun v _ => v = .agg g7
        | 27 => fun v _ => v = .int .i64 7
        | 28 => fun v _ => v = .bool true
        | 29 => fun v _ => v = .bool true
        | _ => fun _ _ => True) (by kernel_rfl) (by kernel_rfl) ?_ ?_ ?_
    · intro i v x y h hg
      match i, h with
      | 0, h | 1, h | 2, h | 3, h | 4, h | 6, h | 8, h | 9, h | 10, h | 11, h | 12, h | 13, h | 14, h | 15, h | 16, h | 18, h | 20, h | 21, h | 22, h | 23, h | 24, h | 25, h | 26, h | 27, h | 28, h | 29, h => exact h
      | 5, h => exact KV.gr h hg
      | 7, h => exact AgT.gr h hg
      | 17, h => exact KV.gr h hg
      | 19, h => exact AgT.gr h hg
      | m + 30, _ => trivial
    · refine ⟨?_, ?_, ?_, ?_, ?_, ?_, ?_, ?_, ?_, ?_, ?_, ?_, ?_, ?_, ?_, ?_, ?_, ?_, ?_, ?_, ?_, ?_, ?_, ?_, ?_, ?_, ?_, ?_, ?_, ?_, trivial⟩
      · intro vs y hg hd
        simp only [actOf, List.take_succ_cons, List.take_zero, List.drop_succ_cons, List.drop_zero, Act.put, List.setIfInBounds_toArray, List.set_cons_succ, List.set_cons_zero, Nat.reduceAdd]
        have hm := HMK.out y hg
        go_wp2_with (refine wpList_load_mid_want (by rfl) 36 (.tmp 12) rfl pk 0 rfl ky.toList _ hm hkt rfl HSKL.out ?_; simp only [Array.toArray_toList])
        exact ⟨rfl, _, rfl, grew_refl _, rfl⟩
      · intro vs y hg hd
        simp only [actOf, List.take_succ_cons, List.take_zero, List.drop_succ_cons, List.drop_zero, Act.put, List.setIfInBounds_toArray, List.set_cons_succ, List.set_cons_zero, Nat.reduceAdd]
        have hm := HM5.out y hg
        go_wp2_with (refine wpList_load_mid_want (by rfl) 44 (.tmp 16) rfl p5 0 rfl g5.toList _ hm hut rfl SL5.out ?_; simp only [Array.toArray_toList])
        exact ⟨rfl, _, rfl, grew_refl _, rfl⟩
      · intro vs y hg hd
        obtain ⟨h0, h1, _⟩ := hd
        replace h0 := h0 rfl
        replace h1 := h1 rfl
        simp only [actOf, List.take_succ_cons, List.take_zero, List.drop_succ_cons, List.drop_zero, Act.put, List.setIfInBounds_toArray, List.set_cons_succ, List.set_cons_zero, Nat.reduceAdd]
        rw [show vs 0 = _ from h0, show vs 1 = _ from h1]
        go_wp2_with (go_at_call 26; refine (CV5.out y (SSY.out y hg) (RRY.out y hg) (RLY.out y hg)).mono ?_; rintro e z ⟨rfl, gz⟩)
        exact ⟨rfl, _, rfl, gz, rfl⟩
      · intro vs y hg hd
        obtain ⟨h2, _⟩ := hd
        replace h2 := h2 rfl
        simp only [actOf, List.take_succ_cons, List.take_zero, List.drop_succ_cons, List.drop_zero, Act.put, List.setIfInBounds_toArray, List.set_cons_succ, List.set_cons_zero, Nat.reduceAdd]
        rw [show vs 2 = _ from h2]
        go_wp2_with fail
        exact ⟨rfl, _, rfl, grew_refl _, rfl⟩
      · intro vs y hg hd
        simp only [actOf, List.take_succ_cons, List.take_zero, List.drop_succ_cons, List.drop_zero, Act.put, List.setIfInBounds_toArray, List.set_cons_succ, List.set_cons_zero, Nat.reduceAdd]
        have hm := HMK.out y hg
        go_wp2_with (refine wpList_load_mid_want (by rfl) 36 (.tmp 12) rfl pk 0 rfl ky.toList _ hm hkt rfl HSKL.out ?_; simp only [Array.toArray_toList])
        exact ⟨rfl, _, rfl, grew_refl _, rfl⟩
      · intro vs y hg hd
        obtain ⟨h4, _⟩ := hd
        replace h4 := h4 rfl
        simp only [actOf, List.take_succ_cons, List.take_zero, List.drop_succ_cons, List.drop_zero, Act.put, List.setIfInBounds_toArray, List.set_cons_succ, List.set_cons_zero, Nat.reduceAdd]
        rw [show vs 4 = _ from h4]
        go_wp2_with (go_at_call 35; refine (CKK.out y (RRY.out y hg)).mono ?_; rintro e z ⟨A2, c2, rfl, hr2, gz⟩)
        exact ⟨rfl, _, rfl, gz, ⟨A2, c2, rfl, hr2, fun ad h => Nat.zero_le _⟩⟩
      · intro vs y hg hd
        simp only [actOf, List.take_succ_cons, List.take_zero, List.drop_succ_cons, List.drop_zero, Act.put, List.setIfInBounds_toArray, List.set_cons_succ, List.set_cons_zero, Nat.reduceAdd]
        have hm := HM5.out y hg
        go_wp2_with (refine wpList_load_mid_want (by rfl) 44 (.tmp 16) rfl p5 0 rfl g5.toList _ hm hut rfl SL5.out ?_; simp only [Array.toArray_toList])
        exact ⟨rfl, _, rfl, grew_refl _, rfl⟩
      · intro vs y hg hd
        obtain ⟨h6, _⟩ := hd
        replace h6 := h6 rfl
        simp only [actOf, List.take_succ_cons, List.take_zero, List.drop_succ_cons, List.drop_zero, Act.put, List.setIfInBounds_toArray, List.set_cons_succ, List.set_cons_zero, Nat.reduceAdd]
        rw [show vs 6 = _ from h6]
        go_wp2_with (go_at_call 31; refine (CO5.out y (RLY.out y hg)).mono ?_; rintro e z ⟨A3, c3, rfl, hr3, gz, hb3⟩)
        exact ⟨rfl, _, rfl, gz, ⟨A3, c3, rfl, hr3, fun ad h => Nat.zero_le _⟩⟩
      · intro vs y hg hd
        obtain ⟨h5, h7, _⟩ := hd
        replace h5 := h5 rfl
        replace h7 := h7 rfl
        simp only [actOf, List.take_succ_cons, List.take_zero, List.drop_succ_cons, List.drop_zero, Act.put, List.setIfInBounds_toArray, List.set_cons_succ, List.set_cons_zero, Nat.reduceAdd]
        obtain ⟨A2, c2, hv, hr2, hb2⟩ := KV.out h5
        rw [hv]
        obtain ⟨A3, c3, hv3, hr3, hb3⟩ := AgT.out h7
        rw [hv3]
        go_wp2_with (go_at_call 27; refine (CR5.out A2 c2 A3 c3 y hr2 hr3).mono ?_; rintro e z ⟨rfl, gz⟩)
        exact ⟨rfl, _, rfl, gz, rfl⟩
      · intro vs y hg hd
        obtain ⟨h8, _⟩ := hd
        replace h8 := h8 rfl
        simp only [actOf, List.take_succ_cons, List.take_zero, List.drop_succ_cons, List.drop_zero, Act.put, List.setIfInBounds_toArray, List.set_cons_succ, List.set_cons_zero, Nat.reduceAdd]
        rw [show vs 8 = _ from h8]
        go_wp2_with fail
        exact ⟨rfl, _, rfl, grew_refl _, rfl⟩
      · intro vs y hg hd
        obtain ⟨h3, h9, _⟩ := hd
        replace h3 := h3 rfl
        replace h9 := h9 rfl
        simp only [actOf, List.take_succ_cons, List.take_zero, List.drop_succ_cons, List.drop_zero, Act.put, List.setIfInBounds_toArray, List.set_cons_succ, List.set_cons_zero, Nat.reduceAdd]
        rw [show vs 3 = _ from h3, show vs 9 = _ from h9]
        go_wp2_with fail
        exact ⟨rfl, _, rfl, grew_refl _, rfl⟩
      · intro vs y hg hd
        obtain ⟨h10, _⟩ := hd
        replace h10 := h10 rfl
        simp only [actOf, List.take_succ_cons, List.take_zero, List.drop_succ_cons, List.drop_zero, Act.put, List.setIfInBounds_toArray, List.set_cons_succ, List.set_cons_zero, Nat.reduceAdd]
        rw [show vs 10 = _ from h10]
        go_wp2_with fail
        exact ⟨rfl, _, rfl, grew_refl _, rfl⟩
      · intro vs y hg hd
        have hx : (Region.binds .any { on := 11, ground := .guard } = true → vs 11 = .bool true) ∧ True := hd
        have h11 : vs 11 = .bool true := hx.1 rfl
        clear hx
        simp only [actOf, List.take_succ_cons, List.take_zero, List.drop_succ_cons, List.drop_zero, Act.put, List.setIfInBounds_toArray, List.set_cons_succ, List.set_cons_zero, Nat.reduceAdd]
        rw [show vs 11 = _ from h11]
        have hm := HMK.out y hg
        go_wp2_with (refine wpList_load_mid_want (by rfl) 36 (.tmp 12) rfl pk 0 rfl ky.toList _ hm hkt rfl HSKL.out ?_; simp only [Array.toArray_toList])
        exact ⟨rfl, _, rfl, grew_refl _, rfl⟩
      · intro vs y hg hd
        have hx : (Region.binds .any { on := 11, ground := .guard } = true → vs 11 = .bool true) ∧ True := hd
        have h11 : vs 11 = .bool true := hx.1 rfl
        clear hx
        simp only [actOf, List.take_succ_cons, List.take_zero, List.drop_succ_cons, List.drop_zero, Act.put, List.setIfInBounds_toArray, List.set_cons_succ, List.set_cons_zero, Nat.reduceAdd]
        rw [show vs 11 = _ from h11]
        have hm := HM6.out y hg
        go_wp2_with (refine wpList_load_mid_want (by rfl) 44 (.tmp 17) rfl p6 0 rfl g6.toList _ hm hut rfl SL6.out ?_; simp only [Array.toArray_toList])
        exact ⟨rfl, _, rfl, grew_refl _, rfl⟩
      · intro vs y hg hd
        have hx : (Region.binds .any { on := 12, ground := .data } = true → vs 12 = .agg ky) ∧ (Region.binds .any { on := 13, ground := .data } = true → vs 13 = .agg g6) ∧ (Region.binds .any { on := 11, ground := .chain } = true → vs 11 = .bool true) ∧ (Region.binds .any { on := 11, ground := .guard } = true → vs 11 = .bool true) ∧ True := hd
        have h12 : vs 12 = .agg ky := hx.1 rfl
        have h13 : vs 13 = .agg g6 := hx.2.1 rfl
        have h11 : vs 11 = .bool true := hx.2.2.2.1 rfl
        clear hx
        simp only [actOf, List.take_succ_cons, List.take_zero, List.drop_succ_cons, List.drop_zero, Act.put, List.setIfInBounds_toArray, List.set_cons_succ, List.set_cons_zero, Nat.reduceAdd]
        rw [show vs 12 = _ from h12, show vs 13 = _ from h13, show vs 11 = _ from h11]
        go_wp2_with (go_at_call 26; refine (CV6.out y (SSY.out y hg) (RRY.out y hg) (RLY.out y hg)).mono ?_; rintro e z ⟨rfl, gz⟩)
        exact ⟨rfl, _, rfl, gz, rfl⟩
      · intro vs y hg hd
        have hx : (Region.binds .any { on := 14, ground := .data } = true → vs 14 = .int .i64 vU) ∧ (Region.binds .any { on := 11, ground := .guard } = true → vs 11 = .bool true) ∧ True := hd
        have h14 : vs 14 = .int .i64 vU := hx.1 rfl
        have h11 : vs 11 = .bool true := hx.2.1 rfl
        clear hx
        simp only [actOf, List.take_succ_cons, List.take_zero, List.drop_succ_cons, List.drop_zero, Act.put, List.setIfInBounds_toArray, List.set_cons_succ, List.set_cons_zero, Nat.reduceAdd]
        rw [show vs 14 = _ from h14, show vs 11 = _ from h11]
        go_wp2_with fail
        exact ⟨rfl, _, rfl, grew_refl _, rfl⟩
      · intro vs y hg hd
        have hx : (Region.binds .any { on := 11, ground := .guard } = true → vs 11 = .bool true) ∧ True := hd
        have h11 : vs 11 = .bool true := hx.1 rfl
        clear hx
        simp only [actOf, List.take_succ_cons, List.take_zero, List.drop_succ_cons, List.drop_zero, Act.put, List.setIfInBounds_toArray, List.set_cons_succ, List.set_cons_zero, Nat.reduceAdd]
        rw [show vs 11 = _ from h11]
        have hm := HMK.out y hg
        go_wp2_with (refine wpList_load_mid_want (by rfl) 36 (.tmp 12) rfl pk 0 rfl ky.toList _ hm hkt rfl HSKL.out ?_; simp only [Array.toArray_toList])
        exact ⟨rfl, _, rfl, grew_refl _, rfl⟩
      · intro vs y hg hd
        have hx : (Region.binds .any { on := 16, ground := .data } = true → vs 16 = .agg ky) ∧ (Region.binds .any { on := 14, ground := .chain } = true → vs 14 = .int .i64 vU) ∧ (Region.binds .any { on := 11, ground := .guard } = true → vs 11 = .bool true) ∧ True := hd
        have h16 : vs 16 = .agg ky := hx.1 rfl
        have h11 : vs 11 = .bool true := hx.2.2.1 rfl
        clear hx
        simp only [actOf, List.take_succ_cons, List.take_zero, List.drop_succ_cons, List.drop_zero, Act.put, List.setIfInBounds_toArray, List.set_cons_succ, List.set_cons_zero, Nat.reduceAdd]
        rw [show vs 16 = _ from h16, show vs 11 = _ from h11]
        go_wp2_with (go_at_call 35; refine (CKK.out y (RRY.out y hg)).mono ?_; rintro e z ⟨A2, c2, rfl, hr2, gz⟩)
        exact ⟨rfl, _, rfl, gz, ⟨A2, c2, rfl, hr2, fun ad h => Nat.zero_le _⟩⟩
      · intro vs y hg hd
        have hx : (Region.binds .any { on := 11, ground := .guard } = true → vs 11 = .bool true) ∧ True := hd
        have h11 : vs 11 = .bool true := hx.1 rfl
        clear hx
        simp only [actOf, List.take_succ_cons, List.take_zero, List.drop_succ_cons, List.drop_zero, Act.put, List.setIfInBounds_toArray, List.set_cons_succ, List.set_cons_zero, Nat.reduceAdd]
        rw [show vs 11 = _ from h11]
        have hm := HM6.out y hg
        go_wp2_with (refine wpList_load_mid_want (by rfl) 44 (.tmp 17) rfl p6 0 rfl g6.toList _ hm hut rfl SL6.out ?_; simp only [Array.toArray_toList])
        exact ⟨rfl, _, rfl, grew_refl _, rfl⟩
      · intro vs y hg hd
        have hx : (Region.binds .any { on := 18, ground := .data } = true → vs 18 = .agg g6) ∧ (Region.binds .any { on := 17, ground := .chain } = true → (fun v w => KV w 0 1 R 2 v) (vs 17) y) ∧ (Region.binds .any { on := 11, ground := .guard } = true → vs 11 = .bool true) ∧ True := hd
        have h18 : vs 18 = .agg g6 := hx.1 rfl
        have h11 : vs 11 = .bool true := hx.2.2.1 rfl
        clear hx
        simp only [actOf, List.take_succ_cons, List.take_zero, List.drop_succ_cons, List.drop_zero, Act.put, List.setIfInBounds_toArray, List.set_cons_succ, List.set_cons_zero, Nat.reduceAdd]
        rw [show vs 18 = _ from h18, show vs 11 = _ from h11]
        go_wp2_with (go_at_call 31; refine (CO6.out y (RLY.out y hg)).mono ?_; rintro e z ⟨A3, c3, rfl, hr3, gz, hb3⟩)
        exact ⟨rfl, _, rfl, gz, ⟨A3, c3, rfl, hr3, fun ad h => Nat.zero_le _⟩⟩
      · intro vs y hg hd
        have hx : (Region.binds .any { on := 17, ground := .data } = true → (fun v w => KV w 0 1 R 2 v) (vs 17) y) ∧ (Region.binds .any { on := 19, ground := .data } = true → (fun v w => AgT w 0 cu (m : Int) at_ (m : Int) ((0 : Nat) : Int) sF pl v) (vs 19) y) ∧ (Region.binds .any { on := 19, ground := .chain } = true → (fun v w => AgT w 0 cu (m : Int) at_ (m : Int) ((0 : Nat) : Int) sF pl v) (vs 19) y) ∧ (Region.binds .any { on := 11, ground := .guard } = true → vs 11 = .bool true) ∧ True := hd
        have h17 : (fun v w => KV w 0 1 R 2 v) (vs 17) y := hx.1 rfl
        have h19 : (fun v w => AgT w 0 cu (m : Int) at_ (m : Int) ((0 : Nat) : Int) sF pl v) (vs 19) y := hx.2.1 rfl
        have h11 : vs 11 = .bool true := hx.2.2.2.1 rfl
        clear hx
        simp only [actOf, List.take_succ_cons, List.take_zero, List.drop_succ_cons, List.drop_zero, Act.put, List.setIfInBounds_toArray, List.set_cons_succ, List.set_cons_zero, Nat.reduceAdd]
        rw [show vs 11 = _ from h11]
        obtain ⟨A2, c2, hv, hr2, hb2⟩ := KV.out h17
        rw [hv]
        obtain ⟨A3, c3, hv3, hr3, hb3⟩ := AgT.out h19
        rw [hv3]
        go_wp2_with (go_at_call 27; refine (CR6.out A2 c2 A3 c3 y hr2 hr3).mono ?_; rintro e z ⟨rfl, gz⟩)
        exact ⟨rfl, _, rfl, gz, rfl⟩
      · intro vs y hg hd
        have hx : (Region.binds .any { on := 20, ground := .data } = true → vs 20 = .int .i64 vU) ∧ (Region.binds .any { on := 11, ground := .guard } = true → vs 11 = .bool true) ∧ True := hd
        have h20 : vs 20 = .int .i64 vU := hx.1 rfl
        have h11 : vs 11 = .bool true := hx.2.1 rfl
        clear hx
        simp only [actOf, List.take_succ_cons, List.take_zero, List.drop_succ_cons, List.drop_zero, Act.put, List.setIfInBounds_toArray, List.set_cons_succ, List.set_cons_zero, Nat.reduceAdd]
        rw [show vs 20 = _ from h20, show vs 11 = _ from h11]
        go_wp2_with fail
        exact ⟨rfl, _, rfl, grew_refl _, rfl⟩
      · intro vs y hg hd
        have hx : (Region.binds .any { on := 15, ground := .data } = true → vs 15 = .bool bU) ∧ (Region.binds .any { on := 21, ground := .data } = true → vs 21 = .bool bU) ∧ (Region.binds .any { on := 11, ground := .guard } = true → vs 11 = .bool true) ∧ True := hd
        have h15 : vs 15 = .bool bU := hx.1 rfl
        have h21 : vs 21 = .bool bU := hx.2.1 rfl
        have h11 : vs 11 = .bool true := hx.2.2.1 rfl
        clear hx
        simp only [actOf, List.take_succ_cons, List.take_zero, List.drop_succ_cons, List.drop_zero, Act.put, List.setIfInBounds_toArray, List.set_cons_succ, List.set_cons_zero, Nat.reduceAdd]
        rw [show vs 15 = _ from h15, show vs 21 = _ from h21, show vs 11 = _ from h11]
        go_wp2_with fail
        exact ⟨rfl, _, rfl, grew_refl _, rfl⟩
      · intro vs y hg hd
        obtain ⟨h11, h22, _⟩ := hd
        replace h11 := h11 rfl
        replace h22 := h22 rfl
        simp only [actOf, List.take_succ_cons, List.take_zero, List.drop_succ_cons, List.drop_zero, Act.put, List.setIfInBounds_toArray, List.set_cons_succ, List.set_cons_zero, Nat.reduceAdd]
        rw [show vs 11 = _ from h11, show vs 22 = _ from h22]
        go_wp2_with fail
        exact ⟨rfl, _, rfl, grew_refl _, rfl⟩
      · intro vs y hg hd
        obtain ⟨h23, _⟩ := hd
        replace h23 := h23 rfl
        simp only [actOf, List.take_succ_cons, List.take_zero, List.drop_succ_cons, List.drop_zero, Act.put, List.setIfInBounds_toArray, List.set_cons_succ, List.set_cons_zero, Nat.reduceAdd]
        rw [show vs 23 = _ from h23]
        go_wp2_with fail
        exact ⟨rfl, _, rfl, grew_refl _, rfl⟩
      · intro vs y hg hd
        have hx : (Region.binds .any { on := 24, ground := .guard } = true → vs 24 = .bool true) ∧ True := hd
        have h24 : vs 24 = .bool true := hx.1 rfl
        clear hx
        simp only [actOf, List.take_succ_cons, List.take_zero, List.drop_succ_cons, List.drop_zero, Act.put, List.setIfInBounds_toArray, List.set_cons_succ, List.set_cons_zero, Nat.reduceAdd]
        rw [show vs 24 = _ from h24]
        have hm := HMK.out y hg
        go_wp2_with (refine wpList_load_mid_want (by rfl) 36 (.tmp 12) rfl pk 0 rfl ky.toList _ hm hkt rfl HSKL.out ?_; simp only [Array.toArray_toList])
        exact ⟨rfl, _, rfl, grew_refl _, rfl⟩
      · intro vs y hg hd
        have hx : (Region.binds .any { on := 24, ground := .guard } = true → vs 24 = .bool true) ∧ True := hd
        have h24 : vs 24 = .bool true := hx.1 rfl
        clear hx
        simp only [actOf, List.take_succ_cons, List.take_zero, List.drop_succ_cons, List.drop_zero, Act.put, List.setIfInBounds_toArray, List.set_cons_succ, List.set_cons_zero, Nat.reduceAdd]
        rw [show vs 24 = _ from h24]
        have hm := HM7.out y hg
        go_wp2_with (refine wpList_load_mid_want (by rfl) 44 (.tmp 18) rfl p7 0 rfl g7.toList _ hm hut rfl SL7.out ?_; simp only [Array.toArray_toList])
        exact ⟨rfl, _, rfl, grew_refl _, rfl⟩
      · intro vs y hg hd
        have hx : (Region.binds .any { on := 25, ground := .data } = true → vs 25 = .agg ky) ∧ (Region.binds .any { on := 26, ground := .data } = true → vs 26 = .agg g7) ∧ (Region.binds .any { on := 24, ground := .chain } = true → vs 24 = .bool true) ∧ (Region.binds .any { on := 24, ground := .guard } = true → vs 24 = .bool true) ∧ True := hd
        have h25 : vs 25 = .agg ky := hx.1 rfl
        have h26 : vs 26 = .agg g7 := hx.2.1 rfl
        have h24 : vs 24 = .bool true := hx.2.2.2.1 rfl
        clear hx
        simp only [actOf, List.take_succ_cons, List.take_zero, List.drop_succ_cons, List.drop_zero, Act.put, List.setIfInBounds_toArray, List.set_cons_succ, List.set_cons_zero, Nat.reduceAdd]
        rw [show vs 25 = _ from h25, show vs 26 = _ from h26, show vs 24 = _ from h24]
        go_wp2_with (go_at_call 26; refine (CV7.out y (SSY.out y hg) (RRY.out y hg) (RLY.out y hg)).mono ?_; rintro e z ⟨rfl, gz⟩)
        exact ⟨rfl, _, rfl, gz, rfl⟩
      · intro vs y hg hd
        have hx : (Region.binds .any { on := 27, ground := .data } = true → vs 27 = .int .i64 7) ∧ (Region.binds .any { on := 24, ground := .guard } = true → vs 24 = .bool true) ∧ True := hd
        have h27 : vs 27 = .int .i64 7 := hx.1 rfl
        have h24 : vs 24 = .bool true := hx.2.1 rfl
        clear hx
        simp only [actOf, List.take_succ_cons, List.take_zero, List.drop_succ_cons, List.drop_zero, Act.put, List.setIfInBounds_toArray, List.set_cons_succ, List.set_cons_zero, Nat.reduceAdd]
        rw [show vs 27 = _ from h27, show vs 24 = _ from h24]
        go_wp2_with fail
        exact ⟨rfl, _, rfl, grew_refl _, rfl⟩
      · intro vs y hg hd
        obtain ⟨h24, h28, _⟩ := hd
        replace h24 := h24 rfl
        replace h28 := h28 rfl
        simp only [actOf, List.take_succ_cons, List.take_zero, List.drop_succ_cons, List.drop_zero, Act.put, List.setIfInBounds_toArray, List.set_cons_succ, List.set_cons_zero, Nat.reduceAdd]
        rw [show vs 24 = _ from h24, show vs 28 = _ from h28]
        go_wp2_with fail
        exact ⟨rfl, _, rfl, grew_refl _, rfl⟩
    · intro vs y hg hJ
      have j0 : vs 0 = .agg ky := hJ 0 (by decide)
      have j1 : vs 1 = .agg g5 := hJ 1 (by decide)
      have j2 : vs 2 = .int .i64 vT := hJ 2 (by decide)
      have j3 : vs 3 = .bool bT := hJ 3 (by decide)
      have j4 : vs 4 = .agg ky := hJ 4 (by decide)
      have j6 : vs 6 = .agg g5 := hJ 6 (by decide)
      have j8 : vs 8 = .int .i64 vT := hJ 8 (by decide)
      have j9 : vs 9 = .bool bT := hJ 9 (by decide)
      have j10 : vs 10 = .bool true := hJ 10 (by decide)
      have j11 : vs 11 = .bool true := hJ 11 (by decide)
      have j12 : vs 12 = .agg ky := hJ 12 (by decide)
      have j13 : vs 13 = .agg g6 := hJ 13 (by decide)
      have j14 : vs 14 = .int .i64 vU := hJ 14 (by decide)
      have j15 : vs 15 = .bool bU := hJ 15 (by decide)
      have j16 : vs 16 = .agg ky := hJ 16 (by decide)
      have j18 : vs 18 = .agg g6 := hJ 18 (by decide)
      have j20 : vs 20 = .int .i64 vU := hJ 20 (by decide)
      have j21 : vs 21 = .bool bU := hJ 21 (by decide)
      have j22 : vs 22 = .bool true := hJ 22 (by decide)
      have j23 : vs 23 = .bool true := hJ 23 (by decide)
      have j24 : vs 24 = .bool true := hJ 24 (by decide)
      have j25 : vs 25 = .agg ky := hJ 25 (by decide)
      have j26 : vs 26 = .agg g7 := hJ 26 (by decide)
      have j27 : vs 27 = .int .i64 7 := hJ 27 (by decide)
      have j28 : vs 28 = .bool true := hJ 28 (by decide)
      have j29 : vs 29 = .bool true := hJ 29 (by decide)
      have s80 := hJ 5 (by decide)
      have s82 := hJ 7 (by decide)
      have s92 := hJ 17 (by decide)
      have s94 := hJ 19 (by decide)
      clear hJ
      simp only [actOf, List.take_succ_cons, List.take_zero, List.drop_succ_cons, List.drop_zero, Act.put, List.setIfInBounds_toArray, List.set_cons_succ, List.set_cons_zero, Nat.reduceAdd]
      go_wp2_with fail
      go_ret
      exact ⟨rfl, grew_trans G8.out hg⟩
end Go.Proofs.YtaeopobofmpioaaGreatDoor

namespace Go.Proofs.YtaeopobofmpioaaGreatDoor
set_option linter.unusedSimpArgs false
set_option linter.unusedVariables false
open Go.RowKit
set_option linter.unusedVariables false
set_option linter.unusedSimpArgs false
set_option maxRecDepth 100000 in
set_option maxHeartbeats 2000000 in
theorem kto_fr (who leaf : Int) (s : Nat → Nat) (A : Option Addr) (c : Nat) (l : List Nat) (hl : l.length ≤ 1048576) (w : World) (hr : Rd w w.heap.size A (u64L l)) :
    Calls Tryz.prog 68 #[.agg (sgC who leaf s (.slice A l.length c))] w fun e w' => ∃ A' c', e = .returned (.agg (sgC who leaf s (.slice A' l.length c'))) ∧ Rd w' w'.heap.size A' (u64L l) ∧ Grew w w' ∧ (∀ ad, A' = some ad → w.heap.size ≤ ad.block) := by
  have z0 := Ag.new w 28 (sgC who leaf s (.slice A l.length c))
  have G0 := grew_alloc (grew_refl w) (.cells (sgC who leaf s (.slice A l.length c)) 28)
  have hwz : w.heap.size < (w.alloc (.cells (sgC who leaf s (.slice A l.length c)) 28)).heap.size := z0.lt
  have HIA : Hid ((Tryz.prog.info? 26).map (·.size) = some (arrU s).toList.length) := Lib.hid (by rw [show (arrU s).toList.length = 18 by simp [arrU]]; kernel_rfl)
  have hua := Tryz.underlying26
  have hur := Tryz.underlying42
  go_enter Tryz.func68, Tryz.ntmps68
  go_wp2_with fail
  have z2 : Ag ((w.alloc (.cells (sgC who leaf s (.slice A l.length c)) 28)).alloc (.cells (#[.int .i64 0, .int .i64 0, .int .u64 0, .int .u64 0, .int .u64 0, .int .u64 0, .int .u64 0, .int .u64 0, .int .u64 0, .int .u64 0, .int .u64 0, .int .u64 0, .int .u64 0, .int .u64 0, .int .u64 0, .int .u64 0, .int .u64 0, .int .u64 0, .int .u64 0, .int .u64 0, .slice none 0 0]) 42)) (w.heap.size + 1) (#[.int .i64 0, .int .i64 0, .int .u64 0, .int .u64 0, .int .u64 0, .int .u64 0, .int .u64 0, .int .u64 0, .int .u64 0, .int .u64 0, .int .u64 0, .int .u64 0, .int .u64 0, .int .u64 0, .int .u64 0, .int .u64 0, .int .u64 0, .int .u64 0, .int .u64 0, .int .u64 0, .slice none 0 0] : Array Value).toList := by
    have := Ag.new (w.alloc (.cells (sgC who leaf s (.slice A l.length c)) 28)) 42 (#[.int .i64 0, .int .i64 0, .int .u64 0, .int .u64 0, .int .u64 0, .int .u64 0, .int .u64 0, .int .u64 0, .int .u64 0, .int .u64 0, .int .u64 0, .int .u64 0, .int .u64 0, .int .u64 0, .int .u64 0, .int .u64 0, .int .u64 0, .int .u64 0, .int .u64 0, .int .u64 0, .slice none 0 0])
    simpa using this
  have z1 := z0.grew (grew_alloc (grew_refl _) (.cells (#[.int .i64 0, .int .i64 0, .int .u64 0, .int .u64 0, .int .u64 0, .int .u64 0, .int .u64 0, .int .u64 0, .int .u64 0, .int .u64 0, .int .u64 0, .int .u64 0, .int .u64 0, .int .u64 0, .int .u64 0, .int .u64 0, .int .u64 0, .int .u64 0, .int .u64 0, .int .u64 0, .slice none 0 0]) 42))
  have G2 := grew_alloc G0 (.cells (#[.int .i64 0, .int .i64 0, .int .u64 0, .int .u64 0, .int .u64 0, .int .u64 0, .int .u64 0, .int .u64 0, .int .u64 0, .int .u64 0, .int .u64 0, .int .u64 0, .int .u64 0, .int .u64 0, .int .u64 0, .int .u64 0, .int .u64 0, .int .u64 0, .int .u64 0, .int .u64 0, .slice none 0 0]) 42)
  clear z0 G0 hwz
  generalize (w.alloc (.cells (sgC who leaf s (.slice A l.length c)) 28)).alloc (.cells (#[.int .i64 0, .int .i64 0, .int .u64 0, .int .u64 0, .int .u64 0, .int .u64 0, .int .u64 0, .int .u64 0, .int .u64 0, .int .u64 0, .int .u64 0, .int .u64 0, .int .u64 0, .int .u64 0, .int .u64 0, .int .u64 0, .int .u64 0, .int .u64 0, .int .u64 0, .int .u64 0, .slice none 0 0]) 42) = w2 at *
  have HC0 : Hid (∀ y, Grew w2 y → y.cell? ⟨w.heap.size, 0, none⟩ = some (.int .i64 who)) := Lib.hid (fun y g => by simpa using (z1.grew g).cell 0 _ rfl)
  have HC1 : Hid (∀ y, Grew w2 y → y.cell? ⟨w.heap.size, 1, none⟩ = some (.int .i64 leaf)) := Lib.hid (fun y g => by simpa using (z1.grew g).cell 1 _ rfl)
  have HC20 : Hid (∀ y, Grew w2 y → y.cell? ⟨w.heap.size, 20, none⟩ = some (.slice A l.length c)) := Lib.hid (fun y g => by simpa using (z1.grew g).cell 20 _ rfl)
  have HCM : Hid (∀ y, Grew w2 y → y.rangeAt w.heap.size 2 (arrU s).toList) := Lib.hid (fun y g => sg_mid (z1.grew g))
  have r2 := hr.gr G2
  have HRY := Lib.hid (fun y (g : Grew w2 y) => r2.gr g)
  clear z1 hr r2
  refine wp_region_rel 11 (fun i => match i with
      | 0 => fun v _ => v = .pointer (some ⟨w.heap.size, 0, none⟩)
      | 1 => fun v _ => v = .int .i64 who
      | 2 => fun v _ => v = .pointer (some ⟨w.heap.size, 1, none⟩)
      | 3 => fun v _ => v = .int .i64 leaf
      | 4 => fun v _ => v = .pointer (some ⟨w.heap.size, 2, none⟩)
      | 5 => fun v _ => v = .agg (arrU s)
      | 6 => fun v _ => v = .agg (arrU s)
      | 7 => fun v _ => v = .pointer (some ⟨w.heap.size, 20, none⟩)
      | 8 => fun v _ => v = .slice A l.length c
      | 9 => fun v w => PV w w2.heap.size l v
      | 10 => fun v w => AgS w w2.heap.size who leaf s l v
      | _ => fun _ _ => True) (by kernel_rfl) (by kernel_rfl) ?_ ?_ ?_
  · intro i v x y h hg
    match i, h with
    | 0, h | 1, h | 2, h | 3, h | 4, h | 5, h | 6, h | 7, h | 8, h => exact h
    | 9, h => exact PV.gr h hg
    | 10, h => exact AgS.gr h hg
    | m + 11, _ => trivial
  · refine ⟨?_, ?_, ?_, ?_, ?_, ?_, ?_, ?_, ?_, ?_, ?_, trivial⟩
    · intro vs y hg hd
      simp only [actOf, List.take_succ_cons, List.take_zero, List.drop_succ_cons, List.drop_zero, Act.put, List.setIfInBounds_toArray, List.set_cons_succ, List.set_cons_zero, Nat.reduceAdd]
      go_wp2_with fail
      exact ⟨rfl, _, rfl, grew_refl _, rfl⟩
    · intro vs y hg hd
      obtain ⟨h0, _⟩ := hd
      replace h0 := h0 rfl
      simp only [actOf, List.take_succ_cons, List.take_zero, List.drop_succ_cons, List.drop_zero, Act.put, List.setIfInBounds_toArray, List.set_cons_succ, List.set_cons_zero, Nat.reduceAdd]
      rw [show vs 0 = _ from h0]
      have hc := HC0.out y hg
      go_wp2_with fail
      exact ⟨rfl, _, rfl, grew_refl _, rfl⟩
    · intro vs y hg hd
      simp only [actOf, List.take_succ_cons, List.take_zero, List.drop_succ_cons, List.drop_zero, Act.put, List.setIfInBounds_toArray, List.set_cons_succ, List.set_cons_zero, Nat.reduceAdd]
      go_wp2_with fail
      exact ⟨rfl, _, rfl, grew_refl _, rfl⟩
    · intro vs y hg hd
      obtain ⟨h2, _⟩ := hd
      replace h2 := h2 rfl
      simp only [actOf, List.take_succ_cons, List.take_zero, List.drop_succ_cons, List.drop_zero, Act.put, List.setIfInBounds_toArray, List.set_cons_succ, List.set_cons_zero, Nat.reduceAdd]
      rw [show vs 2 = _ from h2]
      have hc := HC1.out y hg
      go_wp2_with fail
      exact ⟨rfl, _, rfl, grew_refl _, rfl⟩
    · intro vs y hg hd
      simp only [actOf, List.take_succ_cons, List.take_zero, List.drop_succ_cons, List.drop_zero, Act.put, List.setIfInBounds_toArray, List.set_cons_succ, List.set_cons_zero, Nat.reduceAdd]
      go_wp2_with fail
      exact ⟨rfl, _, rfl, grew_refl _, rfl⟩
    · intro vs y hg hd
      obtain ⟨h4, _⟩ := hd
      replace h4 := h4 rfl
      simp only [actOf, List.take_succ_cons, List.take_zero, List.drop_succ_cons, List.drop_zero, Act.put, List.setIfInBounds_toArray, List.set_cons_succ, List.set_cons_zero, Nat.reduceAdd]
      rw [show vs 4 = _ from h4]
      have hm := HCM.out y hg
      go_wp2_with (with_reducible refine wpList_load_mid rfl 26 (.tmp 7) rfl w.heap.size 2 rfl (arrU s).toList _ hm hua rfl HIA.out ?_)
      exact ⟨rfl, _, rfl, grew_refl _, rfl⟩
    · intro vs y hg hd
      obtain ⟨h5, _⟩ := hd
      replace h5 := h5 rfl
      simp only [actOf, List.take_succ_cons, List.take_zero, List.drop_succ_cons, List.drop_zero, Act.put, List.setIfInBounds_toArray, List.set_cons_succ, List.set_cons_zero, Nat.reduceAdd]
      rw [show vs 5 = _ from h5]
      go_wp2_with (go_at_call 132; refine (to_row s y).mono ?_; rintro e z ⟨rfl, gz⟩)
      exact ⟨rfl, _, rfl, gz, rfl⟩
    · intro vs y hg hd
      simp only [actOf, List.take_succ_cons, List.take_zero, List.drop_succ_cons, List.drop_zero, Act.put, List.setIfInBounds_toArray, List.set_cons_succ, List.set_cons_zero, Nat.reduceAdd]
      go_wp2_with fail
      exact ⟨rfl, _, rfl, grew_refl _, rfl⟩
    · intro vs y hg hd
      obtain ⟨h7, _⟩ := hd
      replace h7 := h7 rfl
      simp only [actOf, List.take_succ_cons, List.take_zero, List.drop_succ_cons, List.drop_zero, Act.put, List.setIfInBounds_toArray, List.set_cons_succ, List.set_cons_zero, Nat.reduceAdd]
      rw [show vs 7 = _ from h7]
      have hc := HC20.out y hg
      go_wp2_with fail
      exact ⟨rfl, _, rfl, grew_refl _, rfl⟩
    · intro vs y hg hd
      obtain ⟨h8, _⟩ := hd
      replace h8 := h8 rfl
      simp only [actOf, List.take_succ_cons, List.take_zero, List.drop_succ_cons, List.drop_zero, Act.put, List.setIfInBounds_toArray, List.set_cons_succ, List.set_cons_zero, Nat.reduceAdd]
      rw [show vs 8 = _ from h8]
      go_wp2_with (go_at_call 67; refine (mkto_any A c y.heap.size l hl y (HRY.out y hg) (Nat.le_refl _)).mono ?_; rintro e z ⟨A2, c2, rfl, hr9, hb9, gz⟩)
      exact ⟨rfl, _, rfl, gz, ⟨A2, c2, rfl, hr9, fun ad h => Nat.le_trans hg.size (hb9 ad h)⟩⟩
    · intro vs y hg hd
      obtain ⟨h1, h3, h6, h9, _⟩ := hd
      replace h1 := h1 rfl
      replace h3 := h3 rfl
      replace h6 := h6 rfl
      replace h9 := h9 rfl
      simp only [actOf, List.take_succ_cons, List.take_zero, List.drop_succ_cons, List.drop_zero, Act.put, List.setIfInBounds_toArray, List.set_cons_succ, List.set_cons_zero, Nat.reduceAdd]
      rw [show vs 1 = _ from h1, show vs 3 = _ from h3, show vs 6 = _ from h6]
      obtain ⟨A2, c2, hv, hr9, hb9⟩ := PV.out h9
      rw [hv]
      have hbu := kg_built who leaf s A2 l.length c2
      generalize arrU s = aa at *
      refine wpList_build_is rfl 42 #[(0, .tmp 4), (1, .tmp 6), (2, .tmp 9), (3, .tmp 12)] rfl _ (by simpa [Act.eval] using hbu) ?_
      go_wp2_with fail
      exact ⟨rfl, _, rfl, grew_refl _, ⟨A2, c2, rfl, hr9, hb9⟩⟩
  · intro vs y hg hJ
    have j0 : vs 0 = .pointer (some ⟨w.heap.size, 0, none⟩) := hJ 0 (by decide)
    have j1 : vs 1 = .int .i64 who := hJ 1 (by decide)
    have j2 : vs 2 = .pointer (some ⟨w.heap.size, 1, none⟩) := hJ 2 (by decide)
    have j3 : vs 3 = .int .i64 leaf := hJ 3 (by decide)
    have j4 : vs 4 = .pointer (some ⟨w.heap.size, 2, none⟩) := hJ 4 (by decide)
    have j5 : vs 5 = .agg (arrU s) := hJ 5 (by decide)
    have j6 : vs 6 = .agg (arrU s) := hJ 6 (by decide)
    have j7 : vs 7 = .pointer (some ⟨w.heap.size, 20, none⟩) := hJ 7 (by decide)
    have j8 : vs 8 = .slice A l.length c := hJ 8 (by decide)
    simp only [actOf, List.take_succ_cons, List.take_zero, List.drop_succ_cons, List.drop_zero, Act.put, List.setIfInBounds_toArray, List.set_cons_succ, List.set_cons_zero, Nat.reduceAdd]
    obtain ⟨A2, c2, j10, r3, hb3⟩ := AgS.out (show AgS y w2.heap.size who leaf s l (vs 10) from hJ 10 (by decide))
    rw [j10]
    clear hJ j0 j1 j2 j3 j4 j5 j6 j7 j8 j10
    have h2 := z2.lt
    have HLO : Hid (∀ ad, A2 = some ad → w.heap.size ≤ ad.block) := Lib.hid (fun ad h => by have := hb3 ad h; have := G2.size; omega)
    have HNE : Hid (∀ ad, A2 = some ad → ad.block ≠ w.heap.size + 1) := Lib.hid (fun ad h => by have := hb3 ad h; omega)
    have z3 := z2.grew hg
    have G3 := grew_trans G2 hg
    clear z2 G2 hg hb3 h2
    have HTH : Hid (y.there (w.heap.size + 1) 0 (sgC who leaf s (.slice A2 l.length c2)).size) := Lib.hid (z3.thereN 21 rfl)
    have HSI : Hid ((Tryz.prog.info? 42).map (·.size) = some (sgC who leaf s (.slice A2 l.length c2)).size) := Lib.hid kg_info
    have HON := Lib.hid (sgC_one who leaf s A2 l.length c2)
    have K3 := setCells_kp (sgC who leaf s (.slice A2 l.length c2)).toList (w.heap.size + 1) 0 y
    have r4 := (r3.kp K3 (Nat.le_refl _) (fun ad h1 h2 h3 => HNE.out ad h1 h3)).more K3.size
    have z4 := Ag.set (vs := (sgC who leaf s (.slice A2 l.length c2)).toList) z3 rfl
    have G4 := setCells_grew (o := 0) (b := w.heap.size + 1) (sgC who leaf s (.slice A2 l.length c2)).toList G3 (by omega)
    go_wp2_with (with_reducible refine wpList_store_mid rfl 42 (.tmp 2) (.tmp 13) rfl (w.heap.size + 1) 0 (sgC who leaf s (.slice A2 l.length c2)) rfl rfl HTH.out HSI.out HON.out ?_)
    exact bodyPost_ret (results_ag1 Tryz.results68 _ _ (w.heap.size + 1) _ _ rfl z4 hur rfl kg_info) rfl ⟨A2, ⟨c2, rfl⟩, r4, G4, HLO.out⟩
set_option maxRecDepth 100000 in
set_option maxHeartbeats 2000000 in
theorem stto_ok (cm : Nat) (who at_ sw lf : Int) (s : Nat → Nat) (A : Option Addr) (c : Nat) (l : List Nat) (hl : l.length ≤ 1048576) (w : World) (hr : Rd w w.heap.size A (u64L l)) :
    Calls Tryz.prog 17 #[.agg (stC cm who at_ sw lf s (.slice A l.length c))] w fun e w' => ∃ A' c', e = .returned (.agg (stC cm who at_ sw lf s (.slice A' l.length c'))) ∧ Rd w' w'.heap.size A' (u64L l) ∧ Grew w w' ∧ (∀ ad, A' = some ad → w.heap.size ≤ ad.block) := by
  have z0 := Ag.new w 30 (stC cm who at_ sw lf s (.slice A l.length c))
  have G0 := grew_alloc (grew_refl w) (.cells (stC cm who at_ sw lf s (.slice A l.length c)) 30)
  have hus := Tryz.underlying28
  have hur := Tryz.underlying44
  have CO := Lib.hid (fun W hR => kto_fr sw lf s A c l hl W hR)
  have HSL : Hid ((Tryz.prog.info? 28).map (·.size) = some (sgC sw lf s (.slice A l.length c)).toList.length) := Lib.hid rg_info
  go_enter Tryz.func17, Tryz.ntmps17
  go_wp2_with fail
  have z2 : Ag ((w.alloc (.cells (stC cm who at_ sw lf s (.slice A l.length c)) 30)).alloc (.cells (#[.int .u64 0, .int .i64 0, .int .i64 0, .int .i64 0, .int .i64 0, .int .u64 0, .int .u64 0, .int .u64 0, .int .u64 0, .int .u64 0, .int .u64 0, .int .u64 0, .int .u64 0, .int .u64 0, .int .u64 0, .int .u64 0, .int .u64 0, .int .u64 0, .int .u64 0, .int .u64 0, .int .u64 0, .int .u64 0, .int .u64 0, .slice none 0 0]) 44)) (w.heap.size + 1) (#[.int .u64 0, .int .i64 0, .int .i64 0, .int .i64 0, .int .i64 0, .int .u64 0, .int .u64 0, .int .u64 0, .int .u64 0, .int .u64 0, .int .u64 0, .int .u64 0, .int .u64 0, .int .u64 0, .int .u64 0, .int .u64 0, .int .u64 0, .int .u64 0, .int .u64 0, .int .u64 0, .int .u64 0, .int .u64 0, .int .u64 0, .slice none 0 0] : Array Value).toList := by
    have := Ag.new (w.alloc (.cells (stC cm who at_ sw lf s (.slice A l.length c)) 30)) 44 (#[.int .u64 0, .int .i64 0, .int .i64 0, .int .i64 0, .int .i64 0, .int .u64 0, .int .u64 0, .int .u64 0, .int .u64 0, .int .u64 0, .int .u64 0, .int .u64 0, .int .u64 0, .int .u64 0, .int .u64 0, .int .u64 0, .int .u64 0, .int .u64 0, .int .u64 0, .int .u64 0, .int .u64 0, .int .u64 0, .int .u64 0, .slice none 0 0])
    simpa using this
  have z1 := z0.grew (grew_alloc (grew_refl _) (.cells (#[.int .u64 0, .int .i64 0, .int .i64 0, .int .i64 0, .int .i64 0, .int .u64 0, .int .u64 0, .int .u64 0, .int .u64 0, .int .u64 0, .int .u64 0, .int .u64 0, .int .u64 0, .int .u64 0, .int .u64 0, .int .u64 0, .int .u64 0, .int .u64 0, .int .u64 0, .int .u64 0, .int .u64 0, .int .u64 0, .int .u64 0, .slice none 0 0]) 44))
  have G2 := grew_alloc G0 (.cells (#[.int .u64 0, .int .i64 0, .int .i64 0, .int .i64 0, .int .i64 0, .int .u64 0, .int .u64 0, .int .u64 0, .int .u64 0, .int .u64 0, .int .u64 0, .int .u64 0, .int .u64 0, .int .u64 0, .int .u64 0, .int .u64 0, .int .u64 0, .int .u64 0, .int .u64 0, .int .u64 0, .int .u64 0, .int .u64 0, .int .u64 0, .slice none 0 0]) 44)
  clear z0 G0
  generalize (w.alloc (.cells (stC cm who at_ sw lf s (.slice A l.length c)) 30)).alloc (.cells (#[.int .u64 0, .int .i64 0, .int .i64 0, .int .i64 0, .int .i64 0, .int .u64 0, .int .u64 0, .int .u64 0, .int .u64 0, .int .u64 0, .int .u64 0, .int .u64 0, .int .u64 0, .int .u64 0, .int .u64 0, .int .u64 0, .int .u64 0, .int .u64 0, .int .u64 0, .int .u64 0, .int .u64 0, .int .u64 0, .int .u64 0, .slice none 0 0]) 44) = w2 at *
  have HC0 : Hid (∀ y, Grew w2 y → y.cell? ⟨w.heap.size, 0, none⟩ = some (.int .u64 (cm : Nat))) := Lib.hid (fun y g => by simpa using (z1.grew g).cell 0 _ rfl)
  have HC1 : Hid (∀ y, Grew w2 y → y.cell? ⟨w.heap.size, 1, none⟩ = some (.int .i64 who)) := Lib.hid (fun y g => by simpa using (z1.grew g).cell 1 _ rfl)
  have HC2 : Hid (∀ y, Grew w2 y → y.cell? ⟨w.heap.size, 2, none⟩ = some (.int .i64 at_)) := Lib.hid (fun y g => by simpa using (z1.grew g).cell 2 _ rfl)
  have HCM : Hid (∀ y, Grew w2 y → y.rangeAt w.heap.size 3 (sgC sw lf s (.slice A l.length c)).toList) := Lib.hid (fun y g => st_sig (z1.grew g).cell)
  have r2 := hr.gr G2
  have HRY := Lib.hid (fun y (g : Grew w2 y) => r2.gr g)
  clear z1 hr r2
  generalize sgC sw lf s (.slice A l.length c) = gs at *
  refine wp_region_rel 10 (fun i => match i with
      | 0 => fun v _ => v = .pointer (some ⟨w.heap.size, 0, none⟩)
      | 1 => fun v _ => v = .int .u64 (cm : Nat)
      | 2 => fun v _ => v = .pointer (some ⟨w.heap.size, 1, none⟩)
      | 3 => fun v _ => v = .int .i64 who
      | 4 => fun v _ => v = .pointer (some ⟨w.heap.size, 2, none⟩)
      | 5 => fun v _ => v = .int .i64 at_
      | 6 => fun v _ => v = .pointer (some ⟨w.heap.size, 3, none⟩)
      | 7 => fun v _ => v = .agg gs
      | 8 => fun v w => AgS w w2.heap.size sw lf s l v
      | 9 => fun v w => AgT w w2.heap.size cm who at_ sw lf s l v
      | _ => fun _ _ => True) (by kernel_rfl) (by kernel_rfl) ?_ ?_ ?_
  · intro i v x y h hg
    match i, h with
    | 0, h | 1, h | 2, h | 3, h | 4, h | 5, h | 6, h | 7, h => exact h
    | 8, h => exact AgS.gr h hg
    | 9, h => exact AgT.gr h hg
    | m + 10, _ => trivial
  · refine ⟨?_, ?_, ?_, ?_, ?_, ?_, ?_, ?_, ?_, ?_, trivial⟩
    · intro vs y hg hd
      simp only [actOf, List.take_succ_cons, List.take_zero, List.drop_succ_cons, List.drop_zero, Act.put, List.setIfInBounds_toArray, List.set_cons_succ, List.set_cons_zero, Nat.reduceAdd]
      go_wp2_with fail
      exact ⟨rfl, _, rfl, grew_refl _, rfl⟩
    · intro vs y hg hd
      obtain ⟨h0, _⟩ := hd
      replace h0 := h0 rfl
      simp only [actOf, List.take_succ_cons, List.take_zero, List.drop_succ_cons, List.drop_zero, Act.put, List.setIfInBounds_toArray, List.set_cons_succ, List.set_cons_zero, Nat.reduceAdd]
      rw [show vs 0 = _ from h0]
      have hc := HC0.out y hg
      go_wp2_with fail
      exact ⟨rfl, _, rfl, grew_refl _, rfl⟩
    · intro vs y hg hd
      simp only [actOf, List.take_succ_cons, List.take_zero, List.drop_succ_cons, List.drop_zero, Act.put, List.setIfInBounds_toArray, List.set_cons_succ, List.set_cons_zero, Nat.reduceAdd]
      go_wp2_with fail
      exact ⟨rfl, _, rfl, grew_refl _, rfl⟩
    · intro vs y hg hd
      obtain ⟨h2, _⟩ := hd
      replace h2 := h2 rfl
      simp only [actOf, List.take_succ_cons, List.take_zero, List.drop_succ_cons, List.drop_zero, Act.put, List.setIfInBounds_toArray, List.set_cons_succ, List.set_cons_zero, Nat.reduceAdd]
      rw [show vs 2 = _ from h2]
      have hc := HC1.out y hg
      go_wp2_with fail
      exact ⟨rfl, _, rfl, grew_refl _, rfl⟩
    · intro vs y hg hd
      simp only [actOf, List.take_succ_cons, List.take_zero, List.drop_succ_cons, List.drop_zero, Act.put, List.setIfInBounds_toArray, List.set_cons_succ, List.set_cons_zero, Nat.reduceAdd]
      go_wp2_with fail
      exact ⟨rfl, _, rfl, grew_refl _, rfl⟩
    · intro vs y hg hd
      obtain ⟨h4, _⟩ := hd
      replace h4 := h4 rfl
      simp only [actOf, List.take_succ_cons, List.take_zero, List.drop_succ_cons, List.drop_zero, Act.put, List.setIfInBounds_toArray, List.set_cons_succ, List.set_cons_zero, Nat.reduceAdd]
      rw [show vs 4 = _ from h4]
      have hc := HC2.out y hg
      go_wp2_with fail
      exact ⟨rfl, _, rfl, grew_refl _, rfl⟩
    · intro vs y hg hd
      simp only [actOf, List.take_succ_cons, List.take_zero, List.drop_succ_cons, List.drop_zero, Act.put, List.setIfInBounds_toArray, List.set_cons_succ, List.set_cons_zero, Nat.reduceAdd]
      go_wp2_with fail
      exact ⟨rfl, _, rfl, grew_refl _, rfl⟩
    · intro vs y hg hd
      obtain ⟨h6, _⟩ := hd
      replace h6 := h6 rfl
      simp only [actOf, List.take_succ_cons, List.take_zero, List.drop_succ_cons, List.drop_zero, Act.put, List.setIfInBounds_toArray, List.set_cons_succ, List.set_cons_zero, Nat.reduceAdd]
      rw [show vs 6 = _ from h6]
      have hm := HCM.out y hg
      go_wp2_with (with_reducible refine wpList_load_mid rfl 28 (.tmp 9) rfl w.heap.size 3 rfl gs.toList _ hm hus rfl HSL.out ?_; simp only [Array.toArray_toList])
      exact ⟨rfl, _, rfl, grew_refl _, rfl⟩
    · intro vs y hg hd
      obtain ⟨h7, _⟩ := hd
      replace h7 := h7 rfl
      simp only [actOf, List.take_succ_cons, List.take_zero, List.drop_succ_cons, List.drop_zero, Act.put, List.setIfInBounds_toArray, List.set_cons_succ, List.set_cons_zero, Nat.reduceAdd]
      rw [show vs 7 = _ from h7]
      go_wp2_with (go_at_call 68; refine (CO.out y (HRY.out y hg)).mono ?_; rintro e z ⟨A2, c2, rfl, hr2, gz, hb2⟩)
      exact ⟨rfl, _, rfl, gz, ⟨A2, c2, rfl, hr2, fun ad h => by have := hb2 ad h; have := hg.size; omega⟩⟩
    · intro vs y hg hd
      obtain ⟨h1, h3, h5, h8, _⟩ := hd
      replace h1 := h1 rfl
      replace h3 := h3 rfl
      replace h5 := h5 rfl
      replace h8 := h8 rfl
      simp only [actOf, List.take_succ_cons, List.take_zero, List.drop_succ_cons, List.drop_zero, Act.put, List.setIfInBounds_toArray, List.set_cons_succ, List.set_cons_zero, Nat.reduceAdd]
      rw [show vs 1 = _ from h1, show vs 3 = _ from h3, show vs 5 = _ from h5]
      obtain ⟨A2, c2, hv, hr2, hb2⟩ := AgS.out h8
      rw [hv]
      have HBU := Lib.hid (st_built cm who at_ sw lf s A2 l.length c2)
      go_wp2_with (with_reducible refine wpList_build_is rfl 44 #[(0, .tmp 4), (1, .tmp 6), (2, .tmp 8), (3, .tmp 11)] rfl (stC cm who at_ sw lf s (.slice A2 l.length c2)) ?_ ?_; · simpa [Act.eval, Act.put] using HBU.out)
      exact ⟨rfl, _, rfl, grew_refl _, ⟨A2, c2, rfl, hr2, hb2⟩⟩
  · intro vs y hg hJ
    have j0 : vs 0 = .pointer (some ⟨w.heap.size, 0, none⟩) := hJ 0 (by decide)
    have j1 : vs 1 = .int .u64 (cm : Nat) := hJ 1 (by decide)
    have j2 : vs 2 = .pointer (some ⟨w.heap.size, 1, none⟩) := hJ 2 (by decide)
    have j3 : vs 3 = .int .i64 who := hJ 3 (by decide)
    have j4 : vs 4 = .pointer (some ⟨w.heap.size, 2, none⟩) := hJ 4 (by decide)
    have j5 : vs 5 = .int .i64 at_ := hJ 5 (by decide)
    have j6 : vs 6 = .pointer (some ⟨w.heap.size, 3, none⟩) := hJ 6 (by decide)
    have j7 : vs 7 = .agg gs := hJ 7 (by decide)
    have s11 := hJ 8 (by decide)
    have s12 := hJ 9 (by decide)
    clear hJ
    simp only [actOf, List.take_succ_cons, List.take_zero, List.drop_succ_cons, List.drop_zero, Act.put, List.setIfInBounds_toArray, List.set_cons_succ, List.set_cons_zero, Nat.reduceAdd]
    obtain ⟨A2, c2, j9, r3, hb3⟩ := AgT.out s12
    rw [j9]
    clear s11 s12 j9
    have hz1 := z2.lt
    have hz2 := G2.size
    have HNE : Hid (∀ ad, A2 = some ad → ad.block ≠ w.heap.size + 1) := Lib.hid (fun ad h => by have := hb3 ad h; omega)
    have HLO : Hid (∀ ad, A2 = some ad → w.heap.size ≤ ad.block) := Lib.hid (fun ad h => by have := hb3 ad h; omega)
    have z3 := z2.grew hg
    have G3 := grew_trans G2 hg
    clear z2 G2 hg hb3 hz1 hz2
    have HTH : Hid (y.there (w.heap.size + 1) 0 (stC cm who at_ sw lf s (.slice A2 l.length c2)).size) := Lib.hid (z3.thereN 24 rfl)
    have HSI : Hid ((Tryz.prog.info? 44).map (·.size) = some (stC cm who at_ sw lf s (.slice A2 l.length c2)).size) := Lib.hid st_info
    have HON := Lib.hid (stC_one cm who at_ sw lf s A2 l.length c2)
    have K3 := setCells_kp (stC cm who at_ sw lf s (.slice A2 l.length c2)).toList (w.heap.size + 1) 0 y
    have r4 := (r3.kp K3 (Nat.le_refl _) (fun ad h1 h2 h3 => HNE.out ad h1 h3)).more K3.size
    have z4 := Ag.set (vs := (stC cm who at_ sw lf s (.slice A2 l.length c2)).toList) z3 rfl
    have G4 := setCells_grew (o := 0) (b := w.heap.size + 1) (stC cm who at_ sw lf s (.slice A2 l.length c2)).toList G3 (by omega)
    go_wp2_with (with_reducible refine wpList_store_mid rfl 44 (.tmp 2) (.tmp 12) rfl (w.heap.size + 1) 0 (stC cm who at_ sw lf s (.slice A2 l.length c2)) rfl rfl HTH.out HSI.out HON.out ?_)
    exact bodyPost_ret (results_ag1 Tryz.results17 _ _ (w.heap.size + 1) _ _ rfl z4 hur rfl st_info) rfl ⟨A2, ⟨c2, rfl⟩, r4, G4, HLO.out⟩
end Go.Proofs.YtaeopobofmpioaaGreatDoor

namespace Go.Proofs.YtaeopobofmpioaaGreatDoor
set_option linter.unusedSimpArgs false
set_option linter.unusedVariables false
open Go.RowKit
set_option linter.unusedVariables false
set_option linter.unusedSimpArgs false
theorem cf_built (f : Int) : Tryz.prog.built 33 [(0, .int .i64 f)] = some #[.int .i64 f] := by kernel_rfl
theorem ky_built (f h : Int) (A : Option Addr) (n c : Nat) : Tryz.prog.built 36 [(0, .agg #[.int .i64 f]), (1, .slice A n c), (2, .int .i64 h)] = some (kyS f A n c h) := by kernel_rfl
theorem ky_info : (Tryz.prog.info? 36).map (·.size) = some 3 := by kernel_rfl
set_option maxRecDepth 100000 in
set_option maxHeartbeats 1000000 in
theorem tokeys_ok (f : Int) (R : List Nat) (RA : Option Addr) (Rc : Nat) (h : Int) (hl : R.length ≤ 1048576) (w : World) (hr : Rd w w.heap.size RA (u64L R)) :
    Calls Tryz.prog 16 #[.agg (kyS f RA R.length Rc h)] w fun e w' => ∃ A' c', e = .returned (.agg (kyS f A' R.length c' h)) ∧ Rd w' w'.heap.size A' (u64L R) ∧ Grew w w' ∧ (∀ ad, A' = some ad → w.heap.size ≤ ad.block) := by
  have z0 := Ag.new w 24 (kyS f RA R.length Rc h)
  have G0 := grew_alloc (grew_refl w) (.cells (kyS f RA R.length Rc h) 24)
  have hur := Tryz.underlying36
  have CO := Lib.hid (fun W hR => mkto_any RA Rc _ R hl W hR (Nat.le_refl _))
  go_enter Tryz.func16, Tryz.ntmps16
  go_wp2_with fail
  have z2 : Ag ((w.alloc (.cells (kyS f RA R.length Rc h) 24)).alloc (.cells (#[.int .i64 0, .slice none 0 0, .int .i64 0]) 36)) (w.heap.size + 1) (#[.int .i64 0, .slice none 0 0, .int .i64 0] : Array Value).toList := by
    have := Ag.new (w.alloc (.cells (kyS f RA R.length Rc h) 24)) 36 (#[.int .i64 0, .slice none 0 0, .int .i64 0])
    simpa using this
  have z1 := z0.grew (grew_alloc (grew_refl _) (.cells (#[.int .i64 0, .slice none 0 0, .int .i64 0]) 36))
  have G2 := grew_alloc G0 (.cells (#[.int .i64 0, .slice none 0 0, .int .i64 0]) 36)
  clear z0 G0
  generalize (w.alloc (.cells (kyS f RA R.length Rc h) 24)).alloc (.cells (#[.int .i64 0, .slice none 0 0, .int .i64 0]) 36) = w2 at *
  have HC0 : Hid (∀ y, Grew w2 y → y.cell? ⟨w.heap.size, 0, none⟩ = some (.int .i64 f)) := Lib.hid (fun y g => by simpa using (z1.grew g).cell 0 _ rfl)
  have HC1 : Hid (∀ y, Grew w2 y → y.cell? ⟨w.heap.size, 1, none⟩ = some (.slice RA R.length Rc)) := Lib.hid (fun y g => by simpa using (z1.grew g).cell 1 _ rfl)
  have HC2 : Hid (∀ y, Grew w2 y → y.cell? ⟨w.heap.size, 2, none⟩ = some (.int .i64 h)) := Lib.hid (fun y g => by simpa using (z1.grew g).cell 2 _ rfl)
  have r2 := hr.gr G2
  have HRY := Lib.hid (fun y (g : Grew w2 y) => r2.gr g)
  clear z1 hr r2
  refine wp_region_rel 9 (fun i => match i with
      | 0 => fun v _ => v = .pointer (some ⟨w.heap.size, 0, none⟩)
      | 1 => fun v _ => v = .int .i64 f
      | 2 => fun v _ => v = .agg #[.int .i64 f]
      | 3 => fun v _ => v = .pointer (some ⟨w.heap.size, 1, none⟩)
      | 4 => fun v _ => v = .slice RA R.length Rc
      | 5 => fun v w => PV w w2.heap.size R v
      | 6 => fun v _ => v = .pointer (some ⟨w.heap.size, 2, none⟩)
      | 7 => fun v _ => v = .int .i64 h
      | 8 => fun v w => KV w w2.heap.size f R h v
      | _ => fun _ _ => True) (by kernel_rfl) (by kernel_rfl) ?_ ?_ ?_
  · intro i v x y h hg
    match i, h with
    | 0, h | 1, h | 2, h | 3, h | 4, h | 6, h | 7, h => exact h
    | 5, h => exact PV.gr h hg
    | 8, h => exact KV.gr h hg
    | m + 9, _ => trivial
  · refine ⟨?_, ?_, ?_, ?_, ?_, ?_, ?_, ?_, ?_, trivial⟩
    · intro vs y hg hd
      simp only [actOf, List.take_succ_cons, List.take_zero, List.drop_succ_cons, List.drop_zero, Act.put, List.setIfInBounds_toArray, List.set_cons_succ, List.set_cons_zero, Nat.reduceAdd]
      go_wp2_with fail
      exact ⟨rfl, _, rfl, grew_refl _, rfl⟩
    · intro vs y hg hd
      obtain ⟨h0, _⟩ := hd
      replace h0 := h0 rfl
      simp only [actOf, List.take_succ_cons, List.take_zero, List.drop_succ_cons, List.drop_zero, Act.put, List.setIfInBounds_toArray, List.set_cons_succ, List.set_cons_zero, Nat.reduceAdd]
      rw [show vs 0 = _ from h0]
      have hc := HC0.out y hg
      go_wp2_with fail
      exact ⟨rfl, _, rfl, grew_refl _, rfl⟩
    · intro vs y hg hd
      obtain ⟨h1, _⟩ := hd
      replace h1 := h1 rfl
      simp only [actOf, List.take_succ_cons, List.take_zero, List.drop_succ_cons, List.drop_zero, Act.put, List.setIfInBounds_toArray, List.set_cons_succ, List.set_cons_zero, Nat.reduceAdd]
      rw [show vs 1 = _ from h1]
      have HBF := Lib.hid (cf_built f)
      go_wp2_with (with_reducible refine wpList_build_is rfl 33 #[(0, .tmp 4)] rfl #[.int .i64 f] ?_ ?_; · simpa [Act.eval, Act.put] using HBF.out)
      exact ⟨rfl, _, rfl, grew_refl _, rfl⟩
    · intro vs y hg hd
      simp only [actOf, List.take_succ_cons, List.take_zero, List.drop_succ_cons, List.drop_zero, Act.put, List.setIfInBounds_toArray, List.set_cons_succ, List.set_cons_zero, Nat.reduceAdd]
      go_wp2_with fail
      exact ⟨rfl, _, rfl, grew_refl _, rfl⟩
    · intro vs y hg hd
      obtain ⟨h3, _⟩ := hd
      replace h3 := h3 rfl
      simp only [actOf, List.take_succ_cons, List.take_zero, List.drop_succ_cons, List.drop_zero, Act.put, List.setIfInBounds_toArray, List.set_cons_succ, List.set_cons_zero, Nat.reduceAdd]
      rw [show vs 3 = _ from h3]
      have hc := HC1.out y hg
      go_wp2_with fail
      exact ⟨rfl, _, rfl, grew_refl _, rfl⟩
    · intro vs y hg hd
      obtain ⟨h4, _⟩ := hd
      replace h4 := h4 rfl
      simp only [actOf, List.take_succ_cons, List.take_zero, List.drop_succ_cons, List.drop_zero, Act.put, List.setIfInBounds_toArray, List.set_cons_succ, List.set_cons_zero, Nat.reduceAdd]
      rw [show vs 4 = _ from h4]
      go_wp2_with (go_at_call 67; refine (CO.out y (HRY.out y hg)).mono ?_; rintro e z ⟨A2, c2, rfl, hr2, hb2, gz⟩)
      exact ⟨rfl, _, rfl, gz, ⟨A2, c2, rfl, hr2, fun ad h => by have := hb2 ad h; have := hg.size; omega⟩⟩
    · intro vs y hg hd
      simp only [actOf, List.take_succ_cons, List.take_zero, List.drop_succ_cons, List.drop_zero, Act.put, List.setIfInBounds_toArray, List.set_cons_succ, List.set_cons_zero, Nat.reduceAdd]
      go_wp2_with fail
      exact ⟨rfl, _, rfl, grew_refl _, rfl⟩
    · intro vs y hg hd
      obtain ⟨h6, _⟩ := hd
      replace h6 := h6 rfl
      simp only [actOf, List.take_succ_cons, List.take_zero, List.drop_succ_cons, List.drop_zero, Act.put, List.setIfInBounds_toArray, List.set_cons_succ, List.set_cons_zero, Nat.reduceAdd]
      rw [show vs 6 = _ from h6]
      have hc := HC2.out y hg
      go_wp2_with fail
      exact ⟨rfl, _, rfl, grew_refl _, rfl⟩
    · intro vs y hg hd
      obtain ⟨h2, h5, h7, _⟩ := hd
      replace h2 := h2 rfl
      replace h5 := h5 rfl
      replace h7 := h7 rfl
      simp only [actOf, List.take_succ_cons, List.take_zero, List.drop_succ_cons, List.drop_zero, Act.put, List.setIfInBounds_toArray, List.set_cons_succ, List.set_cons_zero, Nat.reduceAdd]
      rw [show vs 2 = _ from h2, show vs 7 = _ from h7]
      obtain ⟨A2, c2, hv, hr2, hb2⟩ := PV.out h5
      rw [hv]
      have HBU := Lib.hid (ky_built f h A2 R.length c2)
      go_wp2_with (with_reducible refine wpList_build_is rfl 36 #[(0, .tmp 5), (1, .tmp 8), (2, .tmp 10)] rfl (kyS f A2 R.length c2 h) ?_ ?_; · simpa [Act.eval, Act.put] using HBU.out)
      exact ⟨rfl, _, rfl, grew_refl _, ⟨A2, c2, rfl, hr2, hb2⟩⟩
  · intro vs y hg hJ
    have j0 : vs 0 = .pointer (some ⟨w.heap.size, 0, none⟩) := hJ 0 (by decide)
    have j1 : vs 1 = .int .i64 f := hJ 1 (by decide)
    have j2 : vs 2 = .agg #[.int .i64 f] := hJ 2 (by decide)
    have j3 : vs 3 = .pointer (some ⟨w.heap.size, 1, none⟩) := hJ 3 (by decide)
    have j4 : vs 4 = .slice RA R.length Rc := hJ 4 (by decide)
    have j6 : vs 6 = .pointer (some ⟨w.heap.size, 2, none⟩) := hJ 6 (by decide)
    have j7 : vs 7 = .int .i64 h := hJ 7 (by decide)
    have s8 := hJ 5 (by decide)
    have s11 := hJ 8 (by decide)
    clear hJ
    simp only [actOf, List.take_succ_cons, List.take_zero, List.drop_succ_cons, List.drop_zero, Act.put, List.setIfInBounds_toArray, List.set_cons_succ, List.set_cons_zero, Nat.reduceAdd]
    obtain ⟨A2, c2, j9, r3, hb3⟩ := KV.out s11
    rw [j9]
    clear s8 s11 j9
    have hz1 := z2.lt
    have hz2 := G2.size
    have HNE : Hid (∀ ad, A2 = some ad → ad.block ≠ w.heap.size + 1) := Lib.hid (fun ad h => by have := hb3 ad h; omega)
    have HLO : Hid (∀ ad, A2 = some ad → w.heap.size ≤ ad.block) := Lib.hid (fun ad h => by have := hb3 ad h; omega)
    have z3 := z2.grew hg
    have G3 := grew_trans G2 hg
    clear z2 G2 hg hb3 hz1 hz2
    have HTH : Hid (y.there (w.heap.size + 1) 0 (kyS f A2 R.length c2 h).size) := Lib.hid (z3.thereN 3 rfl)
    have HSI : Hid ((Tryz.prog.info? 36).map (·.size) = some (kyS f A2 R.length c2 h).size) := Lib.hid ky_info
    have HON := Lib.hid (kyS_one f h A2 R.length c2)
    have K3 := setCells_kp (kyS f A2 R.length c2 h).toList (w.heap.size + 1) 0 y
    have r4 := (r3.kp K3 (Nat.le_refl _) (fun ad h1 h2 h3 => HNE.out ad h1 h3)).more K3.size
    have z4 := Ag.set (vs := (kyS f A2 R.length c2 h).toList) z3 rfl
    have G4 := setCells_grew (o := 0) (b := w.heap.size + 1) (kyS f A2 R.length c2 h).toList G3 (by omega)
    go_wp2_with (with_reducible refine wpList_store_mid rfl 36 (.tmp 2) (.tmp 11) rfl (w.heap.size + 1) 0 (kyS f A2 R.length c2 h) rfl rfl HTH.out HSI.out HON.out ?_)
    exact bodyPost_ret (results_ag1 Tryz.results16 _ _ (w.heap.size + 1) _ _ rfl z4 hur rfl ky_info) rfl ⟨A2, ⟨c2, rfl⟩, r4, G4, HLO.out⟩
set_option maxRecDepth 100000 in
set_option maxHeartbeats 1000000 in
theorem rstkeys_ok (f : Int) (R : List Nat) (RA : Option Addr) (Rc : Nat) (h : Int) (hRl : R.length ≤ 1000) (w : World) :
    Calls Tryz.prog 18 #[.agg (kyS f RA R.length Rc h)] w fun e w' => e = .returned (.int .i64 (cyE f R.length h)) ∧ Grew w w' := by
  have CC := Lib.hid (fun W => rcheck_ok f W)
  have zk := Ag.new w 24 (kyS f RA R.length Rc h)
  have G1 := grew_alloc (grew_refl w) (.cells (kyS f RA R.length Rc h) 24)
  have hm0 : (w.alloc (.cells (kyS f RA R.length Rc h) 24)).cell? ⟨w.heap.size, 0, none⟩ = some (.int .i64 f) := by simpa using zk.cell 0 _ rfl
  by_cases hbad : f < 1 ∨ 3 < f
  · have HE : Hid (cyE f R.length h = 1) := Lib.hid (by unfold cyE; rw [if_pos hbad])
    rw [if_pos hbad] at CC
    clear hbad zk
    go_enter Tryz.func18, Tryz.ntmps18
    go_wp2_with fail
    refine (CC.out _).mono ?_
    rintro e w2 ⟨rfl, rfl⟩
    go_wp2_with fail
    go_ret
    exact ⟨by rw [HE.out]; rfl, G1⟩
  rw [if_neg hbad] at CC
  have CN : Hid (∀ W, Calls Tryz.prog 70 #[.int .i64 f] W fun e w' => e = .returned (.int .i64 (3 * f + 1)) ∧ Grew W w') := Lib.hid (fun W => (rn_ok f (by omega) W).mono (by rintro e z ⟨rfl, rfl⟩; exact ⟨rfl, grew_refl _⟩))
  have hf : 1 ≤ f ∧ f ≤ 3 := by omega
  go_enter Tryz.func18, Tryz.ntmps18
  go_wp2_with fail
  refine (CC.out _).mono ?_
  rintro e w1 ⟨rfl, hw1⟩
  rw [← hw1] at zk G1
  clear hm0 CC hw1
  go_wp2_with fail
  have HD : Hid (cyE f R.length h = if (R.length : Int) = 3 * f + 1 ∧ 0 ≤ h ∧ h ≤ 8 then 0 else 1) := Lib.hid (by unfold cyE; rw [if_neg hbad])
  have m0 : ∀ y : Gr w1, y.val.cell? ⟨w.heap.size, 0, none⟩ = some (.int .i64 f) := fun y => by simpa using (zk.gr y).cell 0 _ rfl
  have m1 : ∀ y : Gr w1, y.val.cell? ⟨w.heap.size, 1, none⟩ = some (.slice RA R.length Rc) := fun y => by simpa using (zk.gr y).cell 1 _ rfl
  have m2 : ∀ y : Gr w1, y.val.cell? ⟨w.heap.size, 2, none⟩ = some (.int .i64 h) := fun y => by simpa using (zk.gr y).cell 2 _ rfl
  obtain ⟨nn, hnn⟩ : ∃ nn, 3 * f + 1 = nn := ⟨_, rfl⟩
  rw [hnn] at CN HD
  clear hnn hbad hf zk
  by_cases hA : (R.length : Int) = nn
  · have e1 : ((R.length : Int) != nn) = false := by simp [hA]
    by_cases hB : h < 0
    · have HE : Hid (cyE f R.length h = 1) := Lib.hid (by rw [HD.out, if_neg (by omega)])
      clear hA HD
      refine wp_region_grew (grew_refl w1) (by kernel_rfl) (by kernel_rfl) ?_
      repeat (go_big_quiet_step (first | (go_at_call 70; exact callG (CN.out _))))
      refine wpQuiet_nil ?_
      rintro w8 ⟨⟨w8', g8⟩, rfl⟩
      have G8 := grew_trans G1 g8
      go_wp2_with fail
      go_ret
      exact ⟨by rw [HE.out]; rfl, G8⟩
    by_cases hC : 8 < h
    · have HE : Hid (cyE f R.length h = 1) := Lib.hid (by rw [HD.out, if_neg (by omega)])
      clear hA HD
      refine wp_region_grew (grew_refl w1) (by kernel_rfl) (by kernel_rfl) ?_
      repeat (go_big_quiet_step (first | (go_at_call 70; exact callG (CN.out _))))
      refine wpQuiet_nil ?_
      rintro w8 ⟨⟨w8', g8⟩, rfl⟩
      have G8 := grew_trans G1 g8
      go_wp2_with fail
      go_ret
      exact ⟨by rw [HE.out]; rfl, G8⟩
    have HE : Hid (cyE f R.length h = 0) := Lib.hid (by rw [HD.out, if_pos ⟨hA, by omega, by omega⟩])
    clear hA HD
    refine wp_region_grew (grew_refl w1) (by kernel_rfl) (by kernel_rfl) ?_
    repeat (go_big_quiet_step (first | (go_at_call 70; exact callG (CN.out _))))
    refine wpQuiet_nil ?_
    rintro w8 ⟨⟨w8', g8⟩, rfl⟩
    have G8 := grew_trans G1 g8
    go_wp2_with fail
    go_ret
    exact ⟨by rw [HE.out]; rfl, G8⟩
  · have e1 : ((R.length : Int) != nn) = true := by simp [hA]
    have HE : Hid (cyE f R.length h = 1) := Lib.hid (by rw [HD.out, if_neg (fun h => hA h.1)])
    clear hA HD
    refine wp_region_grew (grew_refl w1) (by kernel_rfl) (by kernel_rfl) ?_
    repeat (go_big_quiet_step (first | (go_at_call 70; exact callG (CN.out _))))
    refine wpQuiet_nil ?_
    rintro w8 ⟨⟨w8', g8⟩, rfl⟩
    have G8 := grew_trans G1 g8
    go_wp2_with fail
    go_ret
    exact ⟨by rw [HE.out]; rfl, G8⟩
set_option maxRecDepth 100000 in
set_option maxHeartbeats 2000000 in
theorem rsttext_ok (cm : Nat) (who at_ sw lf : Int) (s : Nat → Nat) (A : Option Addr) (c : Nat) (l : List Nat) (hc : cm < 18446744073709551616) (hw : in64 who) (ha : in64 at_) (hsw : in64 sw) (hlf : in64 lf) (hl : l.length ≤ 1000) (hs : ∀ k, k < 18 → s k < 18446744073709551616) (hb : ∀ n ∈ l, n < 18446744073709551616) (w : World) (hr : Rd w w.heap.size A (u64L l)) :
    Calls Tryz.prog 25 #[.agg (stC cm who at_ sw lf s (.slice A l.length c))] w fun e w' => e = .returned (.string ⟨(stT cm who at_ sw lf s l).toArray⟩) ∧ Grew w w' := by
  have z0 := Ag.new w 30 (stC cm who at_ sw lf s (.slice A l.length c))
  have g0 := grew_alloc (grew_refl w) (.cells (stC cm who at_ sw lf s (.slice A l.length c)) 30)
  have hus := Tryz.underlying28
  have HSI : Hid ((Tryz.prog.info? 28).map (·.size) = some (sgC sw lf s (.slice A l.length c)).toList.length) := Lib.hid rg_info
  have hlen := stT_len cm who at_ sw lf s l hw ha hsw hlf hl
  have c0 := fun W => hexr_any (cm : Nat) ⟨by omega, by omega⟩ W
  simp only [Int.toNat_natCast] at c0
  have C0 := Lib.hid c0
  clear c0
  have C1 := Lib.hid (fun W => rnum_ok who hw.1 hw.2 W)
  have C2 := Lib.hid (fun W => rnum_ok at_ ha.1 ha.2 W)
  have C3 := Lib.hid (fun W h1 => rsigtext_ok sw lf s A c l hsw hlf hl hs hb W h1)
  have CJ : Hid (∀ (A4 : Option Addr) (W : World), Rd W W.heap.size A4 (strL [⟨(hexL cm).toArray⟩, ⟨(Lib.itoa who).toArray⟩, ⟨(Lib.itoa at_).toArray⟩, ⟨(sgT sw lf s l).toArray⟩]) → Calls Tryz.prog 75 #[.slice A4 4 4] W fun e w' => e = .returned (.string ⟨(stT cm who at_ sw lf s l).toArray⟩) ∧ Grew W w') := Lib.hid (fun A4 W hR => by
    have := rjoin_ok A4 4 [⟨(hexL cm).toArray⟩, ⟨(Lib.itoa who).toArray⟩, ⟨(Lib.itoa at_).toArray⟩, ⟨(sgT sw lf s l).toArray⟩] (by simp) (by simp only [stT] at hlen; simp [bys] at hlen ⊢; omega) W hR
    simpa [bys, stT] using this)
  have HR := Lib.hid hr
  clear hc hw ha hlen hsw hlf hl hs hb hr
  generalize (⟨(stT cm who at_ sw lf s l).toArray⟩ : ByteArray) = tj at *
  generalize (⟨(hexL cm).toArray⟩ : ByteArray) = t0 at *
  generalize (⟨(Lib.itoa who).toArray⟩ : ByteArray) = t1 at *
  generalize (⟨(Lib.itoa at_).toArray⟩ : ByteArray) = t2 at *
  generalize (⟨(sgT sw lf s l).toArray⟩ : ByteArray) = t3 at *
  go_enter Tryz.func25, Tryz.ntmps25
  go_wp2_with fail
  generalize w.alloc (.cells (stC cm who at_ sw lf s (.slice A l.length c)) 30) = w1 at *
  have z1 := z0
  have G0 := Lib.hid g0
  have HRR := Lib.hid (fun y (g : Grew w1 y) => (HR.out.gr G0.out).gr g)
  have HC0 : Hid (∀ y, Grew w1 y → y.cell? ⟨w.heap.size, 0, none⟩ = some (.int .u64 (cm : Nat))) := Lib.hid (fun y g => by simpa using (z1.grew g).cell 0 _ rfl)
  have HC1 : Hid (∀ y, Grew w1 y → y.cell? ⟨w.heap.size, 1, none⟩ = some (.int .i64 who)) := Lib.hid (fun y g => by simpa using (z1.grew g).cell 1 _ rfl)
  have HC2 : Hid (∀ y, Grew w1 y → y.cell? ⟨w.heap.size, 2, none⟩ = some (.int .i64 at_)) := Lib.hid (fun y g => by simpa using (z1.grew g).cell 2 _ rfl)
  have HCM : Hid (∀ y, Grew w1 y → y.rangeAt w.heap.size 3 (sgC sw lf s (.slice A l.length c)).toList) := Lib.hid (fun y g => st_sig (z1.grew g).cell)
  clear z0 z1 g0
  refine wp_region_rel 14 (fun i => match i with
      | 0 => fun v _ => v = .pointer (some ⟨w.heap.size, 0, none⟩)
      | 1 => fun v _ => v = .int .u64 (cm : Nat)
      | 2 => fun v _ => v = .string t0
      | 3 => fun v _ => v = .pointer (some ⟨w.heap.size, 1, none⟩)
      | 4 => fun v _ => v = .int .i64 who
      | 5 => fun v _ => v = .string t1
      | 6 => fun v _ => v = .pointer (some ⟨w.heap.size, 2, none⟩)
      | 7 => fun v _ => v = .int .i64 at_
      | 8 => fun v _ => v = .string t2
      | 9 => fun v _ => v = .pointer (some ⟨w.heap.size, 3, none⟩)
      | 10 => fun v _ => v = .agg (sgC sw lf s (.slice A l.length c))
      | 11 => fun v _ => v = .string t3
      | 12 => fun v w => FourS w [t0, t1, t2, t3] v
      | 13 => fun v _ => v = .string tj
      | _ => fun _ _ => True) (by kernel_rfl) (by kernel_rfl) ?_ ?_ ?_
  · intro i v x y h hg
    match i, h with
    | 0, h | 1, h | 2, h | 3, h | 4, h | 5, h | 6, h | 7, h | 8, h | 9, h | 10, h | 11, h | 13, h => exact h
    | 12, h => exact FourS.gr h hg
    | m + 14, _ => trivial
  · refine ⟨?_, ?_, ?_, ?_, ?_, ?_, ?_, ?_, ?_, ?_, ?_, ?_, ?_, ?_, trivial⟩
    · intro vs y hg hd
      simp only [actOf, List.take_succ_cons, List.take_zero, List.drop_succ_cons, List.drop_zero, Act.put, List.setIfInBounds_toArray, List.set_cons_succ, List.set_cons_zero, Nat.reduceAdd]
      go_wp2_with fail
      exact ⟨rfl, _, rfl, grew_refl _, rfl⟩
    · intro vs y hg hd
      obtain ⟨h0, _⟩ := hd
      replace h0 := h0 rfl
      simp only [actOf, List.take_succ_cons, List.take_zero, List.drop_succ_cons, List.drop_zero, Act.put, List.setIfInBounds_toArray, List.set_cons_succ, List.set_cons_zero, Nat.reduceAdd]
      rw [show vs 0 = _ from h0]
      have hc := HC0.out y hg
      go_wp2_with fail
      exact ⟨rfl, _, rfl, grew_refl _, rfl⟩
    · intro vs y hg hd
      obtain ⟨h1, _⟩ := hd
      replace h1 := h1 rfl
      simp only [actOf, List.take_succ_cons, List.take_zero, List.drop_succ_cons, List.drop_zero, Act.put, List.setIfInBounds_toArray, List.set_cons_succ, List.set_cons_zero, Nat.reduceAdd]
      rw [show vs 1 = _ from h1]
      go_wp2_with (go_at_call 76; refine (C0.out y).mono ?_; rintro e z ⟨rfl, gz⟩)
      exact ⟨rfl, _, rfl, gz, rfl⟩
    · intro vs y hg hd
      simp only [actOf, List.take_succ_cons, List.take_zero, List.drop_succ_cons, List.drop_zero, Act.put, List.setIfInBounds_toArray, List.set_cons_succ, List.set_cons_zero, Nat.reduceAdd]
      go_wp2_with fail
      exact ⟨rfl, _, rfl, grew_refl _, rfl⟩
    · intro vs y hg hd
      obtain ⟨h3, _⟩ := hd
      replace h3 := h3 rfl
      simp only [actOf, List.take_succ_cons, List.take_zero, List.drop_succ_cons, List.drop_zero, Act.put, List.setIfInBounds_toArray, List.set_cons_succ, List.set_cons_zero, Nat.reduceAdd]
      rw [show vs 3 = _ from h3]
      have hc := HC1.out y hg
      go_wp2_with fail
      exact ⟨rfl, _, rfl, grew_refl _, rfl⟩
    · intro vs y hg hd
      obtain ⟨h4, _⟩ := hd
      replace h4 := h4 rfl
      simp only [actOf, List.take_succ_cons, List.take_zero, List.drop_succ_cons, List.drop_zero, Act.put, List.setIfInBounds_toArray, List.set_cons_succ, List.set_cons_zero, Nat.reduceAdd]
      rw [show vs 4 = _ from h4]
      go_wp2_with (go_at_call 77; refine (C1.out y).mono ?_; rintro e z ⟨rfl, gz⟩)
      exact ⟨rfl, _, rfl, gz, rfl⟩
    · intro vs y hg hd
      simp only [actOf, List.take_succ_cons, List.take_zero, List.drop_succ_cons, List.drop_zero, Act.put, List.setIfInBounds_toArray, List.set_cons_succ, List.set_cons_zero, Nat.reduceAdd]
      go_wp2_with fail
      exact ⟨rfl, _, rfl, grew_refl _, rfl⟩
    · intro vs y hg hd
      obtain ⟨h6, _⟩ := hd
      replace h6 := h6 rfl
      simp only [actOf, List.take_succ_cons, List.take_zero, List.drop_succ_cons, List.drop_zero, Act.put, List.setIfInBounds_toArray, List.set_cons_succ, List.set_cons_zero, Nat.reduceAdd]
      rw [show vs 6 = _ from h6]
      have hc := HC2.out y hg
      go_wp2_with fail
      exact ⟨rfl, _, rfl, grew_refl _, rfl⟩
    · intro vs y hg hd
      obtain ⟨h7, _⟩ := hd
      replace h7 := h7 rfl
      simp only [actOf, List.take_succ_cons, List.take_zero, List.drop_succ_cons, List.drop_zero, Act.put, List.setIfInBounds_toArray, List.set_cons_succ, List.set_cons_zero, Nat.reduceAdd]
      rw [show vs 7 = _ from h7]
      go_wp2_with (go_at_call 77; refine (C2.out y).mono ?_; rintro e z ⟨rfl, gz⟩)
      exact ⟨rfl, _, rfl, gz, rfl⟩
    · intro vs y hg hd
      simp only [actOf, List.take_succ_cons, List.take_zero, List.drop_succ_cons, List.drop_zero, Act.put, List.setIfInBounds_toArray, List.set_cons_succ, List.set_cons_zero, Nat.reduceAdd]
      go_wp2_with fail
      exact ⟨rfl, _, rfl, grew_refl _, rfl⟩
    · intro vs y hg hd
      obtain ⟨h9, _⟩ := hd
      replace h9 := h9 rfl
      simp only [actOf, List.take_succ_cons, List.take_zero, List.drop_succ_cons, List.drop_zero, Act.put, List.setIfInBounds_toArray, List.set_cons_succ, List.set_cons_zero, Nat.reduceAdd]
      rw [show vs 9 = _ from h9]
      have hm := HCM.out y hg
      go_wp2_with (with_reducible refine wpList_load_mid rfl 28 (.tmp 12) rfl w.heap.size 3 rfl (sgC sw lf s (.slice A l.length c)).toList _ hm hus rfl HSI.out ?_)
      exact ⟨rfl, _, rfl, grew_refl _, rfl⟩
    · intro vs y hg hd
      obtain ⟨h10, _⟩ := hd
      replace h10 := h10 rfl
      simp only [actOf, List.take_succ_cons, List.take_zero, List.drop_succ_cons, List.drop_zero, Act.put, List.setIfInBounds_toArray, List.set_cons_succ, List.set_cons_zero, Nat.reduceAdd]
      rw [show vs 10 = _ from h10]
      go_wp2_with (go_at_call 79; refine (C3.out y (HRR.out y hg)).mono ?_; rintro e z ⟨rfl, gz⟩)
      exact ⟨rfl, _, rfl, gz, rfl⟩
    · intro vs y hg hd
      obtain ⟨h2, h5, h8, h11, _⟩ := hd
      replace h2 := h2 rfl
      replace h5 := h5 rfl
      replace h8 := h8 rfl
      replace h11 := h11 rfl
      simp only [actOf, List.take_succ_cons, List.take_zero, List.drop_succ_cons, List.drop_zero, Act.put, List.setIfInBounds_toArray, List.set_cons_succ, List.set_cons_zero, Nat.reduceAdd]
      rw [show vs 2 = _ from h2, show vs 5 = _ from h5, show vs 8 = _ from h8, show vs 11 = _ from h11]
      go_wp2_with fail
      exact ⟨rfl, _, rfl, grew_alloc (grew_refl _) _, ⟨_, rfl, rd_made y _ _⟩⟩
    · intro vs y hg hd
      obtain ⟨h12, _⟩ := hd
      replace h12 := h12 rfl
      simp only [actOf, List.take_succ_cons, List.take_zero, List.drop_succ_cons, List.drop_zero, Act.put, List.setIfInBounds_toArray, List.set_cons_succ, List.set_cons_zero, Nat.reduceAdd]
      obtain ⟨A4, hv, r4⟩ := FourS.out h12
      rw [hv]
      go_wp2_with (go_at_call 75; refine (CJ.out A4 y r4).mono ?_; rintro e z ⟨rfl, gz⟩)
      exact ⟨rfl, _, rfl, gz, rfl⟩
  · intro vs y hg hJ
    have j0 : vs 0 = .pointer (some ⟨w.heap.size, 0, none⟩) := hJ 0 (by decide)
    have j1 : vs 1 = .int .u64 (cm : Nat) := hJ 1 (by decide)
    have j2 : vs 2 = .string t0 := hJ 2 (by decide)
    have j3 : vs 3 = .pointer (some ⟨w.heap.size, 1, none⟩) := hJ 3 (by decide)
    have j4 : vs 4 = .int .i64 who := hJ 4 (by decide)
    have j5 : vs 5 = .string t1 := hJ 5 (by decide)
    have j6 : vs 6 = .pointer (some ⟨w.heap.size, 2, none⟩) := hJ 6 (by decide)
    have j7 : vs 7 = .int .i64 at_ := hJ 7 (by decide)
    have j8 : vs 8 = .string t2 := hJ 8 (by decide)
    have j9 : vs 9 = .pointer (some ⟨w.heap.size, 3, none⟩) := hJ 9 (by decide)
    have j10 : vs 10 = .agg (sgC sw lf s (.slice A l.length c)) := hJ 10 (by decide)
    have j11 : vs 11 = .string t3 := hJ 11 (by decide)
    have j13 : vs 13 = .string tj := hJ 13 (by decide)
    have s15 := hJ 12 (by decide)
    clear hJ
    simp only [actOf, List.take_succ_cons, List.take_zero, List.drop_succ_cons, List.drop_zero, Act.put, List.setIfInBounds_toArray, List.set_cons_succ, List.set_cons_zero, Nat.reduceAdd]
    rw [j13]
    clear j0 j1 j2 j3 j4 j5 j6 j7 j8 j9 j10 j11 s15 j13
    go_wp2_with fail
    go_ret
    exact ⟨rfl, grew_trans G0.out hg⟩
end Go.Proofs.YtaeopobofmpioaaGreatDoor

namespace Go.Proofs.YtaeopobofmpioaaGreatDoor
set_option linter.unusedSimpArgs false
set_option linter.unusedVariables false
open Go.RowKit
set_option linter.unusedVariables false
structure KW (w : World) (lo hi : Nat) (f : Int) (R : List Nat) (h : Int) (v : Value) : Prop where
  out : ∃ A c, v = .agg (kyS f A R.length c h) ∧ Rd w w.heap.size A (u64L R) ∧ (∀ ad, A = some ad → lo ≤ ad.block) ∧ (∀ ad, A = some ad → R = [] ∨ ad.block < hi)
theorem KW.gr {w w' : World} {lo hi : Nat} {f : Int} {R : List Nat} {h : Int} {v : Value} (k : KW w lo hi f R h v) (g : Grew w w') : KW w' lo hi f R h v := by
  obtain ⟨A, c, h1, h2, h3, h4⟩ := k.out
  exact ⟨A, c, h1, h2.gr g, h3, h4⟩
structure SW (w : World) (lo hi : Nat) (cm : Nat) (who at_ sw lf : Int) (s : Nat → Nat) (l : List Nat) (v : Value) : Prop where
  out : ∃ A c, v = .agg (stC cm who at_ sw lf s (.slice A l.length c)) ∧ Rd w w.heap.size A (u64L l) ∧ (∀ ad, A = some ad → lo ≤ ad.block) ∧ (∀ ad, A = some ad → l = [] ∨ ad.block < hi)
theorem SW.gr {w w' : World} {lo hi cm : Nat} {who at_ sw lf : Int} {s : Nat → Nat} {l : List Nat} {v : Value} (k : SW w lo hi cm who at_ sw lf s l v) (g : Grew w w') : SW w' lo hi cm who at_ sw lf s l v := by
  obtain ⟨A, c, h1, h2, h3, h4⟩ := k.out
  exact ⟨A, c, h1, h2.gr g, h3, h4⟩
structure NW (w : World) (lo hi : Nat) (zs : List Value) (v : Value) : Prop where
  out : v = .pointer (some ⟨lo, 0, none⟩) ∧ Ag w lo zs ∧ hi = lo + 1
theorem NW.gr {w w' : World} {lo hi : Nat} {zs : List Value} {v : Value} (k : NW w lo hi zs v) (g : Grew w w') : NW w' lo hi zs v := ⟨k.out.1, k.out.2.1.grew g, k.out.2.2⟩
theorem rd_lt {w : World} {B : Nat} {A : Option Addr} {l : List Nat} (h : Rd w B A (u64L l)) : ∀ ad, A = some ad → l = [] ∨ ad.block < B := fun ad e => by
  cases l with
  | nil => exact .inl rfl
  | cons a r =>
    obtain ⟨ad', e', hb, _⟩ := h 0 (by simp [u64L])
    rw [e] at e'
    cases e'
    exact .inr hb
/-- a slice lies in no block that another operation made -/
theorem rd_apart {w w' : World} {A : Option Addr} {l : List Nat} {S : Nat → Prop} (h : Rd w w.heap.size A (u64L l)) (k : Kp S w w') (hs : ∀ ad, A = some ad → l = [] ∨ ¬ S ad.block) : Rd w' w'.heap.size A (u64L l) := by
  cases l with
  | nil => exact fun i hi => absurd hi (by simp [u64L])
  | cons a r => exact (h.kp k (Nat.le_refl _) (fun ad e _ => by rcases hs ad e with h | h; · cases h
                                                                · exact h)).more k.size
/-- two structs laid into two blocks just made -/
theorem two_put {a w : World} {q1 q2 : Nat} {z1 z2 c1 c2 : List Value} (h1 : Ag w q1 z1) (h2 : Ag w q2 z2) (hne : q1 ≠ q2) (l1 : c1.length = z1.length) (l2 : c2.length = z2.length) (ha : Grew a w) (hq1 : a.heap.size ≤ q1) (hq2 : a.heap.size ≤ q2) :
    ∃ W1 W2, w.setCells q1 0 c1 = W1 ∧ W1.setCells q2 0 c2 = W2 ∧ w.there q1 0 c1.length ∧ W1.there q2 0 c2.length ∧ Ag W2 q1 c1 ∧ Ag W2 q2 c2 ∧ Grew a W2 ∧ Kp (fun j => j = q1 ∨ j = q2) w W2 := by
  have x1 := Ag.set (vs := c1) h1 l1
  have x2 := h2.other (b' := q1) (o := 0) (vs := c1) (Ne.symm hne)
  have y1 := x1.other (b' := q2) (o := 0) (vs := c2) hne
  have y2 := Ag.set (vs := c2) x2 l2
  have g1 := setCells_grew (o := 0) (b := q1) c1 ha hq1
  have g2 := setCells_grew (o := 0) (b := q2) c2 g1 hq2
  exact ⟨_, _, rfl, rfl, h1.thereN _ l1.symm, x2.thereN _ l2.symm, y1, y2, g2, kp_trans (kp_mono (setCells_kp c1 q1 0 w) (fun i hi => .inl hi)) (kp_mono (setCells_kp c2 q2 0 _) (fun i hi => .inr hi))⟩
theorem put_stA (W : World) (cs : Array Value) (h : cs.size = 24) : ∃ W', (W.alloc (.cells (#[.int .u64 0, .int .i64 0, .int .i64 0, .int .i64 0, .int .i64 0, .int .u64 0, .int .u64 0, .int .u64 0, .int .u64 0, .int .u64 0, .int .u64 0, .int .u64 0, .int .u64 0, .int .u64 0, .int .u64 0, .int .u64 0, .int .u64 0, .int .u64 0, .int .u64 0, .int .u64 0, .int .u64 0, .int .u64 0, .int .u64 0, .slice none 0 0]) 44)).setCells W.heap.size 0 cs.toList = W' ∧ (W.alloc (.cells (#[.int .u64 0, .int .i64 0, .int .i64 0, .int .i64 0, .int .i64 0, .int .u64 0, .int .u64 0, .int .u64 0, .int .u64 0, .int .u64 0, .int .u64 0, .int .u64 0, .int .u64 0, .int .u64 0, .int .u64 0, .int .u64 0, .int .u64 0, .int .u64 0, .int .u64 0, .int .u64 0, .int .u64 0, .int .u64 0, .int .u64 0, .slice none 0 0]) 44)).there W.heap.size 0 cs.size ∧ Grew W W' ∧ Ag W' W.heap.size cs.toList :=
  ⟨_, rfl, by rw [h]; exact (Ag.new W 44 (#[.int .u64 0, .int .i64 0, .int .i64 0, .int .i64 0, .int .i64 0, .int .u64 0, .int .u64 0, .int .u64 0, .int .u64 0, .int .u64 0, .int .u64 0, .int .u64 0, .int .u64 0, .int .u64 0, .int .u64 0, .int .u64 0, .int .u64 0, .int .u64 0, .int .u64 0, .int .u64 0, .int .u64 0, .int .u64 0, .int .u64 0, .slice none 0 0])).thereN 24 rfl, setCells_grew (o := 0) (b := W.heap.size) cs.toList (grew_alloc (grew_refl W) _) (Nat.le_refl _), Ag.set (vs := cs.toList) (Ag.new W 44 (#[.int .u64 0, .int .i64 0, .int .i64 0, .int .i64 0, .int .i64 0, .int .u64 0, .int .u64 0, .int .u64 0, .int .u64 0, .int .u64 0, .int .u64 0, .int .u64 0, .int .u64 0, .int .u64 0, .int .u64 0, .int .u64 0, .int .u64 0, .int .u64 0, .int .u64 0, .int .u64 0, .int .u64 0, .int .u64 0, .int .u64 0, .slice none 0 0])) (by simp [h])⟩
theorem put_rstA (W : World) (cs : Array Value) (h : cs.size = 24) : ∃ W', (W.alloc (.cells (#[.int .u64 0, .int .i64 0, .int .i64 0, .int .i64 0, .int .i64 0, .int .u64 0, .int .u64 0, .int .u64 0, .int .u64 0, .int .u64 0, .int .u64 0, .int .u64 0, .int .u64 0, .int .u64 0, .int .u64 0, .int .u64 0, .int .u64 0, .int .u64 0, .int .u64 0, .int .u64 0, .int .u64 0, .int .u64 0, .int .u64 0, .slice none 0 0]) 30)).setCells W.heap.size 0 cs.toList = W' ∧ (W.alloc (.cells (#[.int .u64 0, .int .i64 0, .int .i64 0, .int .i64 0, .int .i64 0, .int .u64 0, .int .u64 0, .int .u64 0, .int .u64 0, .int .u64 0, .int .u64 0, .int .u64 0, .int .u64 0, .int .u64 0, .int .u64 0, .int .u64 0, .int .u64 0, .int .u64 0, .int .u64 0, .int .u64 0, .int .u64 0, .int .u64 0, .int .u64 0, .slice none 0 0]) 30)).there W.heap.size 0 cs.size ∧ Grew W W' ∧ Ag W' W.heap.size cs.toList :=
  ⟨_, rfl, by rw [h]; exact (Ag.new W 30 (#[.int .u64 0, .int .i64 0, .int .i64 0, .int .i64 0, .int .i64 0, .int .u64 0, .int .u64 0, .int .u64 0, .int .u64 0, .int .u64 0, .int .u64 0, .int .u64 0, .int .u64 0, .int .u64 0, .int .u64 0, .int .u64 0, .int .u64 0, .int .u64 0, .int .u64 0, .int .u64 0, .int .u64 0, .int .u64 0, .int .u64 0, .slice none 0 0])).thereN 24 rfl, setCells_grew (o := 0) (b := W.heap.size) cs.toList (grew_alloc (grew_refl W) _) (Nat.le_refl _), Ag.set (vs := cs.toList) (Ag.new W 30 (#[.int .u64 0, .int .i64 0, .int .i64 0, .int .i64 0, .int .i64 0, .int .u64 0, .int .u64 0, .int .u64 0, .int .u64 0, .int .u64 0, .int .u64 0, .int .u64 0, .int .u64 0, .int .u64 0, .int .u64 0, .int .u64 0, .int .u64 0, .int .u64 0, .int .u64 0, .int .u64 0, .int .u64 0, .int .u64 0, .int .u64 0, .slice none 0 0])) (by simp [h])⟩
end Go.Proofs.YtaeopobofmpioaaGreatDoor
