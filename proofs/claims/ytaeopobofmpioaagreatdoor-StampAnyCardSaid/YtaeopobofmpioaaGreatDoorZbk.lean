/- known of layer 11. -/
import Derived.Test.YtaeopobofmpioaaGreatDoorZbj
import Derived.Test.YtaeopobofmpioaaGreatDoorZay
namespace Go.Proofs.YtaeopobofmpioaaGreatDoor
set_option linter.unusedSimpArgs false
set_option linter.unusedVariables false
open Go.RowKit
set_option linter.unusedVariables false
set_option linter.unusedSimpArgs false
theorem stC_at (cm : Nat) (who a b sw lf : Int) (s : Nat → Nat) (pv : Value) : (stC cm who a sw lf s pv).toList.set 2 (.int .i64 b) = (stC cm who b sw lf s pv).toList := rfl
theorem stC_who (cm : Nat) (a b at_ sw lf : Int) (s : Nat → Nat) (pv : Value) : (stC cm a at_ sw lf s pv).toList.set 1 (.int .i64 b) = (stC cm b at_ sw lf s pv).toList := rfl
set_option maxRecDepth 100000 in
set_option maxHeartbeats 900000 in
theorem sknown_ok (w : World) (hS : Std w) : Calls Tryz.prog 15 #[] w fun e w' => e = .returned (.bool true) ∧ Grew w w' := by
  have HS := Lib.hid hS
  have CK := keys_ok 5 ⟨by omega, by omega⟩ 1 (by omega) w
  rw [show ((1 : Nat) : Int) = 1 from rfl] at CK
  have hkt := Tryz.underlying36
  have hut := Tryz.underlying44
  have hsl := Tryz.underlying66
  clear hS
  go_enter Tryz.func15, Tryz.ntmps15
  go_wp2_with fail
  refine CK.mono ?_
  clear CK
  rintro e w1 ⟨LA, Lc, RA, Rc, p, rfl, KS, rL, rR, FL, FR, G1⟩
  have hlad := rL 0 (by simp [ptrL])
  obtain ⟨lad, hLA, -, -⟩ := hlad
  subst hLA
  obtain ⟨kc, hkc⟩ : ∃ v, kyS 1 RA 4 Rc 1 = v := ⟨_, rfl⟩
  have HSK : Hid ((Tryz.prog.info? 36).map (·.size) = some (kyS 1 RA 4 Rc 1).size) := Lib.hid (by kernel_rfl)
  have HSKL : Hid ((Tryz.prog.info? 36).map (·.size) = some (kyS 1 RA 4 Rc 1).toList.length) := Lib.hid (by kernel_rfl)
  have HOK : Hid ((kyS 1 RA 4 Rc 1).all (·.oneCell') = true) := Lib.hid (by simp [kyS, Value.oneCell'])
  have zt := Ag.new w1 36 (#[.int .i64 0, .slice none 0 0, .int .i64 0])
  have HTK : Hid ((w1.alloc (.cells (#[.int .i64 0, .slice none 0 0, .int .i64 0]) 36)).there w1.heap.size 0 (kyS 1 RA 4 Rc 1).size) := Lib.hid (zt.thereN 3 rfl)
  have z2 := Ag.set (vs := (kyS 1 RA 4 Rc 1).toList) zt rfl
  have g2 : Grew w1 ((w1.alloc (.cells (#[.int .i64 0, .slice none 0 0, .int .i64 0]) 36)).setCells w1.heap.size 0 (kyS 1 RA 4 Rc 1).toList) := setCells_grew (o := 0) (b := w1.heap.size) (kyS 1 RA 4 Rc 1).toList (grew_alloc (grew_refl w1) _) (Nat.le_refl _)
  obtain ⟨w2, hw2⟩ : ∃ v, (w1.alloc (.cells (#[.int .i64 0, .slice none 0 0, .int .i64 0]) 36)).setCells w1.heap.size 0 (kyS 1 RA 4 Rc 1).toList = v := ⟨_, rfl⟩
  rw [hw2] at z2 g2
  have HW2 := Lib.hid hw2
  have KS2 := KS.grew g2
  have rL2 := rL.gr g2
  have rR2 := rR.gr g2
  have G2 := grew_trans G1 g2
  clear hw2 zt g2 rL rR G1
  obtain ⟨c2, hc2⟩ : ∃ u, w2.cell? (lad.add 2) = some u ∧ u = .pointer (some ⟨p 2 + 1, 0, none⟩) := by
    obtain ⟨ad, e, _, hc⟩ := rL2 2 (by simp [ptrL])
    cases e
    exact ⟨_, hc, by simp [ptrL]⟩
  obtain ⟨hc2, rfl⟩ := hc2
  rw [show lad.add 2 = ⟨lad.block, lad.off + 2, none⟩ from by unfold Addr.add; simp] at hc2
  have hnil : ∀ W, (binOp .eql 66 (.slice (some lad) 4 Lc) (.slice none 0 0)).run Tryz.prog W = .ok (.bool false) W := fun W => by
    simp only [binOp]
    simp [run_equal_slice_nil W _ _ (some lad) 4 Lc hsl]
  rw [hkc] at z2 HSK HSKL HOK HTK HW2 ⊢
  have HKC := Lib.hid hkc
  clear hkc
  have K2 := KS2.key 2 (by omega)
  have hks : ksL 5 1 2 = pubsL 7 2 := by unfold ksL; rw [sd_7]
  rw [sd_7, hks, show (2 : Nat) ^ 1 = 2 from rfl] at K2
  have hp2 : p 2 + 1 < w1.heap.size := by exact (KS.key 2 (by omega)).key.lt
  have hlen2 : (pubsL 7 2).length = 2 := pubsL_length _ _
  have CM := stmake_ok (p 2 + 1) (p 2) 2 7 (pubsL 7 2) 0 2 (by omega) (by omega) (by omega) (by rw [hlen2]; decide) (pubsL_lt _ _) ⟨by omega, by omega⟩ (fun m hm => by have := path_len 7 1 (by omega) m (by rw [hlen2] at hm; exact hm); rw [show (2 : Nat) ^ 1 = 2 from rfl] at this; omega) 77 (by omega) 2 9 ⟨by omega, by omega⟩ ⟨by omega, by omega⟩ (by decide) (by omega) (by omega) w2 (HS.out.grew G2) K2
  have V1 := va_1
  have V2 := va_2
  have V3 := va_3
  have hpl := path_len 7 1 (by omega) 0 (by decide)
  have hpb := pathN_lt (pubsL 7 2) 0 (pubsL_lt _ _)
  have hss : ∀ j, j < 18 → signF (secN 7 ((0 : Nat) : Int)) 10245224531534997766 j < 18446744073709551616 := fun j hj => signF_lt _ _ _ (secN_lt _ _ _)
  rw [show (2 : Nat) ^ 1 = 2 from rfl] at hpl
  rw [stD_9] at CM
  obtain ⟨s, hs⟩ : ∃ s, signF (secN 7 ((0 : Nat) : Int)) 10245224531534997766 = s := ⟨_, rfl⟩
  obtain ⟨pl, hp⟩ : ∃ pl, pathN (pubsL 7 2) 0 = pl := ⟨_, rfl⟩
  rw [hs, hp] at V1 V2 V3 CM
  rw [hs] at hss
  rw [hp] at hpl hpb
  rw [show ((77 : Nat) : Int) = 77 from rfl, show ((0 : Nat) : Int) = 0 from rfl] at CM
  clear hs hp hks
  have HV1 := Lib.hid V1
  have HV2 := Lib.hid V2
  have HV3 := Lib.hid V3
  have HPB := Lib.hid hpb
  have HSS := Lib.hid hss
  clear V1 V2 V3 hpb hss
  have HPL := Lib.hid hpl
  clear hpl
  go_wp2_with (with_reducible refine wpList_store_mid rfl 36 (.tmp 2) (.tmp 14) rfl w1.heap.size 0 kc rfl rfl HTK.out HSK.out HOK.out ?_; rw [HW2.out]; clear HW2 HTK; generalize hqk : w1.heap.size = qk at *)
  refine CM.mono ?_
  clear CM
  rintro e w3 ⟨⟨A1, c1, rfl, r3, hA1⟩, T3, K3⟩
  have hz2k : qk < w2.heap.size := z2.lt
  have z3 := z2.kp (kp_tn T3) (show ¬ qk = p 2 + 1 by omega)
  have rL3 := (rL2.kp (kp_tn T3) (Nat.le_refl _) (fun ad e _ (h : ad.block = p 2 + 1) => (FL ad e 2 (by omega)).2 h)).more T3.size
  have rR3 := (rR2.kp (kp_tn T3) (Nat.le_refl _) (fun ad e _ (h : ad.block = p 2 + 1) => (FR ad e 2 (by omega)).2 h)).more T3.size
  have G3 := grew_tn G2 T3 (by have := KS2.low 2 (by omega); omega)
  obtain ⟨gs, hgs⟩ : ∃ g, stC 77 2 9 2 0 s (.slice A1 pl.length c1) = g := ⟨_, rfl⟩
  have HZS : Hid (gs.size = 24) := Lib.hid (by rw [← hgs]; rfl)
  have HSS1 : Hid ((Tryz.prog.info? 44).map (·.size) = some gs.size) := Lib.hid (by rw [← hgs]; exact st_info)
  have HSL1 : Hid ((Tryz.prog.info? 44).map (·.size) = some gs.toList.length) := Lib.hid (by rw [← hgs]; exact st_info)
  have HOS1 : Hid (gs.all (·.oneCell') = true) := Lib.hid (by rw [← hgs]; exact stC_one 77 2 9 2 0 s A1 pl.length c1)
  have HGS := Lib.hid hgs
  rw [hgs]
  clear hgs T3 K3 z2 rL2 rR2 G2 KS2 KS K2 hA1 hc2
  have zt := Ag.new w3 44 (#[.int .u64 0, .int .i64 0, .int .i64 0, .int .i64 0, .int .i64 0, .int .u64 0, .int .u64 0, .int .u64 0, .int .u64 0, .int .u64 0, .int .u64 0, .int .u64 0, .int .u64 0, .int .u64 0, .int .u64 0, .int .u64 0, .int .u64 0, .int .u64 0, .int .u64 0, .int .u64 0, .int .u64 0, .int .u64 0, .int .u64 0, .slice none 0 0])
  have HT4 : Hid ((w3.alloc (.cells (#[.int .u64 0, .int .i64 0, .int .i64 0, .int .i64 0, .int .i64 0, .int .u64 0, .int .u64 0, .int .u64 0, .int .u64 0, .int .u64 0, .int .u64 0, .int .u64 0, .int .u64 0, .int .u64 0, .int .u64 0, .int .u64 0, .int .u64 0, .int .u64 0, .int .u64 0, .int .u64 0, .int .u64 0, .int .u64 0, .int .u64 0, .slice none 0 0]) 44)).there w3.heap.size 0 gs.size) := Lib.hid (by rw [HZS.out]; exact zt.thereN 24 rfl)
  have z4 := Ag.set (vs := gs.toList) zt (by rw [Array.length_toList, HZS.out]; rfl)
  have g4 : Grew w3 ((w3.alloc (.cells (#[.int .u64 0, .int .i64 0, .int .i64 0, .int .i64 0, .int .i64 0, .int .u64 0, .int .u64 0, .int .u64 0, .int .u64 0, .int .u64 0, .int .u64 0, .int .u64 0, .int .u64 0, .int .u64 0, .int .u64 0, .int .u64 0, .int .u64 0, .int .u64 0, .int .u64 0, .int .u64 0, .int .u64 0, .int .u64 0, .int .u64 0, .slice none 0 0]) 44)).setCells w3.heap.size 0 gs.toList) := setCells_grew (o := 0) (b := w3.heap.size) gs.toList (grew_alloc (grew_refl w3) _) (Nat.le_refl _)
  obtain ⟨w4, hw⟩ : ∃ v, (w3.alloc (.cells (#[.int .u64 0, .int .i64 0, .int .i64 0, .int .i64 0, .int .i64 0, .int .u64 0, .int .u64 0, .int .u64 0, .int .u64 0, .int .u64 0, .int .u64 0, .int .u64 0, .int .u64 0, .int .u64 0, .int .u64 0, .int .u64 0, .int .u64 0, .int .u64 0, .int .u64 0, .int .u64 0, .int .u64 0, .int .u64 0, .int .u64 0, .slice none 0 0]) 44)).setCells w3.heap.size 0 gs.toList = v := ⟨_, rfl⟩
  rw [hw] at z4 g4
  have HW4 := Lib.hid hw
  clear hw zt
  obtain ⟨q3, hb⟩ : ∃ q, w3.heap.size = q := ⟨_, rfl⟩
  rw [hb] at z4 HT4 HW4
  have HB4 := Lib.hid hb
  clear hb
  have z4k := z3.grew g4
  have G4 := grew_trans G3 g4
  have hm4 := z4.cell
  have zt := Ag.new w4 44 (#[.int .u64 0, .int .i64 0, .int .i64 0, .int .i64 0, .int .i64 0, .int .u64 0, .int .u64 0, .int .u64 0, .int .u64 0, .int .u64 0, .int .u64 0, .int .u64 0, .int .u64 0, .int .u64 0, .int .u64 0, .int .u64 0, .int .u64 0, .int .u64 0, .int .u64 0, .int .u64 0, .int .u64 0, .int .u64 0, .int .u64 0, .slice none 0 0])
  have HT5 : Hid ((w4.alloc (.cells (#[.int .u64 0, .int .i64 0, .int .i64 0, .int .i64 0, .int .i64 0, .int .u64 0, .int .u64 0, .int .u64 0, .int .u64 0, .int .u64 0, .int .u64 0, .int .u64 0, .int .u64 0, .int .u64 0, .int .u64 0, .int .u64 0, .int .u64 0, .int .u64 0, .int .u64 0, .int .u64 0, .int .u64 0, .int .u64 0, .int .u64 0, .slice none 0 0]) 44)).there w4.heap.size 0 gs.size) := Lib.hid (by rw [HZS.out]; exact zt.thereN 24 rfl)
  have z5 := Ag.set (vs := gs.toList) zt (by rw [Array.length_toList, HZS.out]; rfl)
  have g5 : Grew w4 ((w4.alloc (.cells (#[.int .u64 0, .int .i64 0, .int .i64 0, .int .i64 0, .int .i64 0, .int .u64 0, .int .u64 0, .int .u64 0, .int .u64 0, .int .u64 0, .int .u64 0, .int .u64 0, .int .u64 0, .int .u64 0, .int .u64 0, .int .u64 0, .int .u64 0, .int .u64 0, .int .u64 0, .int .u64 0, .int .u64 0, .int .u64 0, .int .u64 0, .slice none 0 0]) 44)).setCells w4.heap.size 0 gs.toList) := setCells_grew (o := 0) (b := w4.heap.size) gs.toList (grew_alloc (grew_refl w4) _) (Nat.le_refl _)
  obtain ⟨w5, hw⟩ : ∃ v, (w4.alloc (.cells (#[.int .u64 0, .int .i64 0, .int .i64 0, .int .i64 0, .int .i64 0, .int .u64 0, .int .u64 0, .int .u64 0, .int .u64 0, .int .u64 0, .int .u64 0, .int .u64 0, .int .u64 0, .int .u64 0, .int .u64 0, .int .u64 0, .int .u64 0, .int .u64 0, .int .u64 0, .int .u64 0, .int .u64 0, .int .u64 0, .int .u64 0, .slice none 0 0]) 44)).setCells w4.heap.size 0 gs.toList = v := ⟨_, rfl⟩
  rw [hw] at z5 g5
  have HW5 := Lib.hid hw
  clear hw zt
  obtain ⟨q5, hb⟩ : ∃ q, w4.heap.size = q := ⟨_, rfl⟩
  rw [hb] at z5 HT5 HW5
  have HB5 := Lib.hid hb
  clear hb
  have z5s := z4.grew g5
  have z5k := z4k.grew g5
  have G5 := grew_trans G4 g5
  have hq35 : q3 ≠ q5 := by have := z4.lt; have := HB5.out; omega
  have hq5k : qk ≠ q5 := by have := z4k.lt; have := HB5.out; omega
  have f52 : w5.frozen? ⟨q5, 2, none⟩ = false := by simpa using (z5.there 2 (by rw [Array.length_toList, HZS.out]; omega)).2
  have c52 : w5.cell? ⟨q5, 2, none⟩ = some (.int .i64 9) := by
    have := z5.cell 2 (.int .i64 9) (by rw [← HGS.out]; rfl)
    simpa using this
  have t6 := tn_set (g := q5) (tn_refl _ w5) (p := ⟨q5, 2, none⟩) (.inl rfl) (.int .i64 10)
  have z6 := Ag.set1 z5 2 (.int .i64 10) (by rw [Array.length_toList, HZS.out]; omega)
  rw [← HGS.out, stC_at] at z6
  have z6s := z5s.kp (kp_tn t6) hq35
  have z6k := z5k.kp (kp_tn t6) hq5k
  have hw5q : w.heap.size ≤ q5 := by have := G4.size; have := HB5.out; omega
  have G6 := grew_tn G5 t6 hw5q
  obtain ⟨w6, hw6⟩ : ∃ v, w5.setCell ⟨q5, 2, none⟩ (.int .i64 10) = v := ⟨_, rfl⟩
  rw [hw6] at z6 z6s z6k G6 t6
  have HW6 := Lib.hid hw6
  clear hw6
  have hm6 := z6s.cell
  have zt := Ag.new w6 44 (#[.int .u64 0, .int .i64 0, .int .i64 0, .int .i64 0, .int .i64 0, .int .u64 0, .int .u64 0, .int .u64 0, .int .u64 0, .int .u64 0, .int .u64 0, .int .u64 0, .int .u64 0, .int .u64 0, .int .u64 0, .int .u64 0, .int .u64 0, .int .u64 0, .int .u64 0, .int .u64 0, .int .u64 0, .int .u64 0, .int .u64 0, .slice none 0 0])
  have HT7 : Hid ((w6.alloc (.cells (#[.int .u64 0, .int .i64 0, .int .i64 0, .int .i64 0, .int .i64 0, .int .u64 0, .int .u64 0, .int .u64 0, .int .u64 0, .int .u64 0, .int .u64 0, .int .u64 0, .int .u64 0, .int .u64 0, .int .u64 0, .int .u64 0, .int .u64 0, .int .u64 0, .int .u64 0, .int .u64 0, .int .u64 0, .int .u64 0, .int .u64 0, .slice none 0 0]) 44)).there w6.heap.size 0 gs.size) := Lib.hid (by rw [HZS.out]; exact zt.thereN 24 rfl)
  have z7 := Ag.set (vs := gs.toList) zt (by rw [Array.length_toList, HZS.out]; rfl)
  have g7 : Grew w6 ((w6.alloc (.cells (#[.int .u64 0, .int .i64 0, .int .i64 0, .int .i64 0, .int .i64 0, .int .u64 0, .int .u64 0, .int .u64 0, .int .u64 0, .int .u64 0, .int .u64 0, .int .u64 0, .int .u64 0, .int .u64 0, .int .u64 0, .int .u64 0, .int .u64 0, .int .u64 0, .int .u64 0, .int .u64 0, .int .u64 0, .int .u64 0, .int .u64 0, .slice none 0 0]) 44)).setCells w6.heap.size 0 gs.toList) := setCells_grew (o := 0) (b := w6.heap.size) gs.toList (grew_alloc (grew_refl w6) _) (Nat.le_refl _)
  obtain ⟨w7, hw⟩ : ∃ v, (w6.alloc (.cells (#[.int .u64 0, .int .i64 0, .int .i64 0, .int .i64 0, .int .i64 0, .int .u64 0, .int .u64 0, .int .u64 0, .int .u64 0, .int .u64 0, .int .u64 0, .int .u64 0, .int .u64 0, .int .u64 0, .int .u64 0, .int .u64 0, .int .u64 0, .int .u64 0, .int .u64 0, .int .u64 0, .int .u64 0, .int .u64 0, .int .u64 0, .slice none 0 0]) 44)).setCells w6.heap.size 0 gs.toList = v := ⟨_, rfl⟩
  rw [hw] at z7 g7
  have HW7 := Lib.hid hw
  clear hw zt
  obtain ⟨q6, hb⟩ : ∃ q, w6.heap.size = q := ⟨_, rfl⟩
  rw [hb] at z7 HT7 HW7
  have HB7 := Lib.hid hb
  clear hb
  have z7s := z6s.grew g7
  have z7k := z6k.grew g7
  have z7t := z6.grew g7
  have G7 := grew_trans G6 g7
  have hq36 : q3 ≠ q6 := by have := z6s.lt; have := HB7.out; omega
  have hq6k : qk ≠ q6 := by have := z6k.lt; have := HB7.out; omega
  have hq56 : q5 ≠ q6 := by have := z6.lt; have := HB7.out; omega
  have f71 : w7.frozen? ⟨q6, 1, none⟩ = false := by simpa using (z7.there 1 (by rw [Array.length_toList, HZS.out]; omega)).2
  have c71 : w7.cell? ⟨q6, 1, none⟩ = some (.int .i64 2) := by
    have := z7.cell 1 (.int .i64 2) (by rw [← HGS.out]; rfl)
    simpa using this
  have t8 := tn_set (g := q6) (tn_refl _ w7) (p := ⟨q6, 1, none⟩) (.inl rfl) (.int .i64 1)
  have z8 := Ag.set1 z7 1 (.int .i64 1) (by rw [Array.length_toList, HZS.out]; omega)
  rw [← HGS.out, stC_who] at z8
  have z8s := z7s.kp (kp_tn t8) hq36
  have z8k := z7k.kp (kp_tn t8) hq6k
  have z8t := z7t.kp (kp_tn t8) hq56
  have hw7q : w.heap.size ≤ q6 := by have := G6.size; have := HB7.out; omega
  have G8 := grew_tn G7 t8 hw7q
  have K38 : Kp (fun i => i = q5 ∨ i = q6) w3 (w7.setCell ⟨q6, 1, none⟩ (.int .i64 1)) := by
    refine kp_trans (kp_trans (kp_grew (grew_trans g4 g5)) (kp_mono (kp_tn (HW6.out ▸ tn_set (g := q5) (tn_refl _ w5) (p := ⟨q5, 2, none⟩) (.inl rfl) (.int .i64 10))) (fun i e => .inl e))) (kp_trans (kp_grew g7) (kp_mono (kp_tn t8) (fun i e => .inr e)))
  obtain ⟨w8, hw8⟩ : ∃ v, w7.setCell ⟨q6, 1, none⟩ (.int .i64 1) = v := ⟨_, rfl⟩
  rw [hw8] at z8 z8s z8k z8t G8 K38
  have HW8 := Lib.hid hw8
  clear hw8
  have hq3w : w3.heap.size ≤ q5 ∧ w3.heap.size ≤ q6 := ⟨by have := HB5.out; have := g4.size; omega, by have := HB7.out; have := g4.size; have := g5.size; have := t6.size; omega⟩
  have KQ : ∀ i, (i = q5 ∨ i = q6) → w3.heap.size ≤ i := fun i e => by rcases e with e | e <;> omega
  have r8 := (r3.kp K38 (Nat.le_refl _) (fun ad _ hlt hS => by have := KQ _ hS; omega)).more K38.size
  have rL8 := (rL3.kp K38 (Nat.le_refl _) (fun ad _ hlt hS => by have := KQ _ hS; omega)).more K38.size
  have rR8 := (rR3.kp K38 (Nat.le_refl _) (fun ad _ hlt hS => by have := KQ _ hS; omega)).more K38.size
  obtain ⟨u0, hc0, -⟩ : ∃ u, w8.cell? (lad.add 0) = some u ∧ True := by
    obtain ⟨ad, e, _, hc⟩ := rL8 0 (by simp [ptrL])
    cases e
    exact ⟨_, hc, trivial⟩
  rw [show lad.add 0 = lad from by unfold Addr.add; simp] at hc0
  have CN := Lib.hid (fun W => stmake_no u0 77 0 0 (by decide) W)
  have hc0' : (w7.setCell ⟨q6, 1, none⟩ (.int .i64 1)).cell? lad = some u0 := by rw [HW8.out]; exact hc0
  clear z4 z4k z5 z5s z5k z6 z6s z6k z7 z7s z7k z7t t6 t8 r3 rL3 rR3 z3 G3 G4 G5 G6 G7 g4 g5 g7 K38 KQ hq3w rL8 hq35 hq5k hq36 hq6k hq56
  go_wp2_with (first
    | (rw [HB4.out]; (with_reducible refine wpList_store_mid rfl 44 (.tmp 3) (.tmp 22) rfl q3 0 gs rfl rfl HT4.out HSS1.out HOS1.out ?_); rw [HW4.out])
    | (with_reducible refine wpList_load_mid rfl 44 (.tmp 3) rfl q3 0 rfl gs.toList _ hm4 hut rfl HSL1.out ?_; simp only [Array.toArray_toList])
    | (rw [HB5.out]; (with_reducible refine wpList_store_mid rfl 44 (.tmp 5) (.tmp 24) rfl q5 0 gs rfl rfl HT5.out HSS1.out HOS1.out ?_); rw [HW5.out])
    | (rw [HW6.out]; (with_reducible refine wpList_load_mid rfl 44 (.tmp 3) rfl q3 0 rfl gs.toList _ hm6 hut rfl HSL1.out ?_); simp only [Array.toArray_toList])
    | (rw [HB7.out]; (with_reducible refine wpList_store_mid rfl 44 (.tmp 6) (.tmp 26) rfl q6 0 gs rfl rfl HT7.out HSS1.out HOS1.out ?_); rw [HW7.out]))
  rw [HW8.out]
  refine (CN.out w8).mono ?_
  rintro e v8 ⟨rfl, gg⟩
  have y3 := z8s.grew gg
  have yk := z8k.grew gg
  have yt := z8t.grew gg
  have yu := z8.grew gg
  have G9 := grew_trans G8 gg
  have r9 := r8.gr gg
  have rR9 := rR8.gr gg
  clear z8s z8k z8t z8 G8 r8 rR8 gg hc0 hc0' CN HW4 HW5 HW6 HW7 HW8 HT4 HT5 HT7 HB4 HB5 HB7 f52 c52 f71 c71
  have HZZ : Hid ((#[.int .u64 0, .int .i64 0, .int .i64 0, .int .i64 0, .int .i64 0, .int .u64 0, .int .u64 0, .int .u64 0, .int .u64 0, .int .u64 0, .int .u64 0, .int .u64 0, .int .u64 0, .int .u64 0, .int .u64 0, .int .u64 0, .int .u64 0, .int .u64 0, .int .u64 0, .int .u64 0, .int .u64 0, .int .u64 0, .int .u64 0, .slice none 0 0] : Array Value).size = 24) := Lib.hid rfl
  have HSSZ : Hid ((Tryz.prog.info? 44).map (·.size) = some (#[.int .u64 0, .int .i64 0, .int .i64 0, .int .i64 0, .int .i64 0, .int .u64 0, .int .u64 0, .int .u64 0, .int .u64 0, .int .u64 0, .int .u64 0, .int .u64 0, .int .u64 0, .int .u64 0, .int .u64 0, .int .u64 0, .int .u64 0, .int .u64 0, .int .u64 0, .int .u64 0, .int .u64 0, .int .u64 0, .int .u64 0, .slice none 0 0] : Array Value).size) := Lib.hid st_info
  have HOSZ : Hid ((#[.int .u64 0, .int .i64 0, .int .i64 0, .int .i64 0, .int .i64 0, .int .u64 0, .int .u64 0, .int .u64 0, .int .u64 0, .int .u64 0, .int .u64 0, .int .u64 0, .int .u64 0, .int .u64 0, .int .u64 0, .int .u64 0, .int .u64 0, .int .u64 0, .int .u64 0, .int .u64 0, .int .u64 0, .int .u64 0, .int .u64 0, .slice none 0 0] : Array Value).all (·.oneCell') = true) := Lib.hid (by simp [Value.oneCell'])
  have zt := Ag.new v8 44 (#[.int .u64 0, .int .i64 0, .int .i64 0, .int .i64 0, .int .i64 0, .int .u64 0, .int .u64 0, .int .u64 0, .int .u64 0, .int .u64 0, .int .u64 0, .int .u64 0, .int .u64 0, .int .u64 0, .int .u64 0, .int .u64 0, .int .u64 0, .int .u64 0, .int .u64 0, .int .u64 0, .int .u64 0, .int .u64 0, .int .u64 0, .slice none 0 0])
  have HT9 : Hid ((v8.alloc (.cells (#[.int .u64 0, .int .i64 0, .int .i64 0, .int .i64 0, .int .i64 0, .int .u64 0, .int .u64 0, .int .u64 0, .int .u64 0, .int .u64 0, .int .u64 0, .int .u64 0, .int .u64 0, .int .u64 0, .int .u64 0, .int .u64 0, .int .u64 0, .int .u64 0, .int .u64 0, .int .u64 0, .int .u64 0, .int .u64 0, .int .u64 0, .slice none 0 0]) 44)).there v8.heap.size 0 (#[.int .u64 0, .int .i64 0, .int .i64 0, .int .i64 0, .int .i64 0, .int .u64 0, .int .u64 0, .int .u64 0, .int .u64 0, .int .u64 0, .int .u64 0, .int .u64 0, .int .u64 0, .int .u64 0, .int .u64 0, .int .u64 0, .int .u64 0, .int .u64 0, .int .u64 0, .int .u64 0, .int .u64 0, .int .u64 0, .int .u64 0, .slice none 0 0] : Array Value).size) := Lib.hid (zt.thereN 24 rfl)
  have g9 : Grew v8 ((v8.alloc (.cells (#[.int .u64 0, .int .i64 0, .int .i64 0, .int .i64 0, .int .i64 0, .int .u64 0, .int .u64 0, .int .u64 0, .int .u64 0, .int .u64 0, .int .u64 0, .int .u64 0, .int .u64 0, .int .u64 0, .int .u64 0, .int .u64 0, .int .u64 0, .int .u64 0, .int .u64 0, .int .u64 0, .int .u64 0, .int .u64 0, .int .u64 0, .slice none 0 0]) 44)).setCells v8.heap.size 0 (#[.int .u64 0, .int .i64 0, .int .i64 0, .int .i64 0, .int .i64 0, .int .u64 0, .int .u64 0, .int .u64 0, .int .u64 0, .int .u64 0, .int .u64 0, .int .u64 0, .int .u64 0, .int .u64 0, .int .u64 0, .int .u64 0, .int .u64 0, .int .u64 0, .int .u64 0, .int .u64 0, .int .u64 0, .int .u64 0, .int .u64 0, .slice none 0 0] : Array Value).toList) := setCells_grew (o := 0) (b := v8.heap.size) (#[.int .u64 0, .int .i64 0, .int .i64 0, .int .i64 0, .int .i64 0, .int .u64 0, .int .u64 0, .int .u64 0, .int .u64 0, .int .u64 0, .int .u64 0, .int .u64 0, .int .u64 0, .int .u64 0, .int .u64 0, .int .u64 0, .int .u64 0, .int .u64 0, .int .u64 0, .int .u64 0, .int .u64 0, .int .u64 0, .int .u64 0, .slice none 0 0] : Array Value).toList (grew_alloc (grew_refl v8) _) (Nat.le_refl _)
  have y3' := y3.grew g9
  have yk' := yk.grew g9
  have yt' := yt.grew g9
  have yu' := yu.grew g9
  have GA := grew_trans G9 g9
  have rA := r9.gr g9
  have rRA := rR9.gr g9
  clear y3 yk yt yu G9 r9 rR9 zt g9
  obtain ⟨w9, hw9⟩ : ∃ v, (v8.alloc (.cells (#[.int .u64 0, .int .i64 0, .int .i64 0, .int .i64 0, .int .i64 0, .int .u64 0, .int .u64 0, .int .u64 0, .int .u64 0, .int .u64 0, .int .u64 0, .int .u64 0, .int .u64 0, .int .u64 0, .int .u64 0, .int .u64 0, .int .u64 0, .int .u64 0, .int .u64 0, .int .u64 0, .int .u64 0, .int .u64 0, .int .u64 0, .slice none 0 0]) 44)).setCells v8.heap.size 0 (#[.int .u64 0, .int .i64 0, .int .i64 0, .int .i64 0, .int .i64 0, .int .u64 0, .int .u64 0, .int .u64 0, .int .u64 0, .int .u64 0, .int .u64 0, .int .u64 0, .int .u64 0, .int .u64 0, .int .u64 0, .int .u64 0, .int .u64 0, .int .u64 0, .int .u64 0, .int .u64 0, .int .u64 0, .int .u64 0, .int .u64 0, .slice none 0 0] : Array Value).toList = v := ⟨_, rfl⟩
  rw [hw9] at y3' yk' yt' yu' GA rA rRA
  have HW9 := Lib.hid hw9
  clear hw9
  have hmA := y3'.cell
  have CT := sttext_ok 77 2 9 2 0 s A1 c1 pl (by omega) ⟨by omega, by omega⟩ ⟨by omega, by omega⟩ ⟨by omega, by omega⟩ ⟨by omega, by omega⟩ (by rw [HPL.out]; omega) HSS.out HPB.out w9 (HS.out.grew GA) rA
  have CP := Lib.hid (fun W hW => stparse_ok 77 2 9 2 0 s pl (by omega) (by omega) ⟨by omega, by omega⟩ (by omega) (by omega) (by rw [HPL.out]; omega) HSS.out HPB.out W hW)
  rw [HGS.out] at CT
  go_wp2_with (first
    | (with_reducible refine wpList_store_mid rfl 44 (.tmp 7) (.tmp 33) rfl v8.heap.size 0 (#[.int .u64 0, .int .i64 0, .int .i64 0, .int .i64 0, .int .i64 0, .int .u64 0, .int .u64 0, .int .u64 0, .int .u64 0, .int .u64 0, .int .u64 0, .int .u64 0, .int .u64 0, .int .u64 0, .int .u64 0, .int .u64 0, .int .u64 0, .int .u64 0, .int .u64 0, .int .u64 0, .int .u64 0, .int .u64 0, .int .u64 0, .slice none 0 0]) rfl rfl HT9.out HSSZ.out HOSZ.out ?_; rw [HW9.out]; generalize v8.heap.size = q7 at *)
    | (with_reducible refine wpList_load_mid rfl 44 (.tmp 3) rfl q3 0 rfl gs.toList _ hmA hut rfl HSL1.out ?_; simp only [Array.toArray_toList]))
  refine CT.mono ?_
  rintro e wA ⟨rfl, gg⟩
  have y3 := y3'.grew gg
  have yk := yk'.grew gg
  have yt := yt'.grew gg
  have yu := yu'.grew gg
  have GB := grew_trans GA gg
  have rB := rA.gr gg
  have rRB := rRA.gr gg
  clear CT y3' yk' yt' yu' GA rA rRA gg hmA HW9 HT9
  go_wp2_with fail
  refine (CP.out wA (HS.out.grew GB)).mono ?_
  rintro e wB ⟨⟨A2, c2, rfl, r2⟩, gg⟩
  have y3' := y3.grew gg
  have yk' := yk.grew gg
  have yt' := yt.grew gg
  have yu' := yu.grew gg
  have GC := grew_trans GB gg
  have rC := rB.gr gg
  have rRC := rRB.gr gg
  clear CP y3 yk yt yu GB rB rRB gg
  obtain ⟨gx, hgx⟩ : ∃ g, stC 77 2 9 2 0 s (.slice A2 pl.length c2) = g := ⟨_, rfl⟩
  have HZX : Hid (gx.size = 24) := Lib.hid (by rw [← hgx]; rfl)
  have HSSX : Hid ((Tryz.prog.info? 44).map (·.size) = some gx.size) := Lib.hid (by rw [← hgx]; exact st_info)
  have HSLX : Hid ((Tryz.prog.info? 44).map (·.size) = some gx.toList.length) := Lib.hid (by rw [← hgx]; exact st_info)
  have HOSX : Hid (gx.all (·.oneCell') = true) := Lib.hid (by rw [← hgx]; exact stC_one 77 2 9 2 0 s A2 pl.length c2)
  have HGX := Lib.hid hgx
  rw [hgx]
  clear hgx
  have zt := Ag.new wB 44 (#[.int .u64 0, .int .i64 0, .int .i64 0, .int .i64 0, .int .i64 0, .int .u64 0, .int .u64 0, .int .u64 0, .int .u64 0, .int .u64 0, .int .u64 0, .int .u64 0, .int .u64 0, .int .u64 0, .int .u64 0, .int .u64 0, .int .u64 0, .int .u64 0, .int .u64 0, .int .u64 0, .int .u64 0, .int .u64 0, .int .u64 0, .slice none 0 0])
  have HTX : Hid ((wB.alloc (.cells (#[.int .u64 0, .int .i64 0, .int .i64 0, .int .i64 0, .int .i64 0, .int .u64 0, .int .u64 0, .int .u64 0, .int .u64 0, .int .u64 0, .int .u64 0, .int .u64 0, .int .u64 0, .int .u64 0, .int .u64 0, .int .u64 0, .int .u64 0, .int .u64 0, .int .u64 0, .int .u64 0, .int .u64 0, .int .u64 0, .int .u64 0, .slice none 0 0]) 44)).there wB.heap.size 0 gx.size) := Lib.hid (by rw [HZX.out]; exact zt.thereN 24 rfl)
  have zx := Ag.set (vs := gx.toList) zt (by rw [Array.length_toList, HZX.out]; rfl)
  have gX : Grew wB ((wB.alloc (.cells (#[.int .u64 0, .int .i64 0, .int .i64 0, .int .i64 0, .int .i64 0, .int .u64 0, .int .u64 0, .int .u64 0, .int .u64 0, .int .u64 0, .int .u64 0, .int .u64 0, .int .u64 0, .int .u64 0, .int .u64 0, .int .u64 0, .int .u64 0, .int .u64 0, .int .u64 0, .int .u64 0, .int .u64 0, .int .u64 0, .int .u64 0, .slice none 0 0]) 44)).setCells wB.heap.size 0 gx.toList) := setCells_grew (o := 0) (b := wB.heap.size) gx.toList (grew_alloc (grew_refl wB) _) (Nat.le_refl _)
  have y3 := y3'.grew gX
  have yk := yk'.grew gX
  have yt := yt'.grew gX
  have yu := yu'.grew gX
  have GD := grew_trans GC gX
  have rD := rC.gr gX
  have rRD := rRC.gr gX
  have r2D := r2.gr gX
  clear y3' yk' yt' yu' GC rC rRC r2 zt gX
  obtain ⟨wC, hwC⟩ : ∃ v, (wB.alloc (.cells (#[.int .u64 0, .int .i64 0, .int .i64 0, .int .i64 0, .int .i64 0, .int .u64 0, .int .u64 0, .int .u64 0, .int .u64 0, .int .u64 0, .int .u64 0, .int .u64 0, .int .u64 0, .int .u64 0, .int .u64 0, .int .u64 0, .int .u64 0, .int .u64 0, .int .u64 0, .int .u64 0, .int .u64 0, .int .u64 0, .int .u64 0, .slice none 0 0]) 44)).setCells wB.heap.size 0 gx.toList = v := ⟨_, rfl⟩
  rw [hwC] at zx y3 yk yt yu GD rD rRD r2D
  have HWC := Lib.hid hwC
  clear hwC
  obtain ⟨gt, hgt⟩ : ∃ g, stC 77 2 10 2 0 s (.slice A1 pl.length c1) = g := ⟨_, rfl⟩
  obtain ⟨gu, hgu⟩ : ∃ g, stC 77 1 9 2 0 s (.slice A1 pl.length c1) = g := ⟨_, rfl⟩
  rw [show (stC 77 2 10 2 0 s (.slice A1 pl.length c1)).toList = gt.toList from by rw [hgt]] at yt
  rw [show (stC 77 1 9 2 0 s (.slice A1 pl.length c1)).toList = gu.toList from by rw [hgu]] at yu
  have HSLT : Hid ((Tryz.prog.info? 44).map (·.size) = some gt.toList.length) := Lib.hid (by rw [← hgt]; exact st_info)
  have HSLU : Hid ((Tryz.prog.info? 44).map (·.size) = some gu.toList.length) := Lib.hid (by rw [← hgu]; exact st_info)
  have hR4 : (rtL 5 1 4).length = 4 := rt_len _ _ _
  have va := fun (who at_ : Int) (hw : in64 who) (ha : in64 at_) W hW h1 h2 => stvalid_ok 1 (by omega) (rtL 5 1 4) RA Rc ((1 : Nat) : Int) 77 who at_ 2 0 s A1 c1 pl (by omega) hw ha ⟨by omega, by omega⟩ ⟨by omega, by omega⟩ (by rw [HPL.out]; omega) HSS.out HPB.out (by rw [hR4]; omega) (rt_lt _ _ _ (by omega)) W hW h1 h2
  have va1 := va 2 9 ⟨by omega, by omega⟩ ⟨by omega, by omega⟩
  have va2 := va 2 10 ⟨by omega, by omega⟩ ⟨by omega, by omega⟩
  have va3 := va 1 9 ⟨by omega, by omega⟩ ⟨by omega, by omega⟩
  have cyk := fun W => stkeys_ok 1 (rtL 5 1 4) RA Rc ((1 : Nat) : Int) (by rw [hR4]; omega) W
  simp only [HV1.out, HV2.out, HV3.out, hR4, cy_1] at va1 va2 va3 cyk
  simp only [show ((1 : Nat) : Int) = 1 from rfl, HKC.out, HGS.out, hgt, hgu] at va1 va2 va3 cyk
  have VA1 := Lib.hid va1
  have VA2 := Lib.hid va2
  have VA3 := Lib.hid va3
  have CYK := Lib.hid cyk
  have sq := fun W h1 h2 => stsame_eq 77 2 9 2 0 s A2 A1 c2 c1 pl (by rw [HPL.out]; omega) W h1 h2
  have sa := fun W h1 h2 => stsame_at 77 2 10 9 2 0 s A1 A1 c1 c1 pl (by rw [HPL.out]; omega) (by decide) W h1 h2
  simp only [HGX.out, HGS.out, hgt] at sq sa
  have SQ := Lib.hid sq
  have SA := Lib.hid sa
  have cw := fun W hW => stwords_ok 77 2 9 (by omega) ⟨by omega, by omega⟩ ⟨by omega, by omega⟩ W hW
  have cd := fun W hW => stdigest_ok 77 2 9 (by omega) ⟨by omega, by omega⟩ ⟨by omega, by omega⟩ W hW
  simp only [stW_9, stD_9, show ((77 : Nat) : Int) = 77 from rfl] at cw cd
  have CW := Lib.hid cw
  have CD := Lib.hid cd
  have ch := fun W => of_any ⟨#[115, 116, 97, 109, 112]⟩ ⟨#[124, 115, 116, 97, 109, 112, 124, 48, 48, 48, 48, 48, 48, 48, 48, 48, 48, 48, 48, 48, 48, 52, 100, 124, 50, 124, 57]⟩ (by decide) (by decide) W
  have e9 : sumL (⟨#[115, 116, 97, 109, 112]⟩ : ByteArray).data.toList (⟨#[124, 115, 116, 97, 109, 112, 124, 48, 48, 48, 48, 48, 48, 48, 48, 48, 48, 48, 48, 48, 48, 52, 100, 124, 50, 124, 57]⟩ : ByteArray).data.toList = 10245224531534997766 := by
    rw [← stD_9]; unfold stD; rw [stW_9]; rfl
  simp only [e9] at ch
  have CH := Lib.hid ch
  clear va va1 va2 va3 cyk sq sa cw cd ch e9 hgt hgu hR4
  have hmx := zx.cell
  have hm3 := y3.cell
  have hmk := yk.cell
  have hmt := yt.cell
  have hmu := yu.cell
  go_wp2_with (first
    | (with_reducible refine wpList_store_mid rfl 44 (.tmp 9) (.tmp 39) rfl wB.heap.size 0 gx rfl rfl HTX.out HSSX.out HOSX.out ?_; rw [HWC.out]; generalize wB.heap.size = q9 at *)
    | (refine wpList_load_mid_want (by rfl) 36 (.tmp 2) rfl qk 0 rfl kc.toList _ hmk hkt rfl HSKL.out ?_; simp only [Array.toArray_toList])
    | (refine wpList_load_mid_want (by rfl) 44 (.tmp 3) rfl q3 0 rfl gs.toList _ hm3 hut rfl HSL1.out ?_; simp only [Array.toArray_toList])
    | (refine wpList_load_mid_want (by rfl) 44 (.tmp 5) rfl q5 0 rfl gt.toList _ hmt hut rfl HSLT.out ?_; simp only [Array.toArray_toList])
    | (refine wpList_load_mid_want (by rfl) 44 (.tmp 6) rfl q6 0 rfl gu.toList _ hmu hut rfl HSLU.out ?_; simp only [Array.toArray_toList])
    | (refine wpList_load_mid_want (by rfl) 44 (.tmp 9) rfl q9 0 rfl gx.toList _ hmx hut rfl HSLX.out ?_; simp only [Array.toArray_toList]))
  refine (VA1.out _ (HS.out.grew GD) rRD rD).mono ?_
  rintro e wN ⟨rfl, gg⟩
  have zx' := zx.grew gg
  have y3' := y3.grew gg
  have yk' := yk.grew gg
  have yt' := yt.grew gg
  have yu' := yu.grew gg
  have GD' := grew_trans GD gg
  have rD' := rD.gr gg
  have rRD' := rRD.gr gg
  have r2D' := r2D.gr gg
  clear zx y3 yk yt yu GD rD rRD r2D hmx hm3 hmk hmt hmu gg
  have zx := zx'
  have y3 := y3'
  have yk := yk'
  have yt := yt'
  have yu := yu'
  have GD := GD'
  have rD := rD'
  have rRD := rRD'
  have r2D := r2D'
  clear zx' y3' yk' yt' yu' GD' rD' rRD' r2D'
  have hmx := zx.cell
  have hm3 := y3.cell
  have hmk := yk.cell
  have hmt := yt.cell
  have hmu := yu.cell
  go_wp2_with (first
    | (refine wpList_load_mid_want (by rfl) 36 (.tmp 2) rfl qk 0 rfl kc.toList _ hmk hkt rfl HSKL.out ?_; simp only [Array.toArray_toList])
    | (refine wpList_load_mid_want (by rfl) 44 (.tmp 3) rfl q3 0 rfl gs.toList _ hm3 hut rfl HSL1.out ?_; simp only [Array.toArray_toList])
    | (refine wpList_load_mid_want (by rfl) 44 (.tmp 5) rfl q5 0 rfl gt.toList _ hmt hut rfl HSLT.out ?_; simp only [Array.toArray_toList])
    | (refine wpList_load_mid_want (by rfl) 44 (.tmp 6) rfl q6 0 rfl gu.toList _ hmu hut rfl HSLU.out ?_; simp only [Array.toArray_toList])
    | (refine wpList_load_mid_want (by rfl) 44 (.tmp 9) rfl q9 0 rfl gx.toList _ hmx hut rfl HSLX.out ?_; simp only [Array.toArray_toList]))
  refine (VA2.out _ (HS.out.grew GD) rRD rD).mono ?_
  rintro e wN ⟨rfl, gg⟩
  have zx' := zx.grew gg
  have y3' := y3.grew gg
  have yk' := yk.grew gg
  have yt' := yt.grew gg
  have yu' := yu.grew gg
  have GD' := grew_trans GD gg
  have rD' := rD.gr gg
  have rRD' := rRD.gr gg
  have r2D' := r2D.gr gg
  clear zx y3 yk yt yu GD rD rRD r2D hmx hm3 hmk hmt hmu gg
  have zx := zx'
  have y3 := y3'
  have yk := yk'
  have yt := yt'
  have yu := yu'
  have GD := GD'
  have rD := rD'
  have rRD := rRD'
  have r2D := r2D'
  clear zx' y3' yk' yt' yu' GD' rD' rRD' r2D'
  have hmx := zx.cell
  have hm3 := y3.cell
  have hmk := yk.cell
  have hmt := yt.cell
  have hmu := yu.cell
  go_wp2_with (first
    | (refine wpList_load_mid_want (by rfl) 36 (.tmp 2) rfl qk 0 rfl kc.toList _ hmk hkt rfl HSKL.out ?_; simp only [Array.toArray_toList])
    | (refine wpList_load_mid_want (by rfl) 44 (.tmp 3) rfl q3 0 rfl gs.toList _ hm3 hut rfl HSL1.out ?_; simp only [Array.toArray_toList])
    | (refine wpList_load_mid_want (by rfl) 44 (.tmp 5) rfl q5 0 rfl gt.toList _ hmt hut rfl HSLT.out ?_; simp only [Array.toArray_toList])
    | (refine wpList_load_mid_want (by rfl) 44 (.tmp 6) rfl q6 0 rfl gu.toList _ hmu hut rfl HSLU.out ?_; simp only [Array.toArray_toList])
    | (refine wpList_load_mid_want (by rfl) 44 (.tmp 9) rfl q9 0 rfl gx.toList _ hmx hut rfl HSLX.out ?_; simp only [Array.toArray_toList]))
  refine (VA3.out _ (HS.out.grew GD) rRD rD).mono ?_
  rintro e wN ⟨rfl, gg⟩
  have zx' := zx.grew gg
  have y3' := y3.grew gg
  have yk' := yk.grew gg
  have yt' := yt.grew gg
  have yu' := yu.grew gg
  have GD' := grew_trans GD gg
  have rD' := rD.gr gg
  have rRD' := rRD.gr gg
  have r2D' := r2D.gr gg
  clear zx y3 yk yt yu GD rD rRD r2D hmx hm3 hmk hmt hmu gg
  have zx := zx'
  have y3 := y3'
  have yk := yk'
  have yt := yt'
  have yu := yu'
  have GD := GD'
  have rD := rD'
  have rRD := rRD'
  have r2D := r2D'
  clear zx' y3' yk' yt' yu' GD' rD' rRD' r2D'
  have hmx := zx.cell
  have hm3 := y3.cell
  have hmk := yk.cell
  have hmt := yt.cell
  have hmu := yu.cell
  go_wp2_with (first
    | (refine wpList_load_mid_want (by rfl) 36 (.tmp 2) rfl qk 0 rfl kc.toList _ hmk hkt rfl HSKL.out ?_; simp only [Array.toArray_toList])
    | (refine wpList_load_mid_want (by rfl) 44 (.tmp 3) rfl q3 0 rfl gs.toList _ hm3 hut rfl HSL1.out ?_; simp only [Array.toArray_toList])
    | (refine wpList_load_mid_want (by rfl) 44 (.tmp 5) rfl q5 0 rfl gt.toList _ hmt hut rfl HSLT.out ?_; simp only [Array.toArray_toList])
    | (refine wpList_load_mid_want (by rfl) 44 (.tmp 6) rfl q6 0 rfl gu.toList _ hmu hut rfl HSLU.out ?_; simp only [Array.toArray_toList])
    | (refine wpList_load_mid_want (by rfl) 44 (.tmp 9) rfl q9 0 rfl gx.toList _ hmx hut rfl HSLX.out ?_; simp only [Array.toArray_toList]))
  refine (SQ.out _ r2D rD).mono ?_
  rintro e wN ⟨rfl, gg⟩
  have zx' := zx.grew gg
  have y3' := y3.grew gg
  have yk' := yk.grew gg
  have yt' := yt.grew gg
  have yu' := yu.grew gg
  have GD' := grew_trans GD gg
  have rD' := rD.gr gg
  have rRD' := rRD.gr gg
  have r2D' := r2D.gr gg
  clear zx y3 yk yt yu GD rD rRD r2D hmx hm3 hmk hmt hmu gg
  have zx := zx'
  have y3 := y3'
  have yk := yk'
  have yt := yt'
  have yu := yu'
  have GD := GD'
  have rD := rD'
  have rRD := rRD'
  have r2D := r2D'
  clear zx' y3' yk' yt' yu' GD' rD' rRD' r2D'
  have hmx := zx.cell
  have hm3 := y3.cell
  have hmk := yk.cell
  have hmt := yt.cell
  have hmu := yu.cell
  go_wp2_with (first
    | (refine wpList_load_mid_want (by rfl) 36 (.tmp 2) rfl qk 0 rfl kc.toList _ hmk hkt rfl HSKL.out ?_; simp only [Array.toArray_toList])
    | (refine wpList_load_mid_want (by rfl) 44 (.tmp 3) rfl q3 0 rfl gs.toList _ hm3 hut rfl HSL1.out ?_; simp only [Array.toArray_toList])
    | (refine wpList_load_mid_want (by rfl) 44 (.tmp 5) rfl q5 0 rfl gt.toList _ hmt hut rfl HSLT.out ?_; simp only [Array.toArray_toList])
    | (refine wpList_load_mid_want (by rfl) 44 (.tmp 6) rfl q6 0 rfl gu.toList _ hmu hut rfl HSLU.out ?_; simp only [Array.toArray_toList])
    | (refine wpList_load_mid_want (by rfl) 44 (.tmp 9) rfl q9 0 rfl gx.toList _ hmx hut rfl HSLX.out ?_; simp only [Array.toArray_toList]))
  refine (SA.out _ rD rD).mono ?_
  rintro e wN ⟨rfl, gg⟩
  have zx' := zx.grew gg
  have y3' := y3.grew gg
  have yk' := yk.grew gg
  have yt' := yt.grew gg
  have yu' := yu.grew gg
  have GD' := grew_trans GD gg
  have rD' := rD.gr gg
  have rRD' := rRD.gr gg
  have r2D' := r2D.gr gg
  clear zx y3 yk yt yu GD rD rRD r2D hmx hm3 hmk hmt hmu gg
  have zx := zx'
  have y3 := y3'
  have yk := yk'
  have yt := yt'
  have yu := yu'
  have GD := GD'
  have rD := rD'
  have rRD := rRD'
  have r2D := r2D'
  clear zx' y3' yk' yt' yu' GD' rD' rRD' r2D'
  have hmx := zx.cell
  have hm3 := y3.cell
  have hmk := yk.cell
  have hmt := yt.cell
  have hmu := yu.cell
  go_wp2_with (first
    | (refine wpList_load_mid_want (by rfl) 36 (.tmp 2) rfl qk 0 rfl kc.toList _ hmk hkt rfl HSKL.out ?_; simp only [Array.toArray_toList])
    | (refine wpList_load_mid_want (by rfl) 44 (.tmp 3) rfl q3 0 rfl gs.toList _ hm3 hut rfl HSL1.out ?_; simp only [Array.toArray_toList])
    | (refine wpList_load_mid_want (by rfl) 44 (.tmp 5) rfl q5 0 rfl gt.toList _ hmt hut rfl HSLT.out ?_; simp only [Array.toArray_toList])
    | (refine wpList_load_mid_want (by rfl) 44 (.tmp 6) rfl q6 0 rfl gu.toList _ hmu hut rfl HSLU.out ?_; simp only [Array.toArray_toList])
    | (refine wpList_load_mid_want (by rfl) 44 (.tmp 9) rfl q9 0 rfl gx.toList _ hmx hut rfl HSLX.out ?_; simp only [Array.toArray_toList]))
  refine (CYK.out _).mono ?_
  rintro e wN ⟨rfl, gg⟩
  have zx' := zx.grew gg
  have y3' := y3.grew gg
  have yk' := yk.grew gg
  have yt' := yt.grew gg
  have yu' := yu.grew gg
  have GD' := grew_trans GD gg
  have rD' := rD.gr gg
  have rRD' := rRD.gr gg
  have r2D' := r2D.gr gg
  clear zx y3 yk yt yu GD rD rRD r2D hmx hm3 hmk hmt hmu gg
  have zx := zx'
  have y3 := y3'
  have yk := yk'
  have yt := yt'
  have yu := yu'
  have GD := GD'
  have rD := rD'
  have rRD := rRD'
  have r2D := r2D'
  clear zx' y3' yk' yt' yu' GD' rD' rRD' r2D'
  have hmx := zx.cell
  have hm3 := y3.cell
  have hmk := yk.cell
  have hmt := yt.cell
  have hmu := yu.cell
  go_wp2_with (first
    | (refine wpList_load_mid_want (by rfl) 36 (.tmp 2) rfl qk 0 rfl kc.toList _ hmk hkt rfl HSKL.out ?_; simp only [Array.toArray_toList])
    | (refine wpList_load_mid_want (by rfl) 44 (.tmp 3) rfl q3 0 rfl gs.toList _ hm3 hut rfl HSL1.out ?_; simp only [Array.toArray_toList])
    | (refine wpList_load_mid_want (by rfl) 44 (.tmp 5) rfl q5 0 rfl gt.toList _ hmt hut rfl HSLT.out ?_; simp only [Array.toArray_toList])
    | (refine wpList_load_mid_want (by rfl) 44 (.tmp 6) rfl q6 0 rfl gu.toList _ hmu hut rfl HSLU.out ?_; simp only [Array.toArray_toList])
    | (refine wpList_load_mid_want (by rfl) 44 (.tmp 9) rfl q9 0 rfl gx.toList _ hmx hut rfl HSLX.out ?_; simp only [Array.toArray_toList]))
  refine (CW.out _ (HS.out.grew GD)).mono ?_
  rintro e wN ⟨rfl, gg⟩
  have zx' := zx.grew gg
  have y3' := y3.grew gg
  have yk' := yk.grew gg
  have yt' := yt.grew gg
  have yu' := yu.grew gg
  have GD' := grew_trans GD gg
  have rD' := rD.gr gg
  have rRD' := rRD.gr gg
  have r2D' := r2D.gr gg
  clear zx y3 yk yt yu GD rD rRD r2D hmx hm3 hmk hmt hmu gg
  have zx := zx'
  have y3 := y3'
  have yk := yk'
  have yt := yt'
  have yu := yu'
  have GD := GD'
  have rD := rD'
  have rRD := rRD'
  have r2D := r2D'
  clear zx' y3' yk' yt' yu' GD' rD' rRD' r2D'
  have hmx := zx.cell
  have hm3 := y3.cell
  have hmk := yk.cell
  have hmt := yt.cell
  have hmu := yu.cell
  go_wp2_with (first
    | (refine wpList_load_mid_want (by rfl) 36 (.tmp 2) rfl qk 0 rfl kc.toList _ hmk hkt rfl HSKL.out ?_; simp only [Array.toArray_toList])
    | (refine wpList_load_mid_want (by rfl) 44 (.tmp 3) rfl q3 0 rfl gs.toList _ hm3 hut rfl HSL1.out ?_; simp only [Array.toArray_toList])
    | (refine wpList_load_mid_want (by rfl) 44 (.tmp 5) rfl q5 0 rfl gt.toList _ hmt hut rfl HSLT.out ?_; simp only [Array.toArray_toList])
    | (refine wpList_load_mid_want (by rfl) 44 (.tmp 6) rfl q6 0 rfl gu.toList _ hmu hut rfl HSLU.out ?_; simp only [Array.toArray_toList])
    | (refine wpList_load_mid_want (by rfl) 44 (.tmp 9) rfl q9 0 rfl gx.toList _ hmx hut rfl HSLX.out ?_; simp only [Array.toArray_toList]))
  refine (CD.out _ (HS.out.grew GD)).mono ?_
  rintro e wN ⟨rfl, gg⟩
  have zx' := zx.grew gg
  have y3' := y3.grew gg
  have yk' := yk.grew gg
  have yt' := yt.grew gg
  have yu' := yu.grew gg
  have GD' := grew_trans GD gg
  have rD' := rD.gr gg
  have rRD' := rRD.gr gg
  have r2D' := r2D.gr gg
  clear zx y3 yk yt yu GD rD rRD r2D hmx hm3 hmk hmt hmu gg
  have zx := zx'
  have y3 := y3'
  have yk := yk'
  have yt := yt'
  have yu := yu'
  have GD := GD'
  have rD := rD'
  have rRD := rRD'
  have r2D := r2D'
  clear zx' y3' yk' yt' yu' GD' rD' rRD' r2D'
  have hmx := zx.cell
  have hm3 := y3.cell
  have hmk := yk.cell
  have hmt := yt.cell
  have hmu := yu.cell
  go_wp2_with (first
    | (refine wpList_load_mid_want (by rfl) 36 (.tmp 2) rfl qk 0 rfl kc.toList _ hmk hkt rfl HSKL.out ?_; simp only [Array.toArray_toList])
    | (refine wpList_load_mid_want (by rfl) 44 (.tmp 3) rfl q3 0 rfl gs.toList _ hm3 hut rfl HSL1.out ?_; simp only [Array.toArray_toList])
    | (refine wpList_load_mid_want (by rfl) 44 (.tmp 5) rfl q5 0 rfl gt.toList _ hmt hut rfl HSLT.out ?_; simp only [Array.toArray_toList])
    | (refine wpList_load_mid_want (by rfl) 44 (.tmp 6) rfl q6 0 rfl gu.toList _ hmu hut rfl HSLU.out ?_; simp only [Array.toArray_toList])
    | (refine wpList_load_mid_want (by rfl) 44 (.tmp 9) rfl q9 0 rfl gx.toList _ hmx hut rfl HSLX.out ?_; simp only [Array.toArray_toList]))
  refine (CW.out _ (HS.out.grew GD)).mono ?_
  rintro e wN ⟨rfl, gg⟩
  have zx' := zx.grew gg
  have y3' := y3.grew gg
  have yk' := yk.grew gg
  have yt' := yt.grew gg
  have yu' := yu.grew gg
  have GD' := grew_trans GD gg
  have rD' := rD.gr gg
  have rRD' := rRD.gr gg
  have r2D' := r2D.gr gg
  clear zx y3 yk yt yu GD rD rRD r2D hmx hm3 hmk hmt hmu gg
  have zx := zx'
  have y3 := y3'
  have yk := yk'
  have yt := yt'
  have yu := yu'
  have GD := GD'
  have rD := rD'
  have rRD := rRD'
  have r2D := r2D'
  clear zx' y3' yk' yt' yu' GD' rD' rRD' r2D'
  have hmx := zx.cell
  have hm3 := y3.cell
  have hmk := yk.cell
  have hmt := yt.cell
  have hmu := yu.cell
  go_wp2_with (first
    | (refine wpList_load_mid_want (by rfl) 36 (.tmp 2) rfl qk 0 rfl kc.toList _ hmk hkt rfl HSKL.out ?_; simp only [Array.toArray_toList])
    | (refine wpList_load_mid_want (by rfl) 44 (.tmp 3) rfl q3 0 rfl gs.toList _ hm3 hut rfl HSL1.out ?_; simp only [Array.toArray_toList])
    | (refine wpList_load_mid_want (by rfl) 44 (.tmp 5) rfl q5 0 rfl gt.toList _ hmt hut rfl HSLT.out ?_; simp only [Array.toArray_toList])
    | (refine wpList_load_mid_want (by rfl) 44 (.tmp 6) rfl q6 0 rfl gu.toList _ hmu hut rfl HSLU.out ?_; simp only [Array.toArray_toList])
    | (refine wpList_load_mid_want (by rfl) 44 (.tmp 9) rfl q9 0 rfl gx.toList _ hmx hut rfl HSLX.out ?_; simp only [Array.toArray_toList]))
  refine (CH.out _).mono ?_
  rintro e w' ⟨rfl, rfl⟩
  go_wp2_with fail
  go_ret
  exact ⟨by simp, GD⟩
end Go.Proofs.YtaeopobofmpioaaGreatDoor

namespace Go.Proofs.YtaeopobofmpioaaGreatDoor
set_option linter.unusedSimpArgs false
set_option linter.unusedVariables false
open Go.RowKit
set_option linter.unusedVariables false
set_option linter.unusedSimpArgs false
set_option maxRecDepth 100000 in
set_option maxHeartbeats 1000000 in
theorem stparse_split (tj : ByteArray) (hz : tj.size ≤ 1000000) (hno : ∀ x0 x1 x2 x3, splitF tj.data.toList ≠ some [x0, x1, x2, x3]) (w : World) :
    Calls Tryz.prog 28 #[.string tj] w fun e w' => (∃ A c, e = .returned (.tuple #[.agg ((stO tj.data.toList).v (.slice A (stO tj.data.toList).g.2.2.length c)), .int .i64 (stE tj.data.toList)]) ∧ Rd w' w'.heap.size A (u64L (stO tj.data.toList).g.2.2) ∧ (∀ ad, A = some ad → w.heap.size < ad.block)) ∧ Grew w w' := by
  have hut := Tryz.underlying44
  have hus := Tryz.underlying42
  have bz : ∀ W, (Instr.build 44 #[]).run Tryz.prog W = .ok (.agg (#[.int .u64 0, .int .i64 0, .int .i64 0, .int .i64 0, .int .i64 0, .int .u64 0, .int .u64 0, .int .u64 0, .int .u64 0, .int .u64 0, .int .u64 0, .int .u64 0, .int .u64 0, .int .u64 0, .int .u64 0, .int .u64 0, .int .u64 0, .int .u64 0, .int .u64 0, .int .u64 0, .int .u64 0, .int .u64 0, .int .u64 0, .slice none 0 0])) W := fun W => run_build W 44 #[] _ st_zero
  have HSI : Hid ((Tryz.prog.info? 44).map (·.size) = some (#[.int .u64 0, .int .i64 0, .int .i64 0, .int .i64 0, .int .i64 0, .int .u64 0, .int .u64 0, .int .u64 0, .int .u64 0, .int .u64 0, .int .u64 0, .int .u64 0, .int .u64 0, .int .u64 0, .int .u64 0, .int .u64 0, .int .u64 0, .int .u64 0, .int .u64 0, .int .u64 0, .int .u64 0, .int .u64 0, .int .u64 0, .slice none 0 0] : Array Value).size) := Lib.hid st_info
  have HSIL : Hid ((Tryz.prog.info? 44).map (·.size) = some (#[.int .u64 0, .int .i64 0, .int .i64 0, .int .i64 0, .int .i64 0, .int .u64 0, .int .u64 0, .int .u64 0, .int .u64 0, .int .u64 0, .int .u64 0, .int .u64 0, .int .u64 0, .int .u64 0, .int .u64 0, .int .u64 0, .int .u64 0, .int .u64 0, .int .u64 0, .int .u64 0, .int .u64 0, .int .u64 0, .int .u64 0, .slice none 0 0] : Array Value).toList.length) := Lib.hid st_info
  have HON : Hid ((#[.int .u64 0, .int .i64 0, .int .i64 0, .int .i64 0, .int .i64 0, .int .u64 0, .int .u64 0, .int .u64 0, .int .u64 0, .int .u64 0, .int .u64 0, .int .u64 0, .int .u64 0, .int .u64 0, .int .u64 0, .int .u64 0, .int .u64 0, .int .u64 0, .int .u64 0, .int .u64 0, .int .u64 0, .int .u64 0, .int .u64 0, .slice none 0 0] : Array Value).all (·.oneCell') = true) := Lib.hid (by simp [Value.oneCell'])
  have z0 := Ag.new w 44 (#[.int .u64 0, .int .i64 0, .int .i64 0, .int .i64 0, .int .i64 0, .int .u64 0, .int .u64 0, .int .u64 0, .int .u64 0, .int .u64 0, .int .u64 0, .int .u64 0, .int .u64 0, .int .u64 0, .int .u64 0, .int .u64 0, .int .u64 0, .int .u64 0, .int .u64 0, .int .u64 0, .int .u64 0, .int .u64 0, .int .u64 0, .slice none 0 0])
  have g0 := grew_alloc (grew_refl w) (.cells (#[.int .u64 0, .int .i64 0, .int .i64 0, .int .i64 0, .int .i64 0, .int .u64 0, .int .u64 0, .int .u64 0, .int .u64 0, .int .u64 0, .int .u64 0, .int .u64 0, .int .u64 0, .int .u64 0, .int .u64 0, .int .u64 0, .int .u64 0, .int .u64 0, .int .u64 0, .int .u64 0, .int .u64 0, .int .u64 0, .int .u64 0, .slice none 0 0]) 44)
  have CS := Lib.hid (fun W => split_ok tj (by omega) W)
  go_enter Tryz.func28, Tryz.ntmps28
  go_wp2_with fail
  refine (CS.out _).mono ?_
  rintro e w1 ⟨hs, gg⟩
  have z1 := z0.grew gg
  have g1 := grew_trans g0 gg
  have HTH : Hid (w1.there w.heap.size 0 (#[.int .u64 0, .int .i64 0, .int .i64 0, .int .i64 0, .int .i64 0, .int .u64 0, .int .u64 0, .int .u64 0, .int .u64 0, .int .u64 0, .int .u64 0, .int .u64 0, .int .u64 0, .int .u64 0, .int .u64 0, .int .u64 0, .int .u64 0, .int .u64 0, .int .u64 0, .int .u64 0, .int .u64 0, .int .u64 0, .int .u64 0, .slice none 0 0] : Array Value).size) := Lib.hid (z1.thereN 24 rfl)
  have zZ := Ag.set (vs := (#[.int .u64 0, .int .i64 0, .int .i64 0, .int .i64 0, .int .i64 0, .int .u64 0, .int .u64 0, .int .u64 0, .int .u64 0, .int .u64 0, .int .u64 0, .int .u64 0, .int .u64 0, .int .u64 0, .int .u64 0, .int .u64 0, .int .u64 0, .int .u64 0, .int .u64 0, .int .u64 0, .int .u64 0, .int .u64 0, .int .u64 0, .slice none 0 0] : Array Value).toList) z1 rfl
  have gZ := setCells_grew (o := 0) (b := w.heap.size) (#[.int .u64 0, .int .i64 0, .int .i64 0, .int .i64 0, .int .i64 0, .int .u64 0, .int .u64 0, .int .u64 0, .int .u64 0, .int .u64 0, .int .u64 0, .int .u64 0, .int .u64 0, .int .u64 0, .int .u64 0, .int .u64 0, .int .u64 0, .int .u64 0, .int .u64 0, .int .u64 0, .int .u64 0, .int .u64 0, .int .u64 0, .slice none 0 0] : Array Value).toList g1 (Nat.le_refl _)
  clear CS z0 g0 gg z1 g1
  rcases hs with ⟨h1, rfl⟩ | ⟨l, h1, ⟨h2, rfl⟩ | ⟨h2, v, rfl, o1⟩⟩
  · have HE := Lib.hid (stE_none h1)
    clear h1
    go_wp2_with (first
      | (with_reducible refine wpList_store_mid rfl 44 (.tmp 2) (.tmp 19) rfl w.heap.size 0 (#[.int .u64 0, .int .i64 0, .int .i64 0, .int .i64 0, .int .i64 0, .int .u64 0, .int .u64 0, .int .u64 0, .int .u64 0, .int .u64 0, .int .u64 0, .int .u64 0, .int .u64 0, .int .u64 0, .int .u64 0, .int .u64 0, .int .u64 0, .int .u64 0, .int .u64 0, .int .u64 0, .int .u64 0, .int .u64 0, .int .u64 0, .slice none 0 0]) rfl rfl HTH.out HSI.out HON.out ?_))
    exact bodyPost_ret (results_ag2 Tryz.results28 _ _ w.heap.size _ _ _ rfl rfl zZ hut rfl HSIL.out) rfl ⟨⟨none, 0, by rw [HE.out.1, HE.out.2]; rfl, by rw [HE.out.2]; exact fun k hk => absurd hk (by simp [StR.zero, u64L]), fun ad h => by cases h⟩, gZ⟩
  · have HE := Lib.hid (stE_long h1 h2)
    clear h1 h2
    go_wp2_with (first
      | (with_reducible refine wpList_store_mid rfl 44 (.tmp 2) (.tmp 19) rfl w.heap.size 0 (#[.int .u64 0, .int .i64 0, .int .i64 0, .int .i64 0, .int .i64 0, .int .u64 0, .int .u64 0, .int .u64 0, .int .u64 0, .int .u64 0, .int .u64 0, .int .u64 0, .int .u64 0, .int .u64 0, .int .u64 0, .int .u64 0, .int .u64 0, .int .u64 0, .int .u64 0, .int .u64 0, .int .u64 0, .int .u64 0, .int .u64 0, .slice none 0 0]) rfl rfl HTH.out HSI.out HON.out ?_))
    exact bodyPost_ret (results_ag2 Tryz.results28 _ _ w.heap.size _ _ _ rfl rfl zZ hut rfl HSIL.out) rfl ⟨⟨none, 0, by rw [HE.out.1, HE.out.2]; rfl, by rw [HE.out.2]; exact fun k hk => absurd hk (by simp [StR.zero, u64L]), fun ad h => by cases h⟩, gZ⟩
  · have hl4 : l.length ≠ 4 := fun h4 => by
      match l, h4 with
      | [a, b, c, d], _ => exact hno a b c d h1
    have HE := Lib.hid (stE_len h1 h2 hl4)
    obtain ⟨A4, c4, rfl, -, -, -⟩ := own_rd o1
    have e4 : ((l.length : Int) != 4) = true := by simp; omega
    clear o1 h1 h2 hl4
    go_wp2_with (first
      | (with_reducible refine wpList_store_mid rfl 44 (.tmp 2) (.tmp 24) rfl w.heap.size 0 (#[.int .u64 0, .int .i64 0, .int .i64 0, .int .i64 0, .int .i64 0, .int .u64 0, .int .u64 0, .int .u64 0, .int .u64 0, .int .u64 0, .int .u64 0, .int .u64 0, .int .u64 0, .int .u64 0, .int .u64 0, .int .u64 0, .int .u64 0, .int .u64 0, .int .u64 0, .int .u64 0, .int .u64 0, .int .u64 0, .int .u64 0, .slice none 0 0]) rfl rfl HTH.out HSI.out HON.out ?_))
    exact bodyPost_ret (results_ag2 Tryz.results28 _ _ w.heap.size _ _ _ rfl rfl zZ hut rfl HSIL.out) rfl ⟨⟨none, 0, by rw [HE.out.1, HE.out.2]; rfl, by rw [HE.out.2]; exact fun k hk => absurd hk (by simp [StR.zero, u64L]), fun ad h => by cases h⟩, gZ⟩
set_option maxRecDepth 100000 in
set_option maxHeartbeats 4000000 in
theorem stparse_four (tj : ByteArray) (x0 x1 x2 x3 : List UInt8) (hsp : splitF tj.data.toList = some [x0, x1, x2, x3]) (hz : tj.size ≤ 1000000) (l0 : x0.length ≤ 1000000) (l1 : x1.length ≤ 1000000) (l2 : x2.length ≤ 1000000) (l3 : x3.length ≤ 1000000) (w : World) (hS : Std w) :
    Calls Tryz.prog 28 #[.string tj] w fun e w' => (∃ A c, e = .returned (.tuple #[.agg ((stO tj.data.toList).v (.slice A (stO tj.data.toList).g.2.2.length c)), .int .i64 (stE tj.data.toList)]) ∧ Rd w' w'.heap.size A (u64L (stO tj.data.toList).g.2.2) ∧ (∀ ad, A = some ad → w.heap.size < ad.block)) ∧ Grew w w' := by
  have HS := Lib.hid hS
  have HE0 := stE_four hsp
  have CS := Lib.hid (fun W => split_some (s := tj) (l := [x0, x1, x2, x3]) hsp (by simp) (by omega) W)
  rw [show txt [x0, x1, x2, x3] = [⟨x0.toArray⟩, ⟨x1.toArray⟩, ⟨x2.toArray⟩, ⟨x3.toArray⟩] from rfl] at CS
  have N1 := (fun W hW => parseNum_ok ⟨x1.toArray⟩ (by show x1.toArray.size ≤ _; simp; omega) W hW)
  have N2 := (fun W hW => parseNum_ok ⟨x2.toArray⟩ (by show x2.toArray.size ≤ _; simp; omega) W hW)
  have HP := (fun W => parse_any ⟨x0.toArray⟩ W)
  have KP := (fun W hW => kparse_fr2 ⟨x3.toArray⟩ (by show x3.toArray.size ≤ _; simp; omega) W hW)
  unfold st4 stF at HE0
  simp only [show (⟨x0.toArray⟩ : ByteArray).data.toList = x0 from rfl, show (⟨x1.toArray⟩ : ByteArray).data.toList = x1 from rfl, show (⟨x2.toArray⟩ : ByteArray).data.toList = x2 from rfl, show (⟨x3.toArray⟩ : ByteArray).data.toList = x3 from rfl, pnumRes] at N1 N2 HP KP
  clear hsp
  generalize (⟨x0.toArray⟩ : ByteArray) = t0 at *
  generalize (⟨x1.toArray⟩ : ByteArray) = t1 at *
  generalize (⟨x2.toArray⟩ : ByteArray) = t2 at *
  generalize (⟨x3.toArray⟩ : ByteArray) = t3 at *
  generalize (pnum x1).1 = n1 at *
  generalize (pnum x1).2 = a1 at *
  generalize (pnum x2).1 = n2 at *
  generalize (pnum x2).2 = a2 at *
  generalize parseO x0 = o0 at *
  have HO3 : Hid (sgE (sigP x3) = if (sigP x3).isSome = true then 0 else 2) := Lib.hid rfl
  generalize sgE (sigP x3) = e3 at *
  generalize (sigP x3).isSome = b3 at *
  generalize sgO (sigP x3) = X at *
  obtain ⟨⟨sw, lf⟩, s, l⟩ := X
  dsimp only at KP HE0
  replace N1 := Lib.hid N1
  replace N2 := Lib.hid N2
  replace HP := Lib.hid HP
  replace KP := Lib.hid KP
  replace HE0 := Lib.hid HE0
  have HEZ : ∀ b : Bool, b = false → stE tj.data.toList = (if b = true then 0 else 2) ∧ stO tj.data.toList = (if b = true then (⟨o0.getD 0, n1, n2, ((sw, lf), s, l)⟩ : StR) else .zero) → Hid (stE tj.data.toList = 2 ∧ stO tj.data.toList = .zero) := fun b hb h => Lib.hid (by rw [hb] at h; exact h)
  generalize stE tj.data.toList = eS at *
  generalize stO tj.data.toList = oS at *
  clear hS l0 l1 l2 l3 hz
  have hut := Tryz.underlying44
  have hus := Tryz.underlying42
  have bz : ∀ W, (Instr.build 44 #[]).run Tryz.prog W = .ok (.agg (#[.int .u64 0, .int .i64 0, .int .i64 0, .int .i64 0, .int .i64 0, .int .u64 0, .int .u64 0, .int .u64 0, .int .u64 0, .int .u64 0, .int .u64 0, .int .u64 0, .int .u64 0, .int .u64 0, .int .u64 0, .int .u64 0, .int .u64 0, .int .u64 0, .int .u64 0, .int .u64 0, .int .u64 0, .int .u64 0, .int .u64 0, .slice none 0 0])) W := fun W => run_build W 44 #[] _ st_zero
  have HSI : Hid ((Tryz.prog.info? 44).map (·.size) = some (#[.int .u64 0, .int .i64 0, .int .i64 0, .int .i64 0, .int .i64 0, .int .u64 0, .int .u64 0, .int .u64 0, .int .u64 0, .int .u64 0, .int .u64 0, .int .u64 0, .int .u64 0, .int .u64 0, .int .u64 0, .int .u64 0, .int .u64 0, .int .u64 0, .int .u64 0, .int .u64 0, .int .u64 0, .int .u64 0, .int .u64 0, .slice none 0 0] : Array Value).size) := Lib.hid st_info
  have HSIL : Hid ((Tryz.prog.info? 44).map (·.size) = some (#[.int .u64 0, .int .i64 0, .int .i64 0, .int .i64 0, .int .i64 0, .int .u64 0, .int .u64 0, .int .u64 0, .int .u64 0, .int .u64 0, .int .u64 0, .int .u64 0, .int .u64 0, .int .u64 0, .int .u64 0, .int .u64 0, .int .u64 0, .int .u64 0, .int .u64 0, .int .u64 0, .int .u64 0, .int .u64 0, .int .u64 0, .slice none 0 0] : Array Value).toList.length) := Lib.hid st_info
  have HON : Hid ((#[.int .u64 0, .int .i64 0, .int .i64 0, .int .i64 0, .int .i64 0, .int .u64 0, .int .u64 0, .int .u64 0, .int .u64 0, .int .u64 0, .int .u64 0, .int .u64 0, .int .u64 0, .int .u64 0, .int .u64 0, .int .u64 0, .int .u64 0, .int .u64 0, .int .u64 0, .int .u64 0, .int .u64 0, .int .u64 0, .int .u64 0, .slice none 0 0] : Array Value).all (·.oneCell') = true) := Lib.hid (by simp [Value.oneCell'])
  have z0 := Ag.new w 44 (#[.int .u64 0, .int .i64 0, .int .i64 0, .int .i64 0, .int .i64 0, .int .u64 0, .int .u64 0, .int .u64 0, .int .u64 0, .int .u64 0, .int .u64 0, .int .u64 0, .int .u64 0, .int .u64 0, .int .u64 0, .int .u64 0, .int .u64 0, .int .u64 0, .int .u64 0, .int .u64 0, .int .u64 0, .int .u64 0, .int .u64 0, .slice none 0 0])
  have g0 := grew_alloc (grew_refl w) (.cells (#[.int .u64 0, .int .i64 0, .int .i64 0, .int .i64 0, .int .i64 0, .int .u64 0, .int .u64 0, .int .u64 0, .int .u64 0, .int .u64 0, .int .u64 0, .int .u64 0, .int .u64 0, .int .u64 0, .int .u64 0, .int .u64 0, .int .u64 0, .int .u64 0, .int .u64 0, .int .u64 0, .int .u64 0, .int .u64 0, .int .u64 0, .slice none 0 0]) 44)
  go_enter Tryz.func28, Tryz.ntmps28
  go_wp2_with fail
  refine (CS.out _).mono ?_
  rintro e w1 ⟨⟨v1, rfl, o1⟩, gg⟩
  have z1 := z0.grew gg
  have g1 := grew_trans g0 gg
  obtain ⟨g, k1, rfl, hk1, hgl, hcs⟩ := own_cells o1 (by simp)
  have x0 : w1.cell? ⟨g, 0, none⟩ = some (.string t0) := by simpa using hcs 0 (.string t0) rfl
  have x1 : w1.cell? ⟨g, 1, none⟩ = some (.string t1) := by simpa using hcs 1 (.string t1) rfl
  have x2 : w1.cell? ⟨g, 2, none⟩ = some (.string t2) := by simpa using hcs 2 (.string t2) rfl
  have x3 : w1.cell? ⟨g, 3, none⟩ = some (.string t3) := by simpa using hcs 3 (.string t3) rfl
  clear CS z0 g0 gg o1 hcs
  have hk1' : (4 : Int) ≤ (k1 : Int) := by
    have : 4 ≤ k1 := hk1
    omega
  go_wp2_with fail
  refine (N1.out _ (HS.out.grew g1)).mono ?_
  rintro e w2 ⟨rfl, gg⟩
  have y0 := (gg.cell (p := ⟨g, 0, none⟩) hgl).trans x0
  have y2 := (gg.cell (p := ⟨g, 2, none⟩) hgl).trans x2
  have y3 := (gg.cell (p := ⟨g, 3, none⟩) hgl).trans x3
  have hgl2 := Nat.lt_of_lt_of_le hgl gg.size
  have z2 := z1.grew gg
  have g2 := grew_trans g1 gg
  clear N1 x0 x1 x2 x3 z1 g1 gg hgl
  go_wp2_with fail
  refine (N2.out _ (HS.out.grew g2)).mono ?_
  rintro e w3 ⟨rfl, gg⟩
  have x0 := (gg.cell (p := ⟨g, 0, none⟩) hgl2).trans y0
  have x3 := (gg.cell (p := ⟨g, 3, none⟩) hgl2).trans y3
  have hgl3 := Nat.lt_of_lt_of_le hgl2 gg.size
  have z3 := z2.grew gg
  have g3 := grew_trans g2 gg
  clear N2 y0 y2 y3 z2 g2 gg hgl2
  by_cases h1 : a1 = 0
  case neg =>
    have HE := HEZ _ (by simp [h1]) HE0.out
    have e1 : (a1 != 0) = true := by simpa using h1
    clear h1 HE0
    have HTH : Hid (w3.there w.heap.size 0 (#[.int .u64 0, .int .i64 0, .int .i64 0, .int .i64 0, .int .i64 0, .int .u64 0, .int .u64 0, .int .u64 0, .int .u64 0, .int .u64 0, .int .u64 0, .int .u64 0, .int .u64 0, .int .u64 0, .int .u64 0, .int .u64 0, .int .u64 0, .int .u64 0, .int .u64 0, .int .u64 0, .int .u64 0, .int .u64 0, .int .u64 0, .slice none 0 0] : Array Value).size) := Lib.hid (z3.thereN 24 rfl)
    have zZ := Ag.set (vs := (#[.int .u64 0, .int .i64 0, .int .i64 0, .int .i64 0, .int .i64 0, .int .u64 0, .int .u64 0, .int .u64 0, .int .u64 0, .int .u64 0, .int .u64 0, .int .u64 0, .int .u64 0, .int .u64 0, .int .u64 0, .int .u64 0, .int .u64 0, .int .u64 0, .int .u64 0, .int .u64 0, .int .u64 0, .int .u64 0, .int .u64 0, .slice none 0 0] : Array Value).toList) z3 rfl
    have gZ := setCells_grew (o := 0) (b := w.heap.size) (#[.int .u64 0, .int .i64 0, .int .i64 0, .int .i64 0, .int .i64 0, .int .u64 0, .int .u64 0, .int .u64 0, .int .u64 0, .int .u64 0, .int .u64 0, .int .u64 0, .int .u64 0, .int .u64 0, .int .u64 0, .int .u64 0, .int .u64 0, .int .u64 0, .int .u64 0, .int .u64 0, .int .u64 0, .int .u64 0, .int .u64 0, .slice none 0 0] : Array Value).toList g3 (Nat.le_refl _)
    go_wp2_with (first
      | (with_reducible refine wpList_store_mid rfl 44 (.tmp 2) (.tmp 53) rfl w.heap.size 0 (#[.int .u64 0, .int .i64 0, .int .i64 0, .int .i64 0, .int .i64 0, .int .u64 0, .int .u64 0, .int .u64 0, .int .u64 0, .int .u64 0, .int .u64 0, .int .u64 0, .int .u64 0, .int .u64 0, .int .u64 0, .int .u64 0, .int .u64 0, .int .u64 0, .int .u64 0, .int .u64 0, .int .u64 0, .int .u64 0, .int .u64 0, .slice none 0 0]) rfl rfl HTH.out HSI.out HON.out ?_))
    exact bodyPost_ret (results_ag2 Tryz.results28 _ _ w.heap.size _ _ _ rfl rfl zZ hut rfl HSIL.out) rfl ⟨⟨none, 0, by rw [HE.out.1, HE.out.2]; rfl, by rw [HE.out.2]; exact fun k hk => absurd hk (by simp [StR.zero, u64L]), fun ad h => by cases h⟩, gZ⟩
  subst h1
  by_cases h2 : a2 = 0
  case neg =>
    have HE := HEZ _ (by simp [h2]) HE0.out
    have e1 : (a2 != 0) = true := by simpa using h2
    clear h2 HE0
    have HTH : Hid (w3.there w.heap.size 0 (#[.int .u64 0, .int .i64 0, .int .i64 0, .int .i64 0, .int .i64 0, .int .u64 0, .int .u64 0, .int .u64 0, .int .u64 0, .int .u64 0, .int .u64 0, .int .u64 0, .int .u64 0, .int .u64 0, .int .u64 0, .int .u64 0, .int .u64 0, .int .u64 0, .int .u64 0, .int .u64 0, .int .u64 0, .int .u64 0, .int .u64 0, .slice none 0 0] : Array Value).size) := Lib.hid (z3.thereN 24 rfl)
    have zZ := Ag.set (vs := (#[.int .u64 0, .int .i64 0, .int .i64 0, .int .i64 0, .int .i64 0, .int .u64 0, .int .u64 0, .int .u64 0, .int .u64 0, .int .u64 0, .int .u64 0, .int .u64 0, .int .u64 0, .int .u64 0, .int .u64 0, .int .u64 0, .int .u64 0, .int .u64 0, .int .u64 0, .int .u64 0, .int .u64 0, .int .u64 0, .int .u64 0, .slice none 0 0] : Array Value).toList) z3 rfl
    have gZ := setCells_grew (o := 0) (b := w.heap.size) (#[.int .u64 0, .int .i64 0, .int .i64 0, .int .i64 0, .int .i64 0, .int .u64 0, .int .u64 0, .int .u64 0, .int .u64 0, .int .u64 0, .int .u64 0, .int .u64 0, .int .u64 0, .int .u64 0, .int .u64 0, .int .u64 0, .int .u64 0, .int .u64 0, .int .u64 0, .int .u64 0, .int .u64 0, .int .u64 0, .int .u64 0, .slice none 0 0] : Array Value).toList g3 (Nat.le_refl _)
    go_wp2_with (first
      | (with_reducible refine wpList_store_mid rfl 44 (.tmp 2) (.tmp 53) rfl w.heap.size 0 (#[.int .u64 0, .int .i64 0, .int .i64 0, .int .i64 0, .int .i64 0, .int .u64 0, .int .u64 0, .int .u64 0, .int .u64 0, .int .u64 0, .int .u64 0, .int .u64 0, .int .u64 0, .int .u64 0, .int .u64 0, .int .u64 0, .int .u64 0, .int .u64 0, .int .u64 0, .int .u64 0, .int .u64 0, .int .u64 0, .int .u64 0, .slice none 0 0]) rfl rfl HTH.out HSI.out HON.out ?_))
    exact bodyPost_ret (results_ag2 Tryz.results28 _ _ w.heap.size _ _ _ rfl rfl zZ hut rfl HSIL.out) rfl ⟨⟨none, 0, by rw [HE.out.1, HE.out.2]; rfl, by rw [HE.out.2]; exact fun k hk => absurd hk (by simp [StR.zero, u64L]), fun ad h => by cases h⟩, gZ⟩
  subst h2
  by_cases h3 : -2147483648 ≤ n1 ∧ n1 ≤ 2147483647
  case neg =>
    have HE := HEZ _ (by simp [smallB, h3]) HE0.out
    clear HE0
    have HTH : Hid (w3.there w.heap.size 0 (#[.int .u64 0, .int .i64 0, .int .i64 0, .int .i64 0, .int .i64 0, .int .u64 0, .int .u64 0, .int .u64 0, .int .u64 0, .int .u64 0, .int .u64 0, .int .u64 0, .int .u64 0, .int .u64 0, .int .u64 0, .int .u64 0, .int .u64 0, .int .u64 0, .int .u64 0, .int .u64 0, .int .u64 0, .int .u64 0, .int .u64 0, .slice none 0 0] : Array Value).size) := Lib.hid (z3.thereN 24 rfl)
    have zZ := Ag.set (vs := (#[.int .u64 0, .int .i64 0, .int .i64 0, .int .i64 0, .int .i64 0, .int .u64 0, .int .u64 0, .int .u64 0, .int .u64 0, .int .u64 0, .int .u64 0, .int .u64 0, .int .u64 0, .int .u64 0, .int .u64 0, .int .u64 0, .int .u64 0, .int .u64 0, .int .u64 0, .int .u64 0, .int .u64 0, .int .u64 0, .int .u64 0, .slice none 0 0] : Array Value).toList) z3 rfl
    have gZ := setCells_grew (o := 0) (b := w.heap.size) (#[.int .u64 0, .int .i64 0, .int .i64 0, .int .i64 0, .int .i64 0, .int .u64 0, .int .u64 0, .int .u64 0, .int .u64 0, .int .u64 0, .int .u64 0, .int .u64 0, .int .u64 0, .int .u64 0, .int .u64 0, .int .u64 0, .int .u64 0, .int .u64 0, .int .u64 0, .int .u64 0, .int .u64 0, .int .u64 0, .int .u64 0, .slice none 0 0] : Array Value).toList g3 (Nat.le_refl _)
    rcases (show n1 < -2147483648 ∨ (¬ n1 < -2147483648 ∧ 2147483647 < n1) by omega) with h | ⟨h, h'⟩
    · have e1 : decide (n1 < -2147483648) = true := decide_eq_true h
      clear h3 h
      go_wp2_with (first
        | (with_reducible refine wpList_store_mid rfl 44 (.tmp 2) (.tmp 53) rfl w.heap.size 0 (#[.int .u64 0, .int .i64 0, .int .i64 0, .int .i64 0, .int .i64 0, .int .u64 0, .int .u64 0, .int .u64 0, .int .u64 0, .int .u64 0, .int .u64 0, .int .u64 0, .int .u64 0, .int .u64 0, .int .u64 0, .int .u64 0, .int .u64 0, .int .u64 0, .int .u64 0, .int .u64 0, .int .u64 0, .int .u64 0, .int .u64 0, .slice none 0 0]) rfl rfl HTH.out HSI.out HON.out ?_))
      exact bodyPost_ret (results_ag2 Tryz.results28 _ _ w.heap.size _ _ _ rfl rfl zZ hut rfl HSIL.out) rfl ⟨⟨none, 0, by rw [HE.out.1, HE.out.2]; rfl, by rw [HE.out.2]; exact fun k hk => absurd hk (by simp [StR.zero, u64L]), fun ad h => by cases h⟩, gZ⟩
    · have e1 : decide (n1 < -2147483648) = false := decide_eq_false h
      have e2 : decide (2147483647 < n1) = true := decide_eq_true h'
      clear h3 h h'
      go_wp2_with (first
        | (with_reducible refine wpList_store_mid rfl 44 (.tmp 2) (.tmp 53) rfl w.heap.size 0 (#[.int .u64 0, .int .i64 0, .int .i64 0, .int .i64 0, .int .i64 0, .int .u64 0, .int .u64 0, .int .u64 0, .int .u64 0, .int .u64 0, .int .u64 0, .int .u64 0, .int .u64 0, .int .u64 0, .int .u64 0, .int .u64 0, .int .u64 0, .int .u64 0, .int .u64 0, .int .u64 0, .int .u64 0, .int .u64 0, .int .u64 0, .slice none 0 0]) rfl rfl HTH.out HSI.out HON.out ?_))
      exact bodyPost_ret (results_ag2 Tryz.results28 _ _ w.heap.size _ _ _ rfl rfl zZ hut rfl HSIL.out) rfl ⟨⟨none, 0, by rw [HE.out.1, HE.out.2]; rfl, by rw [HE.out.2]; exact fun k hk => absurd hk (by simp [StR.zero, u64L]), fun ad h => by cases h⟩, gZ⟩
  have hw1 : ¬ n1 < -2147483648 := by omega
  have hw2 : ¬ 2147483647 < n1 := by omega
  have HB3 : Hid (smallB n1 = true) := Lib.hid (decide_eq_true h3)
  clear h3
  go_wp2_with (fail)
  refine (HP.out _).mono ?_
  rintro e v3 ⟨rfl, rfl⟩
  cases o0 with
  | none =>
    have HE := HEZ _ (by simp) HE0.out
    clear HE0
    have HTH : Hid (w3.there w.heap.size 0 (#[.int .u64 0, .int .i64 0, .int .i64 0, .int .i64 0, .int .i64 0, .int .u64 0, .int .u64 0, .int .u64 0, .int .u64 0, .int .u64 0, .int .u64 0, .int .u64 0, .int .u64 0, .int .u64 0, .int .u64 0, .int .u64 0, .int .u64 0, .int .u64 0, .int .u64 0, .int .u64 0, .int .u64 0, .int .u64 0, .int .u64 0, .slice none 0 0] : Array Value).size) := Lib.hid (z3.thereN 24 rfl)
    have zZ := Ag.set (vs := (#[.int .u64 0, .int .i64 0, .int .i64 0, .int .i64 0, .int .i64 0, .int .u64 0, .int .u64 0, .int .u64 0, .int .u64 0, .int .u64 0, .int .u64 0, .int .u64 0, .int .u64 0, .int .u64 0, .int .u64 0, .int .u64 0, .int .u64 0, .int .u64 0, .int .u64 0, .int .u64 0, .int .u64 0, .int .u64 0, .int .u64 0, .slice none 0 0] : Array Value).toList) z3 rfl
    have gZ := setCells_grew (o := 0) (b := w.heap.size) (#[.int .u64 0, .int .i64 0, .int .i64 0, .int .i64 0, .int .i64 0, .int .u64 0, .int .u64 0, .int .u64 0, .int .u64 0, .int .u64 0, .int .u64 0, .int .u64 0, .int .u64 0, .int .u64 0, .int .u64 0, .int .u64 0, .int .u64 0, .int .u64 0, .int .u64 0, .int .u64 0, .int .u64 0, .int .u64 0, .int .u64 0, .slice none 0 0] : Array Value).toList g3 (Nat.le_refl _)
    rw [parseRes_none]
    go_wp2_with (first
      | (with_reducible refine wpList_store_mid rfl 44 (.tmp 2) (.tmp 63) rfl w.heap.size 0 (#[.int .u64 0, .int .i64 0, .int .i64 0, .int .i64 0, .int .i64 0, .int .u64 0, .int .u64 0, .int .u64 0, .int .u64 0, .int .u64 0, .int .u64 0, .int .u64 0, .int .u64 0, .int .u64 0, .int .u64 0, .int .u64 0, .int .u64 0, .int .u64 0, .int .u64 0, .int .u64 0, .int .u64 0, .int .u64 0, .int .u64 0, .slice none 0 0]) rfl rfl HTH.out HSI.out HON.out ?_))
    exact bodyPost_ret (results_ag2 Tryz.results28 _ _ w.heap.size _ _ _ rfl rfl zZ hut rfl HSIL.out) rfl ⟨⟨none, 0, by rw [HE.out.1, HE.out.2]; rfl, by rw [HE.out.2]; exact fun k hk => absurd hk (by simp [StR.zero, u64L]), fun ad h => by cases h⟩, gZ⟩
  | some cm =>
    rw [parseRes_some]
    go_wp2_with fail
    refine (KP.out _ (HS.out.grew g3)).mono ?_
    rintro e w4 ⟨⟨A, c, rfl, r4, hA4⟩, gg⟩
    have z4 := z3.grew gg
    have g4 := grew_trans g3 gg
    have HSI1 : Hid ((Tryz.prog.info? 42).map (·.size) = some (sgC sw lf s (.slice A l.length c)).size) := Lib.hid sg_info
    have HSL1 : Hid ((Tryz.prog.info? 42).map (·.size) = some (sgC sw lf s (.slice A l.length c)).toList.length) := Lib.hid sg_info
    have HON1 := Lib.hid (sgC_one sw lf s A l.length c)
    have HBU := Lib.hid (st_built cm n1 n2 sw lf s A l.length c)
    have zt := Ag.new w4 42 (#[.int .i64 0, .int .i64 0, .int .u64 0, .int .u64 0, .int .u64 0, .int .u64 0, .int .u64 0, .int .u64 0, .int .u64 0, .int .u64 0, .int .u64 0, .int .u64 0, .int .u64 0, .int .u64 0, .int .u64 0, .int .u64 0, .int .u64 0, .int .u64 0, .int .u64 0, .int .u64 0, .slice none 0 0])
    have HTH1 : Hid ((w4.alloc (.cells (#[.int .i64 0, .int .i64 0, .int .u64 0, .int .u64 0, .int .u64 0, .int .u64 0, .int .u64 0, .int .u64 0, .int .u64 0, .int .u64 0, .int .u64 0, .int .u64 0, .int .u64 0, .int .u64 0, .int .u64 0, .int .u64 0, .int .u64 0, .int .u64 0, .int .u64 0, .int .u64 0, .slice none 0 0]) 42)).there w4.heap.size 0 (sgC sw lf s (.slice A l.length c)).size) := Lib.hid (zt.thereN 21 rfl)
    have z5 := Ag.set (vs := (sgC sw lf s (.slice A l.length c)).toList) zt rfl
    have g5 : Grew w4 ((w4.alloc (.cells (#[.int .i64 0, .int .i64 0, .int .u64 0, .int .u64 0, .int .u64 0, .int .u64 0, .int .u64 0, .int .u64 0, .int .u64 0, .int .u64 0, .int .u64 0, .int .u64 0, .int .u64 0, .int .u64 0, .int .u64 0, .int .u64 0, .int .u64 0, .int .u64 0, .int .u64 0, .int .u64 0, .slice none 0 0]) 42)).setCells w4.heap.size 0 (sgC sw lf s (.slice A l.length c)).toList) := setCells_grew (o := 0) (b := w4.heap.size) (sgC sw lf s (.slice A l.length c)).toList (grew_alloc (grew_refl w4) _) (Nat.le_refl _)
    have z6 := z4.grew g5
    have r6 := r4.gr g5
    have g6 := grew_trans g4 g5
    obtain ⟨g1, hg1⟩ : ∃ g, sgC sw lf s (.slice A l.length c) = g := ⟨_, rfl⟩
    rw [hg1] at HSI1 HSL1 HON1 HTH1 HBU z5 z6 r6 g6 ⊢
    obtain ⟨w6, hw6⟩ : ∃ v, (w4.alloc (.cells (#[.int .i64 0, .int .i64 0, .int .u64 0, .int .u64 0, .int .u64 0, .int .u64 0, .int .u64 0, .int .u64 0, .int .u64 0, .int .u64 0, .int .u64 0, .int .u64 0, .int .u64 0, .int .u64 0, .int .u64 0, .int .u64 0, .int .u64 0, .int .u64 0, .int .u64 0, .int .u64 0, .slice none 0 0]) 42)).setCells w4.heap.size 0 g1.toList = v := ⟨_, rfl⟩
    rw [hw6] at z5 z6 r6 g6
    have HW6 := Lib.hid hw6
    have hm5 := z5.cell
    have hz3 := z3.lt
    have HFR : Hid (∀ ad, A = some ad → w.heap.size < ad.block) := Lib.hid (fun ad e => by have := hA4 ad e; omega)
    clear hz3 hA4 hw6 hg1 zt g5 x0 x3 z3 g3 z4 g4 gg r4 hgl3 KP HP
    cases b3 with
    | false =>
      have HE := HEZ _ (by simp) HE0.out
      have he3 : e3 = 2 := HO3.out
      subst he3
      clear HE0 HO3
      have HTH : Hid (w6.there w.heap.size 0 (#[.int .u64 0, .int .i64 0, .int .i64 0, .int .i64 0, .int .i64 0, .int .u64 0, .int .u64 0, .int .u64 0, .int .u64 0, .int .u64 0, .int .u64 0, .int .u64 0, .int .u64 0, .int .u64 0, .int .u64 0, .int .u64 0, .int .u64 0, .int .u64 0, .int .u64 0, .int .u64 0, .int .u64 0, .int .u64 0, .int .u64 0, .slice none 0 0] : Array Value).size) := Lib.hid (z6.thereN 24 rfl)
      have zZ := Ag.set (vs := (#[.int .u64 0, .int .i64 0, .int .i64 0, .int .i64 0, .int .i64 0, .int .u64 0, .int .u64 0, .int .u64 0, .int .u64 0, .int .u64 0, .int .u64 0, .int .u64 0, .int .u64 0, .int .u64 0, .int .u64 0, .int .u64 0, .int .u64 0, .int .u64 0, .int .u64 0, .int .u64 0, .int .u64 0, .int .u64 0, .int .u64 0, .slice none 0 0] : Array Value).toList) z6 rfl
      have gZ := setCells_grew (o := 0) (b := w.heap.size) (#[.int .u64 0, .int .i64 0, .int .i64 0, .int .i64 0, .int .i64 0, .int .u64 0, .int .u64 0, .int .u64 0, .int .u64 0, .int .u64 0, .int .u64 0, .int .u64 0, .int .u64 0, .int .u64 0, .int .u64 0, .int .u64 0, .int .u64 0, .int .u64 0, .int .u64 0, .int .u64 0, .int .u64 0, .int .u64 0, .int .u64 0, .slice none 0 0] : Array Value).toList g6 (Nat.le_refl _)
      go_wp2_with (first
        | (with_reducible refine wpList_store_mid rfl 42 (.tmp 11) (.tmp 70) rfl w4.heap.size 0 g1 rfl rfl HTH1.out HSI1.out HON1.out ?_; rw [HW6.out]; clear HW6 HTH1)
        | (with_reducible refine wpList_store_mid rfl 44 (.tmp 2) (.tmp 74) rfl w.heap.size 0 (#[.int .u64 0, .int .i64 0, .int .i64 0, .int .i64 0, .int .i64 0, .int .u64 0, .int .u64 0, .int .u64 0, .int .u64 0, .int .u64 0, .int .u64 0, .int .u64 0, .int .u64 0, .int .u64 0, .int .u64 0, .int .u64 0, .int .u64 0, .int .u64 0, .int .u64 0, .int .u64 0, .int .u64 0, .int .u64 0, .int .u64 0, .slice none 0 0]) rfl rfl HTH.out HSI.out HON.out ?_))
      exact bodyPost_ret (results_ag2 Tryz.results28 _ _ w.heap.size _ _ _ rfl rfl zZ hut rfl HSIL.out) rfl ⟨⟨none, 0, by rw [HE.out.1, HE.out.2]; rfl, by rw [HE.out.2]; exact fun k hk => absurd hk (by simp [StR.zero, u64L]), fun ad h => by cases h⟩, gZ⟩
    | true =>
      have he3 : e3 = 0 := HO3.out
      subst he3
      have HE : Hid (eS = 0 ∧ oS = ⟨cm, n1, n2, ((sw, lf), s, l)⟩) := Lib.hid (by have := HE0.out; simpa [HB3.out] using this)
      clear HE0 HO3
      have HTZ : Hid (w6.there w.heap.size 0 (stC cm n1 n2 sw lf s (.slice A l.length c)).size) := Lib.hid (z6.thereN 24 rfl)
      have HOZ := Lib.hid (stC_one cm n1 n2 sw lf s A l.length c)
      have HSZ : Hid ((Tryz.prog.info? 44).map (·.size) = some (stC cm n1 n2 sw lf s (.slice A l.length c)).size) := Lib.hid st_info
      have HSZL : Hid ((Tryz.prog.info? 44).map (·.size) = some (stC cm n1 n2 sw lf s (.slice A l.length c)).toList.length) := Lib.hid st_info
      have z7 := Ag.set (vs := (stC cm n1 n2 sw lf s (.slice A l.length c)).toList) z6 rfl
      have K7 := setCells_kp (stC cm n1 n2 sw lf s (.slice A l.length c)).toList w.heap.size 0 w6
      have G7 := setCells_grew (o := 0) (b := w.heap.size) (stC cm n1 n2 sw lf s (.slice A l.length c)).toList g6 (Nat.le_refl _)
      have R7 : Rd (w6.setCells w.heap.size 0 (stC cm n1 n2 sw lf s (.slice A l.length c)).toList) (w6.setCells w.heap.size 0 (stC cm n1 n2 sw lf s (.slice A l.length c)).toList).heap.size A (u64L l) :=
        (r6.kp K7 (Nat.le_refl _) (fun ad e1 _ (e3 : ad.block = w.heap.size) => by have := HFR.out ad e1; omega)).more K7.size
      obtain ⟨g2, hg2⟩ : ∃ g, stC cm n1 n2 sw lf s (.slice A l.length c) = g := ⟨_, rfl⟩
      have HG2' := Lib.hid hg2
      rw [hg2] at HTZ HOZ HSZ HSZL HBU z7 G7 R7
      clear z6 K7 r6 g6 hg2
      go_wp2_with (first
        | (with_reducible refine wpList_store_mid rfl 42 (.tmp 11) (.tmp 70) rfl w4.heap.size 0 g1 rfl rfl HTH1.out HSI1.out HON1.out ?_; rw [HW6.out]; clear HW6 HTH1)
        | (with_reducible refine wpList_load_mid rfl 42 (.tmp 11) rfl w4.heap.size 0 rfl g1.toList _ hm5 hus rfl HSL1.out ?_; simp only [Array.toArray_toList])
        | (with_reducible refine wpList_build_is rfl 44 #[(0, .tmp 76), (1, .tmp 77), (2, .tmp 78), (3, .tmp 79)] rfl g2 ?_ ?_; · simpa [Act.eval, Act.put] using HBU.out)
        | (with_reducible refine wpList_store_mid rfl 44 (.tmp 2) (.tmp 80) rfl w.heap.size 0 g2 rfl rfl HTZ.out HSZ.out HOZ.out ?_))
      exact bodyPost_ret (results_ag2 Tryz.results28 _ _ w.heap.size _ _ _ rfl rfl z7 hut rfl HSZL.out) rfl ⟨⟨A, c, by rw [HE.out.1, HE.out.2]; show Ending.returned (.tuple #[.agg g2.toList.toArray, .int .i64 0]) = _; rw [Array.toArray_toList, ← HG2'.out]; rfl, by rw [HE.out.2]; exact R7, HFR.out⟩, G7⟩
theorem stparse_any (tj : ByteArray) (hz : tj.size ≤ 1000000) (w : World) (hS : Std w) :
    Calls Tryz.prog 28 #[.string tj] w fun e w' => (∃ A c, e = .returned (.tuple #[.agg ((stO tj.data.toList).v (.slice A (stO tj.data.toList).g.2.2.length c)), .int .i64 (stE tj.data.toList)]) ∧ Rd w' w'.heap.size A (u64L (stO tj.data.toList).g.2.2) ∧ (∀ ad, A = some ad → w.heap.size < ad.block)) ∧ Grew w w' := by
  have hlen : tj.data.toList.length ≤ 1000000 := by rw [ba_len]; exact hz
  by_cases h4 : ∃ x0 x1 x2 x3, splitF tj.data.toList = some [x0, x1, x2, x3]
  · obtain ⟨x0, x1, x2, x3, hsp⟩ := h4
    have g := fun x hx => Nat.le_trans (split_ge hsp x hx) hlen
    exact stparse_four tj x0 x1 x2 x3 hsp hz (g x0 (by simp)) (g x1 (by simp)) (g x2 (by simp)) (g x3 (by simp)) w hS
  · exact stparse_split tj hz (fun a b c d h => h4 ⟨a, b, c, d, h⟩) w
end Go.Proofs.YtaeopobofmpioaaGreatDoor

namespace Go.Proofs.YtaeopobofmpioaaGreatDoor
set_option linter.unusedSimpArgs false
set_option linter.unusedVariables false
open Go.RowKit
set_option linter.unusedVariables false
set_option linter.unusedSimpArgs false
set_option maxRecDepth 100000 in
theorem rst_built (cm : Nat) (who at_ sw lf : Int) (s : Nat → Nat) (A : Option Addr) (n c : Nat) : Tryz.prog.built 30 [(0, .int .u64 (cm : Nat)), (1, .int .i64 who), (2, .int .i64 at_), (3, .agg (sgC sw lf s (.slice A n c)))] = some (stC cm who at_ sw lf s (.slice A n c)) := by kernel_rfl
set_option maxRecDepth 100000 in
theorem rst_zero : Tryz.prog.built 30 [] = some (#[.int .u64 0, .int .i64 0, .int .i64 0, .int .i64 0, .int .i64 0, .int .u64 0, .int .u64 0, .int .u64 0, .int .u64 0, .int .u64 0, .int .u64 0, .int .u64 0, .int .u64 0, .int .u64 0, .int .u64 0, .int .u64 0, .int .u64 0, .int .u64 0, .int .u64 0, .int .u64 0, .int .u64 0, .int .u64 0, .int .u64 0, .slice none 0 0]) := by kernel_rfl
theorem rst_info : (Tryz.prog.info? 30).map (·.size) = some 24 := by kernel_rfl
set_option maxRecDepth 100000 in
set_option maxHeartbeats 1000000 in
theorem rstparse_split (tj : ByteArray) (hz : tj.size ≤ 1000000) (hno : ∀ x0 x1 x2 x3, splitF tj.data.toList ≠ some [x0, x1, x2, x3]) (w : World) :
    Calls Tryz.prog 29 #[.string tj] w fun e w' => (∃ A c, e = .returned (.tuple #[.agg ((stO tj.data.toList).v (.slice A (stO tj.data.toList).g.2.2.length c)), .int .i64 (stE tj.data.toList)]) ∧ Rd w' w'.heap.size A (u64L (stO tj.data.toList).g.2.2) ∧ (∀ ad, A = some ad → w.heap.size < ad.block)) ∧ Grew w w' := by
  have hut := Tryz.underlying30
  have hus := Tryz.underlying28
  have bz : ∀ W, (Instr.build 30 #[]).run Tryz.prog W = .ok (.agg (#[.int .u64 0, .int .i64 0, .int .i64 0, .int .i64 0, .int .i64 0, .int .u64 0, .int .u64 0, .int .u64 0, .int .u64 0, .int .u64 0, .int .u64 0, .int .u64 0, .int .u64 0, .int .u64 0, .int .u64 0, .int .u64 0, .int .u64 0, .int .u64 0, .int .u64 0, .int .u64 0, .int .u64 0, .int .u64 0, .int .u64 0, .slice none 0 0])) W := fun W => run_build W 30 #[] _ rst_zero
  have HSI : Hid ((Tryz.prog.info? 30).map (·.size) = some (#[.int .u64 0, .int .i64 0, .int .i64 0, .int .i64 0, .int .i64 0, .int .u64 0, .int .u64 0, .int .u64 0, .int .u64 0, .int .u64 0, .int .u64 0, .int .u64 0, .int .u64 0, .int .u64 0, .int .u64 0, .int .u64 0, .int .u64 0, .int .u64 0, .int .u64 0, .int .u64 0, .int .u64 0, .int .u64 0, .int .u64 0, .slice none 0 0] : Array Value).size) := Lib.hid rst_info
  have HSIL : Hid ((Tryz.prog.info? 30).map (·.size) = some (#[.int .u64 0, .int .i64 0, .int .i64 0, .int .i64 0, .int .i64 0, .int .u64 0, .int .u64 0, .int .u64 0, .int .u64 0, .int .u64 0, .int .u64 0, .int .u64 0, .int .u64 0, .int .u64 0, .int .u64 0, .int .u64 0, .int .u64 0, .int .u64 0, .int .u64 0, .int .u64 0, .int .u64 0, .int .u64 0, .int .u64 0, .slice none 0 0] : Array Value).toList.length) := Lib.hid rst_info
  have HON : Hid ((#[.int .u64 0, .int .i64 0, .int .i64 0, .int .i64 0, .int .i64 0, .int .u64 0, .int .u64 0, .int .u64 0, .int .u64 0, .int .u64 0, .int .u64 0, .int .u64 0, .int .u64 0, .int .u64 0, .int .u64 0, .int .u64 0, .int .u64 0, .int .u64 0, .int .u64 0, .int .u64 0, .int .u64 0, .int .u64 0, .int .u64 0, .slice none 0 0] : Array Value).all (·.oneCell') = true) := Lib.hid (by simp [Value.oneCell'])
  have z0 := Ag.new w 30 (#[.int .u64 0, .int .i64 0, .int .i64 0, .int .i64 0, .int .i64 0, .int .u64 0, .int .u64 0, .int .u64 0, .int .u64 0, .int .u64 0, .int .u64 0, .int .u64 0, .int .u64 0, .int .u64 0, .int .u64 0, .int .u64 0, .int .u64 0, .int .u64 0, .int .u64 0, .int .u64 0, .int .u64 0, .int .u64 0, .int .u64 0, .slice none 0 0])
  have g0 := grew_alloc (grew_refl w) (.cells (#[.int .u64 0, .int .i64 0, .int .i64 0, .int .i64 0, .int .i64 0, .int .u64 0, .int .u64 0, .int .u64 0, .int .u64 0, .int .u64 0, .int .u64 0, .int .u64 0, .int .u64 0, .int .u64 0, .int .u64 0, .int .u64 0, .int .u64 0, .int .u64 0, .int .u64 0, .int .u64 0, .int .u64 0, .int .u64 0, .int .u64 0, .slice none 0 0]) 30)
  have CS := Lib.hid (fun W => rsplit_ok tj (by omega) W)
  go_enter Tryz.func29, Tryz.ntmps29
  go_wp2_with fail
  refine (CS.out _).mono ?_
  rintro e w1 ⟨hs, gg⟩
  have z1 := z0.grew gg
  have g1 := grew_trans g0 gg
  have HTH : Hid (w1.there w.heap.size 0 (#[.int .u64 0, .int .i64 0, .int .i64 0, .int .i64 0, .int .i64 0, .int .u64 0, .int .u64 0, .int .u64 0, .int .u64 0, .int .u64 0, .int .u64 0, .int .u64 0, .int .u64 0, .int .u64 0, .int .u64 0, .int .u64 0, .int .u64 0, .int .u64 0, .int .u64 0, .int .u64 0, .int .u64 0, .int .u64 0, .int .u64 0, .slice none 0 0] : Array Value).size) := Lib.hid (z1.thereN 24 rfl)
  have zZ := Ag.set (vs := (#[.int .u64 0, .int .i64 0, .int .i64 0, .int .i64 0, .int .i64 0, .int .u64 0, .int .u64 0, .int .u64 0, .int .u64 0, .int .u64 0, .int .u64 0, .int .u64 0, .int .u64 0, .int .u64 0, .int .u64 0, .int .u64 0, .int .u64 0, .int .u64 0, .int .u64 0, .int .u64 0, .int .u64 0, .int .u64 0, .int .u64 0, .slice none 0 0] : Array Value).toList) z1 rfl
  have gZ := setCells_grew (o := 0) (b := w.heap.size) (#[.int .u64 0, .int .i64 0, .int .i64 0, .int .i64 0, .int .i64 0, .int .u64 0, .int .u64 0, .int .u64 0, .int .u64 0, .int .u64 0, .int .u64 0, .int .u64 0, .int .u64 0, .int .u64 0, .int .u64 0, .int .u64 0, .int .u64 0, .int .u64 0, .int .u64 0, .int .u64 0, .int .u64 0, .int .u64 0, .int .u64 0, .slice none 0 0] : Array Value).toList g1 (Nat.le_refl _)
  clear CS z0 g0 gg z1 g1
  rcases hs with ⟨h1, rfl⟩ | ⟨l, h1, ⟨h2, rfl⟩ | ⟨h2, v, rfl, o1⟩⟩
  · have HE := Lib.hid (stE_none h1)
    clear h1
    go_wp2_with (first
      | (with_reducible refine wpList_store_mid rfl 30 (.tmp 2) (.tmp 19) rfl w.heap.size 0 (#[.int .u64 0, .int .i64 0, .int .i64 0, .int .i64 0, .int .i64 0, .int .u64 0, .int .u64 0, .int .u64 0, .int .u64 0, .int .u64 0, .int .u64 0, .int .u64 0, .int .u64 0, .int .u64 0, .int .u64 0, .int .u64 0, .int .u64 0, .int .u64 0, .int .u64 0, .int .u64 0, .int .u64 0, .int .u64 0, .int .u64 0, .slice none 0 0]) rfl rfl HTH.out HSI.out HON.out ?_)
      | (go_at_call 90; refine (small_is n1 _ SM.out _).mono ?_; rintro e z ⟨rfl, hz⟩; rw [hz]; clear hz))
    exact bodyPost_ret (results_ag2 Tryz.results29 _ _ w.heap.size _ _ _ rfl rfl zZ hut rfl HSIL.out) rfl ⟨⟨none, 0, by rw [HE.out.1, HE.out.2]; rfl, by rw [HE.out.2]; exact fun k hk => absurd hk (by simp [StR.zero, u64L]), fun ad h => by cases h⟩, gZ⟩
  · have HE := Lib.hid (stE_long h1 h2)
    clear h1 h2
    go_wp2_with (first
      | (with_reducible refine wpList_store_mid rfl 30 (.tmp 2) (.tmp 19) rfl w.heap.size 0 (#[.int .u64 0, .int .i64 0, .int .i64 0, .int .i64 0, .int .i64 0, .int .u64 0, .int .u64 0, .int .u64 0, .int .u64 0, .int .u64 0, .int .u64 0, .int .u64 0, .int .u64 0, .int .u64 0, .int .u64 0, .int .u64 0, .int .u64 0, .int .u64 0, .int .u64 0, .int .u64 0, .int .u64 0, .int .u64 0, .int .u64 0, .slice none 0 0]) rfl rfl HTH.out HSI.out HON.out ?_)
      | (go_at_call 90; refine (small_is n1 _ SM.out _).mono ?_; rintro e z ⟨rfl, hz⟩; rw [hz]; clear hz))
    exact bodyPost_ret (results_ag2 Tryz.results29 _ _ w.heap.size _ _ _ rfl rfl zZ hut rfl HSIL.out) rfl ⟨⟨none, 0, by rw [HE.out.1, HE.out.2]; rfl, by rw [HE.out.2]; exact fun k hk => absurd hk (by simp [StR.zero, u64L]), fun ad h => by cases h⟩, gZ⟩
  · have hl4 : l.length ≠ 4 := fun h4 => by
      match l, h4 with
      | [a, b, c, d], _ => exact hno a b c d h1
    have HE := Lib.hid (stE_len h1 h2 hl4)
    obtain ⟨A4, c4, rfl, -, -, -⟩ := own_rd o1
    have e4 : ((l.length : Int) != 4) = true := by simp; omega
    clear o1 h1 h2 hl4
    go_wp2_with (first
      | (with_reducible refine wpList_store_mid rfl 30 (.tmp 2) (.tmp 24) rfl w.heap.size 0 (#[.int .u64 0, .int .i64 0, .int .i64 0, .int .i64 0, .int .i64 0, .int .u64 0, .int .u64 0, .int .u64 0, .int .u64 0, .int .u64 0, .int .u64 0, .int .u64 0, .int .u64 0, .int .u64 0, .int .u64 0, .int .u64 0, .int .u64 0, .int .u64 0, .int .u64 0, .int .u64 0, .int .u64 0, .int .u64 0, .int .u64 0, .slice none 0 0]) rfl rfl HTH.out HSI.out HON.out ?_)
      | (go_at_call 90; refine (small_is n1 _ SM.out _).mono ?_; rintro e z ⟨rfl, hz⟩; rw [hz]; clear hz))
    exact bodyPost_ret (results_ag2 Tryz.results29 _ _ w.heap.size _ _ _ rfl rfl zZ hut rfl HSIL.out) rfl ⟨⟨none, 0, by rw [HE.out.1, HE.out.2]; rfl, by rw [HE.out.2]; exact fun k hk => absurd hk (by simp [StR.zero, u64L]), fun ad h => by cases h⟩, gZ⟩
set_option maxRecDepth 100000 in
set_option maxHeartbeats 4000000 in
theorem rstparse_four (tj : ByteArray) (x0 x1 x2 x3 : List UInt8) (hsp : splitF tj.data.toList = some [x0, x1, x2, x3]) (hz : tj.size ≤ 1000000) (l0 : x0.length ≤ 1000000) (l1 : x1.length ≤ 1000000) (l2 : x2.length ≤ 1000000) (l3 : x3.length ≤ 1000000) (w : World)  :
    Calls Tryz.prog 29 #[.string tj] w fun e w' => (∃ A c, e = .returned (.tuple #[.agg ((stO tj.data.toList).v (.slice A (stO tj.data.toList).g.2.2.length c)), .int .i64 (stE tj.data.toList)]) ∧ Rd w' w'.heap.size A (u64L (stO tj.data.toList).g.2.2) ∧ (∀ ad, A = some ad → w.heap.size < ad.block)) ∧ Grew w w' := by
  have HE0 := stE_four hsp
  have CS := Lib.hid (fun W => rsplit_some (s := tj) (l := [x0, x1, x2, x3]) hsp (by simp) (by omega) W)
  rw [show txt [x0, x1, x2, x3] = [⟨x0.toArray⟩, ⟨x1.toArray⟩, ⟨x2.toArray⟩, ⟨x3.toArray⟩] from rfl] at CS
  have N1 := (fun W => rparse_ok ⟨x1.toArray⟩ (by show x1.toArray.size ≤ _; simp; omega) W)
  have N2 := (fun W => rparse_ok ⟨x2.toArray⟩ (by show x2.toArray.size ≤ _; simp; omega) W)
  have HP := (fun W => rparse_any ⟨x0.toArray⟩ W)
  have KP := (fun W => rps_fr2 ⟨x3.toArray⟩ (by show x3.toArray.size ≤ _; simp; omega) W)
  unfold st4 stF at HE0
  simp only [show (⟨x0.toArray⟩ : ByteArray).data.toList = x0 from rfl, show (⟨x1.toArray⟩ : ByteArray).data.toList = x1 from rfl, show (⟨x2.toArray⟩ : ByteArray).data.toList = x2 from rfl, show (⟨x3.toArray⟩ : ByteArray).data.toList = x3 from rfl, pnumRes] at N1 N2 HP KP
  clear hsp
  generalize (⟨x0.toArray⟩ : ByteArray) = t0 at *
  generalize (⟨x1.toArray⟩ : ByteArray) = t1 at *
  generalize (⟨x2.toArray⟩ : ByteArray) = t2 at *
  generalize (⟨x3.toArray⟩ : ByteArray) = t3 at *
  generalize (pnum x1).1 = n1 at *
  generalize (pnum x1).2 = a1 at *
  generalize (pnum x2).1 = n2 at *
  generalize (pnum x2).2 = a2 at *
  generalize parseO x0 = o0 at *
  have HO3 : Hid (sgE (sigP x3) = if (sigP x3).isSome = true then 0 else 2) := Lib.hid rfl
  generalize sgE (sigP x3) = e3 at *
  generalize (sigP x3).isSome = b3 at *
  generalize sgO (sigP x3) = X at *
  obtain ⟨⟨sw, lf⟩, s, l⟩ := X
  dsimp only at KP HE0
  replace N1 := Lib.hid N1
  replace N2 := Lib.hid N2
  replace HP := Lib.hid HP
  replace KP := Lib.hid KP
  replace HE0 := Lib.hid HE0
  have HEZ : ∀ b : Bool, b = false → stE tj.data.toList = (if b = true then 0 else 2) ∧ stO tj.data.toList = (if b = true then (⟨o0.getD 0, n1, n2, ((sw, lf), s, l)⟩ : StR) else .zero) → Hid (stE tj.data.toList = 2 ∧ stO tj.data.toList = .zero) := fun b hb h => Lib.hid (by rw [hb] at h; exact h)
  generalize stE tj.data.toList = eS at *
  generalize stO tj.data.toList = oS at *
  clear l0 l1 l2 l3 hz
  have hut := Tryz.underlying30
  have hus := Tryz.underlying28
  have bz : ∀ W, (Instr.build 30 #[]).run Tryz.prog W = .ok (.agg (#[.int .u64 0, .int .i64 0, .int .i64 0, .int .i64 0, .int .i64 0, .int .u64 0, .int .u64 0, .int .u64 0, .int .u64 0, .int .u64 0, .int .u64 0, .int .u64 0, .int .u64 0, .int .u64 0, .int .u64 0, .int .u64 0, .int .u64 0, .int .u64 0, .int .u64 0, .int .u64 0, .int .u64 0, .int .u64 0, .int .u64 0, .slice none 0 0])) W := fun W => run_build W 30 #[] _ rst_zero
  have HSI : Hid ((Tryz.prog.info? 30).map (·.size) = some (#[.int .u64 0, .int .i64 0, .int .i64 0, .int .i64 0, .int .i64 0, .int .u64 0, .int .u64 0, .int .u64 0, .int .u64 0, .int .u64 0, .int .u64 0, .int .u64 0, .int .u64 0, .int .u64 0, .int .u64 0, .int .u64 0, .int .u64 0, .int .u64 0, .int .u64 0, .int .u64 0, .int .u64 0, .int .u64 0, .int .u64 0, .slice none 0 0] : Array Value).size) := Lib.hid rst_info
  have HSIL : Hid ((Tryz.prog.info? 30).map (·.size) = some (#[.int .u64 0, .int .i64 0, .int .i64 0, .int .i64 0, .int .i64 0, .int .u64 0, .int .u64 0, .int .u64 0, .int .u64 0, .int .u64 0, .int .u64 0, .int .u64 0, .int .u64 0, .int .u64 0, .int .u64 0, .int .u64 0, .int .u64 0, .int .u64 0, .int .u64 0, .int .u64 0, .int .u64 0, .int .u64 0, .int .u64 0, .slice none 0 0] : Array Value).toList.length) := Lib.hid rst_info
  have HON : Hid ((#[.int .u64 0, .int .i64 0, .int .i64 0, .int .i64 0, .int .i64 0, .int .u64 0, .int .u64 0, .int .u64 0, .int .u64 0, .int .u64 0, .int .u64 0, .int .u64 0, .int .u64 0, .int .u64 0, .int .u64 0, .int .u64 0, .int .u64 0, .int .u64 0, .int .u64 0, .int .u64 0, .int .u64 0, .int .u64 0, .int .u64 0, .slice none 0 0] : Array Value).all (·.oneCell') = true) := Lib.hid (by simp [Value.oneCell'])
  have z0 := Ag.new w 30 (#[.int .u64 0, .int .i64 0, .int .i64 0, .int .i64 0, .int .i64 0, .int .u64 0, .int .u64 0, .int .u64 0, .int .u64 0, .int .u64 0, .int .u64 0, .int .u64 0, .int .u64 0, .int .u64 0, .int .u64 0, .int .u64 0, .int .u64 0, .int .u64 0, .int .u64 0, .int .u64 0, .int .u64 0, .int .u64 0, .int .u64 0, .slice none 0 0])
  have g0 := grew_alloc (grew_refl w) (.cells (#[.int .u64 0, .int .i64 0, .int .i64 0, .int .i64 0, .int .i64 0, .int .u64 0, .int .u64 0, .int .u64 0, .int .u64 0, .int .u64 0, .int .u64 0, .int .u64 0, .int .u64 0, .int .u64 0, .int .u64 0, .int .u64 0, .int .u64 0, .int .u64 0, .int .u64 0, .int .u64 0, .int .u64 0, .int .u64 0, .int .u64 0, .slice none 0 0]) 30)
  go_enter Tryz.func29, Tryz.ntmps29
  go_wp2_with fail
  refine (CS.out _).mono ?_
  rintro e w1 ⟨⟨v1, rfl, o1⟩, gg⟩
  have z1 := z0.grew gg
  have g1 := grew_trans g0 gg
  obtain ⟨g, k1, rfl, hk1, hgl, hcs⟩ := own_cells o1 (by simp)
  have x0 : w1.cell? ⟨g, 0, none⟩ = some (.string t0) := by simpa using hcs 0 (.string t0) rfl
  have x1 : w1.cell? ⟨g, 1, none⟩ = some (.string t1) := by simpa using hcs 1 (.string t1) rfl
  have x2 : w1.cell? ⟨g, 2, none⟩ = some (.string t2) := by simpa using hcs 2 (.string t2) rfl
  have x3 : w1.cell? ⟨g, 3, none⟩ = some (.string t3) := by simpa using hcs 3 (.string t3) rfl
  clear CS z0 g0 gg o1 hcs
  have hk1' : (4 : Int) ≤ (k1 : Int) := by
    have : 4 ≤ k1 := hk1
    omega
  go_wp2_with fail
  refine (N1.out _).mono ?_
  rintro e w2 ⟨rfl, hw2⟩
  have gg : Grew w1 w2 := by rw [hw2]; exact grew_refl _
  clear hw2
  have y0 := (gg.cell (p := ⟨g, 0, none⟩) hgl).trans x0
  have y2 := (gg.cell (p := ⟨g, 2, none⟩) hgl).trans x2
  have y3 := (gg.cell (p := ⟨g, 3, none⟩) hgl).trans x3
  have hgl2 := Nat.lt_of_lt_of_le hgl gg.size
  have z2 := z1.grew gg
  have g2 := grew_trans g1 gg
  clear N1 x0 x1 x2 x3 z1 g1 gg hgl
  go_wp2_with fail
  refine (N2.out _).mono ?_
  rintro e w3 ⟨rfl, hw3⟩
  have gg : Grew w2 w3 := by rw [hw3]; exact grew_refl _
  clear hw3
  have x0 := (gg.cell (p := ⟨g, 0, none⟩) hgl2).trans y0
  have x3 := (gg.cell (p := ⟨g, 3, none⟩) hgl2).trans y3
  have hgl3 := Nat.lt_of_lt_of_le hgl2 gg.size
  have z3 := z2.grew gg
  have g3 := grew_trans g2 gg
  clear N2 y0 y2 y3 z2 g2 gg hgl2
  by_cases h1 : a1 = 0
  case neg =>
    have HE := HEZ _ (by simp [h1]) HE0.out
    have e1 : (a1 != 0) = true := by simpa using h1
    clear h1 HE0
    have HTH : Hid (w3.there w.heap.size 0 (#[.int .u64 0, .int .i64 0, .int .i64 0, .int .i64 0, .int .i64 0, .int .u64 0, .int .u64 0, .int .u64 0, .int .u64 0, .int .u64 0, .int .u64 0, .int .u64 0, .int .u64 0, .int .u64 0, .int .u64 0, .int .u64 0, .int .u64 0, .int .u64 0, .int .u64 0, .int .u64 0, .int .u64 0, .int .u64 0, .int .u64 0, .slice none 0 0] : Array Value).size) := Lib.hid (z3.thereN 24 rfl)
    have zZ := Ag.set (vs := (#[.int .u64 0, .int .i64 0, .int .i64 0, .int .i64 0, .int .i64 0, .int .u64 0, .int .u64 0, .int .u64 0, .int .u64 0, .int .u64 0, .int .u64 0, .int .u64 0, .int .u64 0, .int .u64 0, .int .u64 0, .int .u64 0, .int .u64 0, .int .u64 0, .int .u64 0, .int .u64 0, .int .u64 0, .int .u64 0, .int .u64 0, .slice none 0 0] : Array Value).toList) z3 rfl
    have gZ := setCells_grew (o := 0) (b := w.heap.size) (#[.int .u64 0, .int .i64 0, .int .i64 0, .int .i64 0, .int .i64 0, .int .u64 0, .int .u64 0, .int .u64 0, .int .u64 0, .int .u64 0, .int .u64 0, .int .u64 0, .int .u64 0, .int .u64 0, .int .u64 0, .int .u64 0, .int .u64 0, .int .u64 0, .int .u64 0, .int .u64 0, .int .u64 0, .int .u64 0, .int .u64 0, .slice none 0 0] : Array Value).toList g3 (Nat.le_refl _)
    go_wp2_with (first
      | (with_reducible refine wpList_store_mid rfl 30 (.tmp 2) (.tmp 50) rfl w.heap.size 0 (#[.int .u64 0, .int .i64 0, .int .i64 0, .int .i64 0, .int .i64 0, .int .u64 0, .int .u64 0, .int .u64 0, .int .u64 0, .int .u64 0, .int .u64 0, .int .u64 0, .int .u64 0, .int .u64 0, .int .u64 0, .int .u64 0, .int .u64 0, .int .u64 0, .int .u64 0, .int .u64 0, .int .u64 0, .int .u64 0, .int .u64 0, .slice none 0 0]) rfl rfl HTH.out HSI.out HON.out ?_)
      | (go_at_call 90; refine (small_is n1 _ SM.out _).mono ?_; rintro e z ⟨rfl, hz⟩; rw [hz]; clear hz))
    exact bodyPost_ret (results_ag2 Tryz.results29 _ _ w.heap.size _ _ _ rfl rfl zZ hut rfl HSIL.out) rfl ⟨⟨none, 0, by rw [HE.out.1, HE.out.2]; rfl, by rw [HE.out.2]; exact fun k hk => absurd hk (by simp [StR.zero, u64L]), fun ad h => by cases h⟩, gZ⟩
  subst h1
  by_cases h2 : a2 = 0
  case neg =>
    have HE := HEZ _ (by simp [h2]) HE0.out
    have e1 : (a2 != 0) = true := by simpa using h2
    clear h2 HE0
    have HTH : Hid (w3.there w.heap.size 0 (#[.int .u64 0, .int .i64 0, .int .i64 0, .int .i64 0, .int .i64 0, .int .u64 0, .int .u64 0, .int .u64 0, .int .u64 0, .int .u64 0, .int .u64 0, .int .u64 0, .int .u64 0, .int .u64 0, .int .u64 0, .int .u64 0, .int .u64 0, .int .u64 0, .int .u64 0, .int .u64 0, .int .u64 0, .int .u64 0, .int .u64 0, .slice none 0 0] : Array Value).size) := Lib.hid (z3.thereN 24 rfl)
    have zZ := Ag.set (vs := (#[.int .u64 0, .int .i64 0, .int .i64 0, .int .i64 0, .int .i64 0, .int .u64 0, .int .u64 0, .int .u64 0, .int .u64 0, .int .u64 0, .int .u64 0, .int .u64 0, .int .u64 0, .int .u64 0, .int .u64 0, .int .u64 0, .int .u64 0, .int .u64 0, .int .u64 0, .int .u64 0, .int .u64 0, .int .u64 0, .int .u64 0, .slice none 0 0] : Array Value).toList) z3 rfl
    have gZ := setCells_grew (o := 0) (b := w.heap.size) (#[.int .u64 0, .int .i64 0, .int .i64 0, .int .i64 0, .int .i64 0, .int .u64 0, .int .u64 0, .int .u64 0, .int .u64 0, .int .u64 0, .int .u64 0, .int .u64 0, .int .u64 0, .int .u64 0, .int .u64 0, .int .u64 0, .int .u64 0, .int .u64 0, .int .u64 0, .int .u64 0, .int .u64 0, .int .u64 0, .int .u64 0, .slice none 0 0] : Array Value).toList g3 (Nat.le_refl _)
    go_wp2_with (first
      | (with_reducible refine wpList_store_mid rfl 30 (.tmp 2) (.tmp 50) rfl w.heap.size 0 (#[.int .u64 0, .int .i64 0, .int .i64 0, .int .i64 0, .int .i64 0, .int .u64 0, .int .u64 0, .int .u64 0, .int .u64 0, .int .u64 0, .int .u64 0, .int .u64 0, .int .u64 0, .int .u64 0, .int .u64 0, .int .u64 0, .int .u64 0, .int .u64 0, .int .u64 0, .int .u64 0, .int .u64 0, .int .u64 0, .int .u64 0, .slice none 0 0]) rfl rfl HTH.out HSI.out HON.out ?_)
      | (go_at_call 90; refine (small_is n1 _ SM.out _).mono ?_; rintro e z ⟨rfl, hz⟩; rw [hz]; clear hz))
    exact bodyPost_ret (results_ag2 Tryz.results29 _ _ w.heap.size _ _ _ rfl rfl zZ hut rfl HSIL.out) rfl ⟨⟨none, 0, by rw [HE.out.1, HE.out.2]; rfl, by rw [HE.out.2]; exact fun k hk => absurd hk (by simp [StR.zero, u64L]), fun ad h => by cases h⟩, gZ⟩
  subst h2
  by_cases h3 : -2147483648 ≤ n1 ∧ n1 ≤ 2147483647
  case neg =>
    have HE := HEZ _ (by simp [smallB, h3]) HE0.out
    have SM : Hid (decide (smallC n1) = false) := Lib.hid (decide_eq_false (by unfold smallC; omega))
    clear HE0
    have HTH : Hid (w3.there w.heap.size 0 (#[.int .u64 0, .int .i64 0, .int .i64 0, .int .i64 0, .int .i64 0, .int .u64 0, .int .u64 0, .int .u64 0, .int .u64 0, .int .u64 0, .int .u64 0, .int .u64 0, .int .u64 0, .int .u64 0, .int .u64 0, .int .u64 0, .int .u64 0, .int .u64 0, .int .u64 0, .int .u64 0, .int .u64 0, .int .u64 0, .int .u64 0, .slice none 0 0] : Array Value).size) := Lib.hid (z3.thereN 24 rfl)
    have zZ := Ag.set (vs := (#[.int .u64 0, .int .i64 0, .int .i64 0, .int .i64 0, .int .i64 0, .int .u64 0, .int .u64 0, .int .u64 0, .int .u64 0, .int .u64 0, .int .u64 0, .int .u64 0, .int .u64 0, .int .u64 0, .int .u64 0, .int .u64 0, .int .u64 0, .int .u64 0, .int .u64 0, .int .u64 0, .int .u64 0, .int .u64 0, .int .u64 0, .slice none 0 0] : Array Value).toList) z3 rfl
    have gZ := setCells_grew (o := 0) (b := w.heap.size) (#[.int .u64 0, .int .i64 0, .int .i64 0, .int .i64 0, .int .i64 0, .int .u64 0, .int .u64 0, .int .u64 0, .int .u64 0, .int .u64 0, .int .u64 0, .int .u64 0, .int .u64 0, .int .u64 0, .int .u64 0, .int .u64 0, .int .u64 0, .int .u64 0, .int .u64 0, .int .u64 0, .int .u64 0, .int .u64 0, .int .u64 0, .slice none 0 0] : Array Value).toList g3 (Nat.le_refl _)
    clear h3
    go_wp2_with (first
      | (with_reducible refine wpList_store_mid rfl 30 (.tmp 2) (.tmp 50) rfl w.heap.size 0 (#[.int .u64 0, .int .i64 0, .int .i64 0, .int .i64 0, .int .i64 0, .int .u64 0, .int .u64 0, .int .u64 0, .int .u64 0, .int .u64 0, .int .u64 0, .int .u64 0, .int .u64 0, .int .u64 0, .int .u64 0, .int .u64 0, .int .u64 0, .int .u64 0, .int .u64 0, .int .u64 0, .int .u64 0, .int .u64 0, .int .u64 0, .slice none 0 0]) rfl rfl HTH.out HSI.out HON.out ?_)
      | (go_at_call 90; refine (small_is n1 _ SM.out _).mono ?_; rintro e z ⟨rfl, hz⟩; rw [hz]; clear hz))
    exact bodyPost_ret (results_ag2 Tryz.results29 _ _ w.heap.size _ _ _ rfl rfl zZ hut rfl HSIL.out) rfl ⟨⟨none, 0, by rw [HE.out.1, HE.out.2]; rfl, by rw [HE.out.2]; exact fun k hk => absurd hk (by simp [StR.zero, u64L]), fun ad h => by cases h⟩, gZ⟩
  have hw1 : ¬ n1 < -2147483648 := by omega
  have hw2 : ¬ 2147483647 < n1 := by omega
  have SM : Hid (decide (smallC n1) = true) := Lib.hid (decide_eq_true (by unfold smallC; omega))
  have HB3 : Hid (smallB n1 = true) := Lib.hid (decide_eq_true h3)
  clear h3
  go_wp2_with (go_at_call 90; refine (small_is n1 _ SM.out _).mono ?_; rintro e z ⟨rfl, hz⟩; rw [hz]; clear hz)
  refine (HP.out _).mono ?_
  rintro e v3 ⟨rfl, rfl⟩
  cases o0 with
  | none =>
    have HE := HEZ _ (by simp) HE0.out
    clear HE0
    have HTH : Hid (w3.there w.heap.size 0 (#[.int .u64 0, .int .i64 0, .int .i64 0, .int .i64 0, .int .i64 0, .int .u64 0, .int .u64 0, .int .u64 0, .int .u64 0, .int .u64 0, .int .u64 0, .int .u64 0, .int .u64 0, .int .u64 0, .int .u64 0, .int .u64 0, .int .u64 0, .int .u64 0, .int .u64 0, .int .u64 0, .int .u64 0, .int .u64 0, .int .u64 0, .slice none 0 0] : Array Value).size) := Lib.hid (z3.thereN 24 rfl)
    have zZ := Ag.set (vs := (#[.int .u64 0, .int .i64 0, .int .i64 0, .int .i64 0, .int .i64 0, .int .u64 0, .int .u64 0, .int .u64 0, .int .u64 0, .int .u64 0, .int .u64 0, .int .u64 0, .int .u64 0, .int .u64 0, .int .u64 0, .int .u64 0, .int .u64 0, .int .u64 0, .int .u64 0, .int .u64 0, .int .u64 0, .int .u64 0, .int .u64 0, .slice none 0 0] : Array Value).toList) z3 rfl
    have gZ := setCells_grew (o := 0) (b := w.heap.size) (#[.int .u64 0, .int .i64 0, .int .i64 0, .int .i64 0, .int .i64 0, .int .u64 0, .int .u64 0, .int .u64 0, .int .u64 0, .int .u64 0, .int .u64 0, .int .u64 0, .int .u64 0, .int .u64 0, .int .u64 0, .int .u64 0, .int .u64 0, .int .u64 0, .int .u64 0, .int .u64 0, .int .u64 0, .int .u64 0, .int .u64 0, .slice none 0 0] : Array Value).toList g3 (Nat.le_refl _)
    rw [parseRes_none]
    go_wp2_with (first
      | (with_reducible refine wpList_store_mid rfl 30 (.tmp 2) (.tmp 60) rfl w.heap.size 0 (#[.int .u64 0, .int .i64 0, .int .i64 0, .int .i64 0, .int .i64 0, .int .u64 0, .int .u64 0, .int .u64 0, .int .u64 0, .int .u64 0, .int .u64 0, .int .u64 0, .int .u64 0, .int .u64 0, .int .u64 0, .int .u64 0, .int .u64 0, .int .u64 0, .int .u64 0, .int .u64 0, .int .u64 0, .int .u64 0, .int .u64 0, .slice none 0 0]) rfl rfl HTH.out HSI.out HON.out ?_)
      | (go_at_call 90; refine (small_is n1 _ SM.out _).mono ?_; rintro e z ⟨rfl, hz⟩; rw [hz]; clear hz))
    exact bodyPost_ret (results_ag2 Tryz.results29 _ _ w.heap.size _ _ _ rfl rfl zZ hut rfl HSIL.out) rfl ⟨⟨none, 0, by rw [HE.out.1, HE.out.2]; rfl, by rw [HE.out.2]; exact fun k hk => absurd hk (by simp [StR.zero, u64L]), fun ad h => by cases h⟩, gZ⟩
  | some cm =>
    rw [parseRes_some]
    go_wp2_with fail
    refine (KP.out _).mono ?_
    rintro e w4 ⟨⟨A, c, rfl, r4, hA4⟩, gg⟩
    have z4 := z3.grew gg
    have g4 := grew_trans g3 gg
    have HSI1 : Hid ((Tryz.prog.info? 28).map (·.size) = some (sgC sw lf s (.slice A l.length c)).size) := Lib.hid rg_info
    have HSL1 : Hid ((Tryz.prog.info? 28).map (·.size) = some (sgC sw lf s (.slice A l.length c)).toList.length) := Lib.hid rg_info
    have HON1 := Lib.hid (sgC_one sw lf s A l.length c)
    have HBU := Lib.hid (rst_built cm n1 n2 sw lf s A l.length c)
    have zt := Ag.new w4 28 (#[.int .i64 0, .int .i64 0, .int .u64 0, .int .u64 0, .int .u64 0, .int .u64 0, .int .u64 0, .int .u64 0, .int .u64 0, .int .u64 0, .int .u64 0, .int .u64 0, .int .u64 0, .int .u64 0, .int .u64 0, .int .u64 0, .int .u64 0, .int .u64 0, .int .u64 0, .int .u64 0, .slice none 0 0])
    have HTH1 : Hid ((w4.alloc (.cells (#[.int .i64 0, .int .i64 0, .int .u64 0, .int .u64 0, .int .u64 0, .int .u64 0, .int .u64 0, .int .u64 0, .int .u64 0, .int .u64 0, .int .u64 0, .int .u64 0, .int .u64 0, .int .u64 0, .int .u64 0, .int .u64 0, .int .u64 0, .int .u64 0, .int .u64 0, .int .u64 0, .slice none 0 0]) 28)).there w4.heap.size 0 (sgC sw lf s (.slice A l.length c)).size) := Lib.hid (zt.thereN 21 rfl)
    have z5 := Ag.set (vs := (sgC sw lf s (.slice A l.length c)).toList) zt rfl
    have g5 : Grew w4 ((w4.alloc (.cells (#[.int .i64 0, .int .i64 0, .int .u64 0, .int .u64 0, .int .u64 0, .int .u64 0, .int .u64 0, .int .u64 0, .int .u64 0, .int .u64 0, .int .u64 0, .int .u64 0, .int .u64 0, .int .u64 0, .int .u64 0, .int .u64 0, .int .u64 0, .int .u64 0, .int .u64 0, .int .u64 0, .slice none 0 0]) 28)).setCells w4.heap.size 0 (sgC sw lf s (.slice A l.length c)).toList) := setCells_grew (o := 0) (b := w4.heap.size) (sgC sw lf s (.slice A l.length c)).toList (grew_alloc (grew_refl w4) _) (Nat.le_refl _)
    have z6 := z4.grew g5
    have r6 := r4.gr g5
    have g6 := grew_trans g4 g5
    obtain ⟨g1, hg1⟩ : ∃ g, sgC sw lf s (.slice A l.length c) = g := ⟨_, rfl⟩
    rw [hg1] at HSI1 HSL1 HON1 HTH1 HBU z5 z6 r6 g6 ⊢
    obtain ⟨w6, hw6⟩ : ∃ v, (w4.alloc (.cells (#[.int .i64 0, .int .i64 0, .int .u64 0, .int .u64 0, .int .u64 0, .int .u64 0, .int .u64 0, .int .u64 0, .int .u64 0, .int .u64 0, .int .u64 0, .int .u64 0, .int .u64 0, .int .u64 0, .int .u64 0, .int .u64 0, .int .u64 0, .int .u64 0, .int .u64 0, .int .u64 0, .slice none 0 0]) 28)).setCells w4.heap.size 0 g1.toList = v := ⟨_, rfl⟩
    rw [hw6] at z5 z6 r6 g6
    have HW6 := Lib.hid hw6
    have hm5 := z5.cell
    have hz3 := z3.lt
    have HFR : Hid (∀ ad, A = some ad → w.heap.size < ad.block) := Lib.hid (fun ad e => by have := hA4 ad e; omega)
    clear hz3 hA4 hw6 hg1 zt g5 x0 x3 z3 g3 z4 g4 gg r4 hgl3 KP HP
    cases b3 with
    | false =>
      have HE := HEZ _ (by simp) HE0.out
      have he3 : e3 = 2 := HO3.out
      subst he3
      clear HE0 HO3
      have HTH : Hid (w6.there w.heap.size 0 (#[.int .u64 0, .int .i64 0, .int .i64 0, .int .i64 0, .int .i64 0, .int .u64 0, .int .u64 0, .int .u64 0, .int .u64 0, .int .u64 0, .int .u64 0, .int .u64 0, .int .u64 0, .int .u64 0, .int .u64 0, .int .u64 0, .int .u64 0, .int .u64 0, .int .u64 0, .int .u64 0, .int .u64 0, .int .u64 0, .int .u64 0, .slice none 0 0] : Array Value).size) := Lib.hid (z6.thereN 24 rfl)
      have zZ := Ag.set (vs := (#[.int .u64 0, .int .i64 0, .int .i64 0, .int .i64 0, .int .i64 0, .int .u64 0, .int .u64 0, .int .u64 0, .int .u64 0, .int .u64 0, .int .u64 0, .int .u64 0, .int .u64 0, .int .u64 0, .int .u64 0, .int .u64 0, .int .u64 0, .int .u64 0, .int .u64 0, .int .u64 0, .int .u64 0, .int .u64 0, .int .u64 0, .slice none 0 0] : Array Value).toList) z6 rfl
      have gZ := setCells_grew (o := 0) (b := w.heap.size) (#[.int .u64 0, .int .i64 0, .int .i64 0, .int .i64 0, .int .i64 0, .int .u64 0, .int .u64 0, .int .u64 0, .int .u64 0, .int .u64 0, .int .u64 0, .int .u64 0, .int .u64 0, .int .u64 0, .int .u64 0, .int .u64 0, .int .u64 0, .int .u64 0, .int .u64 0, .int .u64 0, .int .u64 0, .int .u64 0, .int .u64 0, .slice none 0 0] : Array Value).toList g6 (Nat.le_refl _)
      go_wp2_with (first
        | (with_reducible refine wpList_store_mid rfl 28 (.tmp 11) (.tmp 67) rfl w4.heap.size 0 g1 rfl rfl HTH1.out HSI1.out HON1.out ?_; rw [HW6.out]; clear HW6 HTH1)
        | (with_reducible refine wpList_store_mid rfl 30 (.tmp 2) (.tmp 71) rfl w.heap.size 0 (#[.int .u64 0, .int .i64 0, .int .i64 0, .int .i64 0, .int .i64 0, .int .u64 0, .int .u64 0, .int .u64 0, .int .u64 0, .int .u64 0, .int .u64 0, .int .u64 0, .int .u64 0, .int .u64 0, .int .u64 0, .int .u64 0, .int .u64 0, .int .u64 0, .int .u64 0, .int .u64 0, .int .u64 0, .int .u64 0, .int .u64 0, .slice none 0 0]) rfl rfl HTH.out HSI.out HON.out ?_)
        | (go_at_call 90; refine (small_is n1 _ SM.out _).mono ?_; rintro e z ⟨rfl, hz⟩; rw [hz]; clear hz))
      exact bodyPost_ret (results_ag2 Tryz.results29 _ _ w.heap.size _ _ _ rfl rfl zZ hut rfl HSIL.out) rfl ⟨⟨none, 0, by rw [HE.out.1, HE.out.2]; rfl, by rw [HE.out.2]; exact fun k hk => absurd hk (by simp [StR.zero, u64L]), fun ad h => by cases h⟩, gZ⟩
    | true =>
      have he3 : e3 = 0 := HO3.out
      subst he3
      have HE : Hid (eS = 0 ∧ oS = ⟨cm, n1, n2, ((sw, lf), s, l)⟩) := Lib.hid (by have := HE0.out; simpa [HB3.out] using this)
      clear HE0 HO3
      have HTZ : Hid (w6.there w.heap.size 0 (stC cm n1 n2 sw lf s (.slice A l.length c)).size) := Lib.hid (z6.thereN 24 rfl)
      have HOZ := Lib.hid (stC_one cm n1 n2 sw lf s A l.length c)
      have HSZ : Hid ((Tryz.prog.info? 30).map (·.size) = some (stC cm n1 n2 sw lf s (.slice A l.length c)).size) := Lib.hid rst_info
      have HSZL : Hid ((Tryz.prog.info? 30).map (·.size) = some (stC cm n1 n2 sw lf s (.slice A l.length c)).toList.length) := Lib.hid rst_info
      have z7 := Ag.set (vs := (stC cm n1 n2 sw lf s (.slice A l.length c)).toList) z6 rfl
      have K7 := setCells_kp (stC cm n1 n2 sw lf s (.slice A l.length c)).toList w.heap.size 0 w6
      have G7 := setCells_grew (o := 0) (b := w.heap.size) (stC cm n1 n2 sw lf s (.slice A l.length c)).toList g6 (Nat.le_refl _)
      have R7 : Rd (w6.setCells w.heap.size 0 (stC cm n1 n2 sw lf s (.slice A l.length c)).toList) (w6.setCells w.heap.size 0 (stC cm n1 n2 sw lf s (.slice A l.length c)).toList).heap.size A (u64L l) :=
        (r6.kp K7 (Nat.le_refl _) (fun ad e1 _ (e3 : ad.block = w.heap.size) => by have := HFR.out ad e1; omega)).more K7.size
      obtain ⟨g2, hg2⟩ : ∃ g, stC cm n1 n2 sw lf s (.slice A l.length c) = g := ⟨_, rfl⟩
      have HG2' := Lib.hid hg2
      rw [hg2] at HTZ HOZ HSZ HSZL HBU z7 G7 R7
      clear z6 K7 r6 g6 hg2
      go_wp2_with (first
        | (with_reducible refine wpList_store_mid rfl 28 (.tmp 11) (.tmp 67) rfl w4.heap.size 0 g1 rfl rfl HTH1.out HSI1.out HON1.out ?_; rw [HW6.out]; clear HW6 HTH1)
        | (with_reducible refine wpList_load_mid rfl 28 (.tmp 11) rfl w4.heap.size 0 rfl g1.toList _ hm5 hus rfl HSL1.out ?_; simp only [Array.toArray_toList])
        | (with_reducible refine wpList_build_is rfl 30 #[(0, .tmp 73), (1, .tmp 74), (2, .tmp 75), (3, .tmp 76)] rfl g2 ?_ ?_; · simpa [Act.eval, Act.put] using HBU.out)
        | (with_reducible refine wpList_store_mid rfl 30 (.tmp 2) (.tmp 77) rfl w.heap.size 0 g2 rfl rfl HTZ.out HSZ.out HOZ.out ?_))
      exact bodyPost_ret (results_ag2 Tryz.results29 _ _ w.heap.size _ _ _ rfl rfl z7 hut rfl HSZL.out) rfl ⟨⟨A, c, by rw [HE.out.1, HE.out.2]; show Ending.returned (.tuple #[.agg g2.toList.toArray, .int .i64 0]) = _; rw [Array.toArray_toList, ← HG2'.out]; rfl, by rw [HE.out.2]; exact R7, HFR.out⟩, G7⟩
theorem rstparse_any (tj : ByteArray) (hz : tj.size ≤ 1000000) (w : World)  :
    Calls Tryz.prog 29 #[.string tj] w fun e w' => (∃ A c, e = .returned (.tuple #[.agg ((stO tj.data.toList).v (.slice A (stO tj.data.toList).g.2.2.length c)), .int .i64 (stE tj.data.toList)]) ∧ Rd w' w'.heap.size A (u64L (stO tj.data.toList).g.2.2) ∧ (∀ ad, A = some ad → w.heap.size < ad.block)) ∧ Grew w w' := by
  have hlen : tj.data.toList.length ≤ 1000000 := by rw [ba_len]; exact hz
  by_cases h4 : ∃ x0 x1 x2 x3, splitF tj.data.toList = some [x0, x1, x2, x3]
  · obtain ⟨x0, x1, x2, x3, hsp⟩ := h4
    have g := fun x hx => Nat.le_trans (split_ge hsp x hx) hlen
    exact rstparse_four tj x0 x1 x2 x3 hsp hz (g x0 (by simp)) (g x1 (by simp)) (g x2 (by simp)) (g x3 (by simp)) w 
  · exact rstparse_split tj hz (fun a b c d h => h4 ⟨a, b, c, d, h⟩) w
end Go.Proofs.YtaeopobofmpioaaGreatDoor
