/- StampAny: the law. -/
import Derived.Test.YtaeopobofmpioaaGreatDoorZbm
import Derived.Test.YtaeopobofmpioaaGreatDoorZbl
import Derived.Test.YtaeopobofmpioaaGreatDoorZbk
import Derived.Test.YtaeopobofmpioaaGreatDoorZbh
namespace Go.Proofs.YtaeopobofmpioaaGreatDoor
set_option linter.unusedSimpArgs false
set_option linter.unusedVariables false
open Go.RowKit
set_option linter.unusedVariables false
set_option linter.unusedSimpArgs false
set_option maxRecDepth 100000 in
set_option maxHeartbeats 8000000 in
theorem stampAny_law (f h : Int) (RA : Option Addr) (Rc : Nat) (R : List Nat) (hRb : ∀ z ∈ R, z < 18446744073709551616)
    (cm : Nat) (who at_ sw lf : Int) (s : Nat → Nat) (A : Option Addr) (c : Nat) (l : List Nat) (hcm : cm < 18446744073709551616) (hwho : in64 who) (hat : in64 at_) (hsw : in64 sw) (hlf : in64 lf) (hs : ∀ k, k < 18 → s k < 18446744073709551616) (hl : ∀ z ∈ l, z < 18446744073709551616)
    (w : World) (hS : Std w) (hrR : Rd w w.heap.size RA (u64L R)) (hrl : Rd w w.heap.size A (u64L l)) :
    Calls Tryz.prog 3 #[.agg (kyS f RA R.length Rc h), .agg (stC cm who at_ sw lf s (.slice A l.length c))] w fun e w' => e = .returned (.bool true) ∧ Grew w w' := by
  have z0 := (Ag.new w 24 (kyS f RA R.length Rc h)).grew (grew_alloc (grew_refl _) (.cells (stC cm who at_ sw lf s (.slice A l.length c)) 30))
  have z1 := Ag.new (w.alloc (.cells (kyS f RA R.length Rc h) 24)) 30 (stC cm who at_ sw lf s (.slice A l.length c))
  rw [alloc_size] at z1
  have G0 := grew_alloc (grew_alloc (grew_refl w) (.cells (kyS f RA R.length Rc h) 24)) (.cells (stC cm who at_ sw lf s (.slice A l.length c)) 30)
  have HS := Lib.hid hS
  have CK := Lib.hid (fun W hW => sknown_ok W hW)
  have huk := Tryz.underlying36
  have hus := Tryz.underlying44
  have hurk := Tryz.underlying24
  have hurs := Tryz.underlying30
  have HRb := Lib.hid hRb
  have HCM := Lib.hid hcm
  have HWHO := Lib.hid hwho
  have HAT := Lib.hid hat
  have HSW := Lib.hid hsw
  have HLF := Lib.hid hlf
  have HSs := Lib.hid hs
  have HLb := Lib.hid hl
  have hrR0 := hrR.gr G0
  have hrl0 := hrl.gr G0
  have HB : Hid (w.heap.size + 2 ≤ ((w.alloc (.cells (kyS f RA R.length Rc h) 24)).alloc (.cells (stC cm who at_ sw lf s (.slice A l.length c)) 30)).heap.size) := Lib.hid (by simp [alloc_size])
  clear hS hRb hcm hwho hat hsw hlf hs hl hrR hrl
  go_enter Tryz.func3, Tryz.ntmps3
  go_wp2_with fail
  refine (CK.out _ (HS.out.grew G0)).mono ?_
  rintro e w1 ⟨rfl, gg⟩
  have z0 := z0.grew gg
  have z1 := z1.grew gg
  have hrR := hrR0.gr gg
  have hrl := hrl0.gr gg
  have HB1 : Hid (w.heap.size + 2 ≤ w1.heap.size) := Lib.hid (Nat.le_trans HB.out gg.size)
  have G1 := grew_trans G0 gg
  clear hrR0 hrl0 gg G0 HB CK
  have hk1 : w1.cell? ⟨w.heap.size, 1, none⟩ = some (.slice RA R.length Rc) := by simpa using z0.cell 1 _ rfl
  have hs23 : w1.cell? ⟨w.heap.size + 1, 23, none⟩ = some (.slice A l.length c) := by simpa using z1.cell 23 _ rfl
  cases E1 : decide (20 < (R.length : Int))
  case true =>
    go_wp2_with fail
    go_ret
    exact ⟨rfl, G1⟩
  case false =>
  cases E2 : decide (20 < (l.length : Int))
  case true =>
    go_wp2_with fail
    go_ret
    exact ⟨rfl, G1⟩
  case false =>
  have HR20 : Hid (R.length ≤ 20) := Lib.hid (by simp only [decide_eq_false_iff_not] at E1; omega)
  have HL20 : Hid (l.length ≤ 20) := Lib.hid (by simp only [decide_eq_false_iff_not] at E2; omega)
  go_upto_region 5 with fail
  clear E1 E2 hk1 hs23
  have HRR := Lib.hid (fun y (g : Grew w1 y) => hrR.gr g)
  have HRL := Lib.hid (fun y (g : Grew w1 y) => hrl.gr g)
  have BHRK := Lib.hid (fun y (g : Grew w1 y) => hrR.gr g)
  have BHRS := Lib.hid (fun y (g : Grew w1 y) => hrl.gr g)
  have HMK := Lib.hid (fun y (g : Grew w1 y) => (z0.grew g).cell)
  have HMS := Lib.hid (fun y (g : Grew w1 y) => (z1.grew g).cell)
  have BHMK := Lib.hid (fun y (g : Grew w1 y) => (z0.grew g).cell)
  have BHMS := Lib.hid (fun y (g : Grew w1 y) => (z1.grew g).cell)
  have HZ0 := Lib.hid z0
  have HZ1 := Lib.hid z1
  have CTK := Lib.hid (fun W hR => tokeys_ok f R RA Rc h (by have := HR20.out; omega) W hR)
  have CTS := Lib.hid (fun W hR => stto_ok cm who at_ sw lf s A c l (by have := HL20.out; omega) W hR)
  have SLK : Hid ((Tryz.prog.info? 24).map (·.size) = some (kyS f RA R.length Rc h).toList.length) := Lib.hid rk_info
  have SLS : Hid ((Tryz.prog.info? 30).map (·.size) = some (stC cm who at_ sw lf s (.slice A l.length c)).toList.length) := Lib.hid rst_info
  have CCR := Lib.hid (fun W => rstkeys_ok f R RA Rc h (by have := HR20.out; omega) W)
  have CX2 := Lib.hid (fun W hR => rsttext_ok cm who at_ sw lf s A c l HCM.out HWHO.out HAT.out HSW.out HLF.out (by have := HL20.out; omega) HSs.out HLb.out W hR)
  have CV2 := Lib.hid (fun hf W h1 h2 => rstvalid_ok f hf R RA Rc h cm who at_ sw lf s A c l HCM.out HWHO.out HAT.out HSW.out HLF.out (by have := HL20.out; omega) HSs.out HLb.out (by have := HR20.out; omega) W h1 h2)
  have BHS0 := Lib.hid (fun y (g : Grew w1 y) => (by simpa using (HZ1.out.grew g).cell 0 _ rfl : y.cell? ⟨w.heap.size + 1, 0, none⟩ = some (.int .u64 (cm : Nat))))
  have BHS1 := Lib.hid (fun y (g : Grew w1 y) => (by simpa using (HZ1.out.grew g).cell 1 _ rfl : y.cell? ⟨w.heap.size + 1, 1, none⟩ = some (.int .i64 who)))
  have BHS2 := Lib.hid (fun y (g : Grew w1 y) => (by simpa using (HZ1.out.grew g).cell 2 _ rfl : y.cell? ⟨w.heap.size + 1, 2, none⟩ = some (.int .i64 at_)))
  clear z0 z1 hrR hrl
  generalize kyS f RA R.length Rc h = gk at *
  generalize stC cm who at_ sw lf s (.slice A l.length c) = gs at *
  refine wp_region_span 6 (fun i => match i with
      | 0 => fun v _ => v = .agg gk
      | 1 => fun _ _ => True
      | 2 => fun v _ => v = .agg gs
      | 3 => fun _ _ => True
      | 4 => fun _ _ => True
      | 5 => fun _ _ => True
      | _ => fun _ _ => True) (fun i => match i with
      | 1 => fun lo hi v w => KW w lo hi f R h v
      | 3 => fun lo hi v w => SW w lo hi cm who at_ sw lf s l v
      | 4 => fun lo hi v w => NW w lo hi (#[.int .i64 0, .slice none 0 0, .int .i64 0] : Array Value).toList v
      | 5 => fun lo hi v w => NW w lo hi (#[.int .u64 0, .int .i64 0, .int .i64 0, .int .i64 0, .int .i64 0, .int .u64 0, .int .u64 0, .int .u64 0, .int .u64 0, .int .u64 0, .int .u64 0, .int .u64 0, .int .u64 0, .int .u64 0, .int .u64 0, .int .u64 0, .int .u64 0, .int .u64 0, .int .u64 0, .int .u64 0, .int .u64 0, .int .u64 0, .int .u64 0, .slice none 0 0] : Array Value).toList v
      | _ => fun _ _ _ _ => True) (by kernel_rfl) (by kernel_rfl) ?_ ?_ ?_ ?_
  · intro i v x y h hg
    match i, h with
    | 0, h | 2, h => exact h
    | 1, _ => trivial
    | 3, _ => trivial
    | 4, _ => trivial
    | 5, _ => trivial
    | m + 6, _ => trivial
  · refine ⟨?_, ?_, ?_, ?_, ?_, ?_, trivial⟩
    · intro vs y hg hd
      simp only [actOf, List.take_succ_cons, List.take_zero, List.drop_succ_cons, List.drop_zero, Act.put, List.setIfInBounds_toArray, List.set_cons_succ, List.set_cons_zero, Nat.reduceAdd]
      have hm := HMK.out y hg
      go_wp2_with (with_reducible refine wpList_load_mid rfl 24 (.tmp 2) rfl w.heap.size 0 rfl gk.toList _ hm hurk rfl SLK.out ?_; simp only [Array.toArray_toList])
      exact ⟨rfl, _, rfl, grew_refl _, rfl⟩
    · intro vs y hg hd
      obtain ⟨h0, _⟩ := hd
      replace h0 := h0 rfl
      simp only [actOf, List.take_succ_cons, List.take_zero, List.drop_succ_cons, List.drop_zero, Act.put, List.setIfInBounds_toArray, List.set_cons_succ, List.set_cons_zero, Nat.reduceAdd]
      rw [show vs 0 = _ from h0]
      go_wp2_with (go_at_call 16; refine (CTK.out y (HRR.out y hg)).mono ?_; rintro e z ⟨A2, c2, rfl, hr2, gz, hb2⟩)
      exact ⟨rfl, _, rfl, gz, trivial, ⟨A2, c2, rfl, hr2, hb2, rd_lt hr2⟩⟩
    · intro vs y hg hd
      simp only [actOf, List.take_succ_cons, List.take_zero, List.drop_succ_cons, List.drop_zero, Act.put, List.setIfInBounds_toArray, List.set_cons_succ, List.set_cons_zero, Nat.reduceAdd]
      have hm := HMS.out y hg
      go_wp2_with (with_reducible refine wpList_load_mid rfl 30 (.tmp 3) rfl (w.heap.size + 1) 0 rfl gs.toList _ hm hurs rfl SLS.out ?_; simp only [Array.toArray_toList])
      exact ⟨rfl, _, rfl, grew_refl _, rfl⟩
    · intro vs y hg hd
      obtain ⟨h2, _⟩ := hd
      replace h2 := h2 rfl
      simp only [actOf, List.take_succ_cons, List.take_zero, List.drop_succ_cons, List.drop_zero, Act.put, List.setIfInBounds_toArray, List.set_cons_succ, List.set_cons_zero, Nat.reduceAdd]
      rw [show vs 2 = _ from h2]
      go_wp2_with (go_at_call 17; refine (CTS.out y (HRL.out y hg)).mono ?_; rintro e z ⟨A2, c2, rfl, hr2, gz, hb2⟩)
      exact ⟨rfl, _, rfl, gz, trivial, ⟨A2, c2, rfl, hr2, hb2, rd_lt hr2⟩⟩
    · intro vs y hg hd
      simp only [actOf, List.take_succ_cons, List.take_zero, List.drop_succ_cons, List.drop_zero, Act.put, List.setIfInBounds_toArray, List.set_cons_succ, List.set_cons_zero, Nat.reduceAdd]
      go_wp2_with fail
      exact ⟨rfl, _, rfl, grew_alloc (grew_refl _) _, ⟨⟨rfl, Ag.new y 36 (#[.int .i64 0, .slice none 0 0, .int .i64 0]), by simp⟩⟩⟩
    · intro vs y hg hd
      simp only [actOf, List.take_succ_cons, List.take_zero, List.drop_succ_cons, List.drop_zero, Act.put, List.setIfInBounds_toArray, List.set_cons_succ, List.set_cons_zero, Nat.reduceAdd]
      go_wp2_with fail
      exact ⟨rfl, _, rfl, grew_alloc (grew_refl _) _, ⟨⟨rfl, Ag.new y 44 (#[.int .u64 0, .int .i64 0, .int .i64 0, .int .i64 0, .int .i64 0, .int .u64 0, .int .u64 0, .int .u64 0, .int .u64 0, .int .u64 0, .int .u64 0, .int .u64 0, .int .u64 0, .int .u64 0, .int .u64 0, .int .u64 0, .int .u64 0, .int .u64 0, .int .u64 0, .int .u64 0, .int .u64 0, .int .u64 0, .int .u64 0, .slice none 0 0]), by simp⟩⟩⟩
  · intro i lo hi v x y h hg
    match i, h with
    | 1, h => exact KW.gr h hg
    | 3, h => exact SW.gr h hg
    | 4, h => exact NW.gr h hg
    | 5, h => exact NW.gr h hg
    | 0, _ => trivial
    | 2, _ => trivial
    | m + 6, _ => trivial
  · intro vs lo hi y hg hJ hK hB hD
    have k26 := hK 1 (by decide)
    have b26 := hB 1 (by decide)
    have k28 := hK 3 (by decide)
    have b28 := hB 3 (by decide)
    have k5 := hK 4 (by decide)
    have b5 := hB 4 (by decide)
    have k6 := hK 5 (by decide)
    have b6 := hB 5 (by decide)
    have d26_28 := hD 1 (by decide) 3 (by decide) (by decide)
    have d26_5 := hD 1 (by decide) 4 (by decide) (by decide)
    have d26_6 := hD 1 (by decide) 5 (by decide) (by decide)
    have d28_5 := hD 3 (by decide) 4 (by decide) (by decide)
    have d28_6 := hD 3 (by decide) 5 (by decide) (by decide)
    have d5_6 := hD 4 (by decide) 5 (by decide) (by decide)
    clear hK hB hD
    have j0 : vs 0 = .agg gk := hJ 0 (by decide)
    have j2 : vs 2 = .agg gs := hJ 2 (by decide)
    have s26 := hJ 1 (by decide)
    have s28 := hJ 3 (by decide)
    have s5 := hJ 4 (by decide)
    have s6 := hJ 5 (by decide)
    clear hJ
    simp only [actOf, List.take_succ_cons, List.take_zero, List.drop_succ_cons, List.drop_zero, Act.put, List.setIfInBounds_toArray, List.set_cons_succ, List.set_cons_zero, Nat.reduceAdd]
    obtain ⟨A2, xc, j26, r26, lo26, hi26⟩ := KW.out k26
    obtain ⟨A3, yc, j28, r28, lo28, hi28⟩ := SW.out k28
    obtain ⟨j5, g5, e5⟩ := NW.out k5
    obtain ⟨j6, g6, e6⟩ := NW.out k6
    have r26 : Rd y y.heap.size A2 (u64L R) := r26
    have r28 : Rd y y.heap.size A3 (u64L l) := r28
    have hq12 : lo 4 ≠ lo 5 := by omega
    have G13 := hg
    obtain ⟨v2, w3, hv2, hw3, th1, th2, x1, x2, g13, K3⟩ := two_put (c1 := (kyS f A2 R.length xc h).toList) (c2 := (stC cm who at_ sw lf s (.slice A3 l.length yc)).toList) g5 g6 hq12 rfl rfl hg b5.1 b6.1
    have rx := rd_apart r26 K3 (fun ad e => by
      rcases hi26 ad e with h1 | h1
      · exact .inl h1
      · have h2 := lo26 ad e
        refine .inr (fun hh => ?_)
        rcases hh with hh | hh <;> omega)
    have ry := rd_apart r28 K3 (fun ad e => by
      rcases hi28 ad e with h1 | h1
      · exact .inl h1
      · have h2 := lo28 ad e
        refine .inr (fun hh => ?_)
        rcases hh with hh | hh <;> omega)
    clear r26 r28 lo26 lo28 hi26 hi28 k26 k28 k5 k6 b26 b28 b5 b6 d5_6 d26_28 g5 g6 e5 e6 K3 hq12 G13 hg HZ0 HZ1 HRR HRL
    have G3 := grew_trans G1 g13
    rw [j26, j28, j5, j6]
    clear j26 j28 j5 j6 j0 j2 HMS CTK CTS
    generalize lo 4 = q1 at *
    generalize lo 5 = q2 at *
    have HT1 : Hid (y.there q1 0 (kyS f A2 R.length xc h).size) := Lib.hid th1
    have HT2 : Hid (v2.there q2 0 (stC cm who at_ sw lf s (.slice A3 l.length yc)).size) := Lib.hid th2
    have HV2 := Lib.hid hv2
    have HW3 := Lib.hid hw3
    have SIX : Hid ((Tryz.prog.info? 36).map (·.size) = some (kyS f A2 R.length xc h).size) := Lib.hid ky_info
    have SIY : Hid ((Tryz.prog.info? 44).map (·.size) = some (stC cm who at_ sw lf s (.slice A3 l.length yc)).size) := Lib.hid st_info
    have ONX := Lib.hid (kyS_one f h A2 R.length xc)
    have ONY := Lib.hid (stC_one cm who at_ sw lf s A3 l.length yc)
    have BHMX := Lib.hid (fun y (g : Grew w3 y) => (x1.grew g).cell)
    have BHMY := Lib.hid (fun y (g : Grew w3 y) => (x2.grew g).cell)
    have BHRX := Lib.hid (fun y (g : Grew w3 y) => rx.gr g)
    have BHRY := Lib.hid (fun y (g : Grew w3 y) => ry.gr g)
    have X2 := Lib.hid x2
    have BHY0 := Lib.hid (fun y (g : Grew w3 y) => (by simpa using (X2.out.grew g).cell 0 _ rfl : y.cell? ⟨q2, 0, none⟩ = some (.int .u64 (cm : Nat))))
    have BHY1 := Lib.hid (fun y (g : Grew w3 y) => (by simpa using (X2.out.grew g).cell 1 _ rfl : y.cell? ⟨q2, 1, none⟩ = some (.int .i64 who)))
    have BHY2 := Lib.hid (fun y (g : Grew w3 y) => (by simpa using (X2.out.grew g).cell 2 _ rfl : y.cell? ⟨q2, 2, none⟩ = some (.int .i64 at_)))
    have CCK := Lib.hid (fun W => stkeys_ok f R A2 xc h (by have := HR20.out; omega) W)
    have CX1 := Lib.hid (fun W hW hR => sttext_ok cm who at_ sw lf s A3 yc l HCM.out HWHO.out HAT.out HSW.out HLF.out (by have := HL20.out; omega) HSs.out HLb.out W hW hR)
    have CV1 := Lib.hid (fun hf W hW h1 h2 => stvalid_ok f hf R A2 xc h cm who at_ sw lf s A3 yc l HCM.out HWHO.out HAT.out HSW.out HLF.out (by have := HL20.out; omega) HSs.out HLb.out (by have := HR20.out; omega) HRb.out W hW h1 h2)
    have CSY := Lib.hid (fun W h1 => stsame_eq cm who at_ sw lf s A3 A3 yc yc l (by have := HL20.out; omega) W h1 h1)
    have SLX : Hid ((Tryz.prog.info? 36).map (·.size) = some (kyS f A2 R.length xc h).toList.length) := Lib.hid ky_info
    have SLY : Hid ((Tryz.prog.info? 44).map (·.size) = some (stC cm who at_ sw lf s (.slice A3 l.length yc)).toList.length) := Lib.hid st_info
    have CD1 := Lib.hid (fun W hW => stdigest_ok cm who at_ HCM.out HWHO.out HAT.out W hW)
    have CD2 := Lib.hid (fun W => rstdigest_ok cm who at_ HCM.out HWHO.out HAT.out W)
    have CW1 := Lib.hid (fun W hW => stwords_ok cm who at_ HCM.out HWHO.out HAT.out W hW)
    have CW2 := Lib.hid (fun W => rstwords_ok cm who at_ HCM.out HWHO.out HAT.out W)
    have HTL := Lib.hid (stT_len cm who at_ sw lf s l HWHO.out HAT.out HSW.out HLF.out (by have := HL20.out; omega))
    have HCE : Hid (cyE f R.length h = 0 → 1 ≤ f ∧ f ≤ 3) := Lib.hid (fun e => by
      unfold cyE at e
      by_cases hb : f < 1 ∨ 3 < f
      · rw [if_pos hb] at e; cases e
      · omega)
    clear th1 th2 hv2 hw3 x1 x2 rx ry X2 HCM HWHO HAT HSW HLF HSs HLb HRb HR20
    generalize kyS f A2 R.length xc h = gx at *
    generalize stC cm who at_ sw lf s (.slice A3 l.length yc) = gy at *
    generalize cyE f R.length h = ce at *
    generalize stD cm who at_ = D at *
    generalize (⟨(stW cm who at_).toArray⟩ : ByteArray) = tw at *
    generalize vaE f R h cm who at_ sw lf s l = va at *
    have HTS : Hid ((⟨(stT cm who at_ sw lf s l).toArray⟩ : ByteArray).size ≤ 1000000) := Lib.hid (by simpa [ByteArray.size] using HTL.out)
    clear HTL
    generalize (⟨(stT cm who at_ sw lf s l).toArray⟩ : ByteArray) = tt at *
    have hmk := HMK.out w3 g13
    go_wp2_with (first
      | (with_reducible refine wpList_store_mid rfl 36 (.tmp 5) (.tmp 26) rfl q1 0 gx rfl rfl HT1.out SIX.out ONX.out ?_; rw [HV2.out])
      | (with_reducible refine wpList_store_mid rfl 44 (.tmp 6) (.tmp 28) rfl q2 0 gy rfl rfl HT2.out SIY.out ONY.out ?_; rw [HW3.out])
      | (with_reducible refine wpList_load_mid rfl 24 (.tmp 2) rfl w.heap.size 0 rfl gk.toList _ hmk hurk rfl SLK.out ?_; simp only [Array.toArray_toList]))
    clear hmk HMK HT1 HT2 HV2 HW3 SIX SIY ONX ONY
    refine (CCR.out w3).mono ?_
    rintro e w4 ⟨rfl, g34⟩
    clear CCR
    have g14 := grew_trans g13 g34
    have G4 := grew_trans G3 g34
    have HMK := Lib.hid (fun y (g : Grew w4 y) => BHMK.out y (grew_trans g14 g))
    have HMS := Lib.hid (fun y (g : Grew w4 y) => BHMS.out y (grew_trans g14 g))
    have HRK := Lib.hid (fun y (g : Grew w4 y) => BHRK.out y (grew_trans g14 g))
    have HRS := Lib.hid (fun y (g : Grew w4 y) => BHRS.out y (grew_trans g14 g))
    have HS0 := Lib.hid (fun y (g : Grew w4 y) => BHS0.out y (grew_trans g14 g))
    have HS1 := Lib.hid (fun y (g : Grew w4 y) => BHS1.out y (grew_trans g14 g))
    have HS2 := Lib.hid (fun y (g : Grew w4 y) => BHS2.out y (grew_trans g14 g))
    have HMX := Lib.hid (fun y (g : Grew w4 y) => BHMX.out y (grew_trans g34 g))
    have HMY := Lib.hid (fun y (g : Grew w4 y) => BHMY.out y (grew_trans g34 g))
    have HRX := Lib.hid (fun y (g : Grew w4 y) => BHRX.out y (grew_trans g34 g))
    have HRY := Lib.hid (fun y (g : Grew w4 y) => BHRY.out y (grew_trans g34 g))
    have HY0 := Lib.hid (fun y (g : Grew w4 y) => BHY0.out y (grew_trans g34 g))
    have HY1 := Lib.hid (fun y (g : Grew w4 y) => BHY1.out y (grew_trans g34 g))
    have HY2 := Lib.hid (fun y (g : Grew w4 y) => BHY2.out y (grew_trans g34 g))
    go_upto_region 7 with fail
    refine wp_region_rel 44 (fun i => match i with
        | 0 => fun v _ => v = .agg gx
        | 1 => fun v _ => v = .int .i64 ce
        | 2 => fun v _ => v = .int .i64 ce
        | 3 => fun v _ => v = .bool false
        | 4 => fun v _ => v = .bool false
        | 5 => fun v _ => v = .pointer (some ⟨q2, 0, none⟩)
        | 6 => fun v _ => v = .int .u64 (cm : Nat)
        | 7 => fun v _ => v = .pointer (some ⟨q2, 1, none⟩)
        | 8 => fun v _ => v = .int .i64 who
        | 9 => fun v _ => v = .pointer (some ⟨q2, 2, none⟩)
        | 10 => fun v _ => v = .int .i64 at_
        | 11 => fun v _ => v = .int .u64 (D : Nat)
        | 12 => fun v _ => v = .pointer (some ⟨w.heap.size + 1, 0, none⟩)
        | 13 => fun v _ => v = .int .u64 (cm : Nat)
        | 14 => fun v _ => v = .pointer (some ⟨w.heap.size + 1, 1, none⟩)
        | 15 => fun v _ => v = .int .i64 who
        | 16 => fun v _ => v = .pointer (some ⟨w.heap.size + 1, 2, none⟩)
        | 17 => fun v _ => v = .int .i64 at_
        | 18 => fun v _ => v = .int .u64 (D : Nat)
        | 19 => fun v _ => v = .bool false
        | 20 => fun v _ => v = .bool false
        | 21 => fun v _ => v = .bool false
        | 22 => fun v _ => v = .pointer (some ⟨q2, 0, none⟩)
        | 23 => fun v _ => v = .int .u64 (cm : Nat)
        | 24 => fun v _ => v = .pointer (some ⟨q2, 1, none⟩)
        | 25 => fun v _ => v = .int .i64 who
        | 26 => fun v _ => v = .pointer (some ⟨q2, 2, none⟩)
        | 27 => fun v _ => v = .int .i64 at_
        | 28 => fun v _ => v = .string tw
        | 29 => fun v _ => v = .pointer (some ⟨w.heap.size + 1, 0, none⟩)
        | 30 => fun v _ => v = .int .u64 (cm : Nat)
        | 31 => fun v _ => v = .pointer (some ⟨w.heap.size + 1, 1, none⟩)
        | 32 => fun v _ => v = .int .i64 who
        | 33 => fun v _ => v = .pointer (some ⟨w.heap.size + 1, 2, none⟩)
        | 34 => fun v _ => v = .int .i64 at_
        | 35 => fun v _ => v = .string tw
        | 36 => fun v _ => v = .bool false
        | 37 => fun v _ => v = .bool false
        | 38 => fun v _ => v = .bool false
        | 39 => fun v _ => v = .agg gy
        | 40 => fun v _ => v = .string tt
        | 41 => fun v _ => v = .agg gs
        | 42 => fun v _ => v = .string tt
        | 43 => fun v _ => v = .bool false
        | _ => fun _ _ => True) (by kernel_rfl) (by kernel_rfl) ?_ ?_ ?_
    · intro i v x y h hg
      match i, h with
      | 0, h | 1, h | 2, h | 3, h | 4, h | 5, h | 6, h | 7, h | 8, h | 9, h | 10, h | 11, h | 12, h | 13, h | 14, h | 15, h | 16, h | 17, h | 18, h | 19, h | 20, h | 21, h | 22, h | 23, h | 24, h | 25, h | 26, h | 27, h | 28, h | 29, h | 30, h | 31, h | 32, h | 33, h | 34, h | 35, h | 36, h | 37, h | 38, h | 39, h | 40, h | 41, h | 42, h | 43, h => exact h
      | m + 44, _ => trivial
    · refine ⟨?_, ?_, ?_, ?_, ?_, ?_, ?_, ?_, ?_, ?_, ?_, ?_, ?_, ?_, ?_, ?_, ?_, ?_, ?_, ?_, ?_, ?_, ?_, ?_, ?_, ?_, ?_, ?_, ?_, ?_, ?_, ?_, ?_, ?_, ?_, ?_, ?_, ?_, ?_, ?_, ?_, ?_, ?_, ?_, trivial⟩
      · intro vs y hg hd
        simp only [actOf, List.take_succ_cons, List.take_zero, List.drop_succ_cons, List.drop_zero, Act.put, List.setIfInBounds_toArray, List.set_cons_succ, List.set_cons_zero, Nat.reduceAdd]
        have hm := HMX.out y hg
        go_wp2_with (with_reducible refine wpList_load_mid rfl 36 (.tmp 5) rfl q1 0 rfl gx.toList _ hm huk rfl SLX.out ?_; simp only [Array.toArray_toList])
        exact ⟨rfl, _, rfl, grew_refl _, rfl⟩
      · intro vs y hg hd
        obtain ⟨h0, _⟩ := hd
        replace h0 := h0 rfl
        simp only [actOf, List.take_succ_cons, List.take_zero, List.drop_succ_cons, List.drop_zero, Act.put, List.setIfInBounds_toArray, List.set_cons_succ, List.set_cons_zero, Nat.reduceAdd]
        rw [show vs 0 = _ from h0]
        go_wp2_with (go_at_call 19; refine (CCK.out y).mono ?_; rintro e z ⟨rfl, gz⟩)
        exact ⟨rfl, _, rfl, gz, rfl⟩
      · intro vs y hg hd
        simp only [actOf, List.take_succ_cons, List.take_zero, List.drop_succ_cons, List.drop_zero, Act.put, List.setIfInBounds_toArray, List.set_cons_succ, List.set_cons_zero, Nat.reduceAdd]
        go_wp2_with fail
        exact ⟨rfl, _, rfl, grew_refl _, rfl⟩
      · intro vs y hg hd
        obtain ⟨h1, h2, _⟩ := hd
        replace h1 := h1 rfl
        replace h2 := h2 rfl
        simp only [actOf, List.take_succ_cons, List.take_zero, List.drop_succ_cons, List.drop_zero, Act.put, List.setIfInBounds_toArray, List.set_cons_succ, List.set_cons_zero, Nat.reduceAdd]
        rw [show vs 1 = _ from h1, show vs 2 = _ from h2]
        go_wp2_with fail
        exact ⟨rfl, _, rfl, grew_refl _, by simp⟩
      · intro vs y hg hd
        obtain ⟨h3, _⟩ := hd
        replace h3 := h3 rfl
        simp only [actOf, List.take_succ_cons, List.take_zero, List.drop_succ_cons, List.drop_zero, Act.put, List.setIfInBounds_toArray, List.set_cons_succ, List.set_cons_zero, Nat.reduceAdd]
        rw [show vs 3 = _ from h3]
        go_wp2_with fail
        exact ⟨rfl, _, rfl, grew_refl _, rfl⟩
      · intro vs y hg hd
        have hx : (Region.binds .any { on := 4, ground := .guard } = true → vs 4 = .bool false) ∧ True := hd
        have h4 : vs 4 = .bool false := hx.1 rfl
        clear hx
        simp only [actOf, List.take_succ_cons, List.take_zero, List.drop_succ_cons, List.drop_zero, Act.put, List.setIfInBounds_toArray, List.set_cons_succ, List.set_cons_zero, Nat.reduceAdd]
        rw [show vs 4 = _ from h4]
        go_wp2_with fail
        exact ⟨rfl, _, rfl, grew_refl _, rfl⟩
      · intro vs y hg hd
        have hx : (Region.binds .any { on := 5, ground := .data } = true → vs 5 = .pointer (some ⟨q2, 0, none⟩)) ∧ (Region.binds .any { on := 4, ground := .guard } = true → vs 4 = .bool false) ∧ True := hd
        have h5 : vs 5 = .pointer (some ⟨q2, 0, none⟩) := hx.1 rfl
        have h4 : vs 4 = .bool false := hx.2.1 rfl
        clear hx
        simp only [actOf, List.take_succ_cons, List.take_zero, List.drop_succ_cons, List.drop_zero, Act.put, List.setIfInBounds_toArray, List.set_cons_succ, List.set_cons_zero, Nat.reduceAdd]
        rw [show vs 5 = _ from h5, show vs 4 = _ from h4]
        have hc := HY0.out y hg
        go_wp2_with fail
        exact ⟨rfl, _, rfl, grew_refl _, rfl⟩
      · intro vs y hg hd
        have hx : (Region.binds .any { on := 4, ground := .guard } = true → vs 4 = .bool false) ∧ True := hd
        have h4 : vs 4 = .bool false := hx.1 rfl
        clear hx
        simp only [actOf, List.take_succ_cons, List.take_zero, List.drop_succ_cons, List.drop_zero, Act.put, List.setIfInBounds_toArray, List.set_cons_succ, List.set_cons_zero, Nat.reduceAdd]
        rw [show vs 4 = _ from h4]
        go_wp2_with fail
        exact ⟨rfl, _, rfl, grew_refl _, rfl⟩
      · intro vs y hg hd
        have hx : (Region.binds .any { on := 7, ground := .data } = true → vs 7 = .pointer (some ⟨q2, 1, none⟩)) ∧ (Region.binds .any { on := 4, ground := .guard } = true → vs 4 = .bool false) ∧ True := hd
        have h7 : vs 7 = .pointer (some ⟨q2, 1, none⟩) := hx.1 rfl
        have h4 : vs 4 = .bool false := hx.2.1 rfl
        clear hx
        simp only [actOf, List.take_succ_cons, List.take_zero, List.drop_succ_cons, List.drop_zero, Act.put, List.setIfInBounds_toArray, List.set_cons_succ, List.set_cons_zero, Nat.reduceAdd]
        rw [show vs 7 = _ from h7, show vs 4 = _ from h4]
        have hc := HY1.out y hg
        go_wp2_with fail
        exact ⟨rfl, _, rfl, grew_refl _, rfl⟩
      · intro vs y hg hd
        have hx : (Region.binds .any { on := 4, ground := .guard } = true → vs 4 = .bool false) ∧ True := hd
        have h4 : vs 4 = .bool false := hx.1 rfl
        clear hx
        simp only [actOf, List.take_succ_cons, List.take_zero, List.drop_succ_cons, List.drop_zero, Act.put, List.setIfInBounds_toArray, List.set_cons_succ, List.set_cons_zero, Nat.reduceAdd]
        rw [show vs 4 = _ from h4]
        go_wp2_with fail
        exact ⟨rfl, _, rfl, grew_refl _, rfl⟩
      · intro vs y hg hd
        have hx : (Region.binds .any { on := 9, ground := .data } = true → vs 9 = .pointer (some ⟨q2, 2, none⟩)) ∧ (Region.binds .any { on := 4, ground := .guard } = true → vs 4 = .bool false) ∧ True := hd
        have h9 : vs 9 = .pointer (some ⟨q2, 2, none⟩) := hx.1 rfl
        have h4 : vs 4 = .bool false := hx.2.1 rfl
        clear hx
        simp only [actOf, List.take_succ_cons, List.take_zero, List.drop_succ_cons, List.drop_zero, Act.put, List.setIfInBounds_toArray, List.set_cons_succ, List.set_cons_zero, Nat.reduceAdd]
        rw [show vs 9 = _ from h9, show vs 4 = _ from h4]
        have hc := HY2.out y hg
        go_wp2_with fail
        exact ⟨rfl, _, rfl, grew_refl _, rfl⟩
      · intro vs y hg hd
        have hx : (Region.binds .any { on := 6, ground := .data } = true → vs 6 = .int .u64 (cm : Nat)) ∧ (Region.binds .any { on := 8, ground := .data } = true → vs 8 = .int .i64 who) ∧ (Region.binds .any { on := 10, ground := .data } = true → vs 10 = .int .i64 at_) ∧ (Region.binds .any { on := 4, ground := .chain } = true → vs 4 = .bool false) ∧ (Region.binds .any { on := 4, ground := .guard } = true → vs 4 = .bool false) ∧ True := hd
        have h6 : vs 6 = .int .u64 (cm : Nat) := hx.1 rfl
        have h8 : vs 8 = .int .i64 who := hx.2.1 rfl
        have h10 : vs 10 = .int .i64 at_ := hx.2.2.1 rfl
        have h4 : vs 4 = .bool false := hx.2.2.2.2.1 rfl
        clear hx
        simp only [actOf, List.take_succ_cons, List.take_zero, List.drop_succ_cons, List.drop_zero, Act.put, List.setIfInBounds_toArray, List.set_cons_succ, List.set_cons_zero, Nat.reduceAdd]
        rw [show vs 6 = _ from h6, show vs 8 = _ from h8, show vs 10 = _ from h10, show vs 4 = _ from h4]
        go_wp2_with (go_at_call 20; refine (CD1.out y (HS.out.grew (grew_trans G4 hg))).mono ?_; rintro e z ⟨rfl, gz⟩)
        exact ⟨rfl, _, rfl, gz, rfl⟩
      · intro vs y hg hd
        have hx : (Region.binds .any { on := 4, ground := .guard } = true → vs 4 = .bool false) ∧ True := hd
        have h4 : vs 4 = .bool false := hx.1 rfl
        clear hx
        simp only [actOf, List.take_succ_cons, List.take_zero, List.drop_succ_cons, List.drop_zero, Act.put, List.setIfInBounds_toArray, List.set_cons_succ, List.set_cons_zero, Nat.reduceAdd]
        rw [show vs 4 = _ from h4]
        go_wp2_with fail
        exact ⟨rfl, _, rfl, grew_refl _, rfl⟩
      · intro vs y hg hd
        have hx : (Region.binds .any { on := 12, ground := .data } = true → vs 12 = .pointer (some ⟨w.heap.size + 1, 0, none⟩)) ∧ (Region.binds .any { on := 4, ground := .guard } = true → vs 4 = .bool false) ∧ True := hd
        have h12 : vs 12 = .pointer (some ⟨w.heap.size + 1, 0, none⟩) := hx.1 rfl
        have h4 : vs 4 = .bool false := hx.2.1 rfl
        clear hx
        simp only [actOf, List.take_succ_cons, List.take_zero, List.drop_succ_cons, List.drop_zero, Act.put, List.setIfInBounds_toArray, List.set_cons_succ, List.set_cons_zero, Nat.reduceAdd]
        rw [show vs 12 = _ from h12, show vs 4 = _ from h4]
        have hc := HS0.out y hg
        go_wp2_with fail
        exact ⟨rfl, _, rfl, grew_refl _, rfl⟩
      · intro vs y hg hd
        have hx : (Region.binds .any { on := 4, ground := .guard } = true → vs 4 = .bool false) ∧ True := hd
        have h4 : vs 4 = .bool false := hx.1 rfl
        clear hx
        simp only [actOf, List.take_succ_cons, List.take_zero, List.drop_succ_cons, List.drop_zero, Act.put, List.setIfInBounds_toArray, List.set_cons_succ, List.set_cons_zero, Nat.reduceAdd]
        rw [show vs 4 = _ from h4]
        go_wp2_with fail
        exact ⟨rfl, _, rfl, grew_refl _, rfl⟩
      · intro vs y hg hd
        have hx : (Region.binds .any { on := 14, ground := .data } = true → vs 14 = .pointer (some ⟨w.heap.size + 1, 1, none⟩)) ∧ (Region.binds .any { on := 4, ground := .guard } = true → vs 4 = .bool false) ∧ True := hd
        have h14 : vs 14 = .pointer (some ⟨w.heap.size + 1, 1, none⟩) := hx.1 rfl
        have h4 : vs 4 = .bool false := hx.2.1 rfl
        clear hx
        simp only [actOf, List.take_succ_cons, List.take_zero, List.drop_succ_cons, List.drop_zero, Act.put, List.setIfInBounds_toArray, List.set_cons_succ, List.set_cons_zero, Nat.reduceAdd]
        rw [show vs 14 = _ from h14, show vs 4 = _ from h4]
        have hc := HS1.out y hg
        go_wp2_with fail
        exact ⟨rfl, _, rfl, grew_refl _, rfl⟩
      · intro vs y hg hd
        have hx : (Region.binds .any { on := 4, ground := .guard } = true → vs 4 = .bool false) ∧ True := hd
        have h4 : vs 4 = .bool false := hx.1 rfl
        clear hx
        simp only [actOf, List.take_succ_cons, List.take_zero, List.drop_succ_cons, List.drop_zero, Act.put, List.setIfInBounds_toArray, List.set_cons_succ, List.set_cons_zero, Nat.reduceAdd]
        rw [show vs 4 = _ from h4]
        go_wp2_with fail
        exact ⟨rfl, _, rfl, grew_refl _, rfl⟩
      · intro vs y hg hd
        have hx : (Region.binds .any { on := 16, ground := .data } = true → vs 16 = .pointer (some ⟨w.heap.size + 1, 2, none⟩)) ∧ (Region.binds .any { on := 4, ground := .guard } = true → vs 4 = .bool false) ∧ True := hd
        have h16 : vs 16 = .pointer (some ⟨w.heap.size + 1, 2, none⟩) := hx.1 rfl
        have h4 : vs 4 = .bool false := hx.2.1 rfl
        clear hx
        simp only [actOf, List.take_succ_cons, List.take_zero, List.drop_succ_cons, List.drop_zero, Act.put, List.setIfInBounds_toArray, List.set_cons_succ, List.set_cons_zero, Nat.reduceAdd]
        rw [show vs 16 = _ from h16, show vs 4 = _ from h4]
        have hc := HS2.out y hg
        go_wp2_with fail
        exact ⟨rfl, _, rfl, grew_refl _, rfl⟩
      · intro vs y hg hd
        have hx : (Region.binds .any { on := 13, ground := .data } = true → vs 13 = .int .u64 (cm : Nat)) ∧ (Region.binds .any { on := 15, ground := .data } = true → vs 15 = .int .i64 who) ∧ (Region.binds .any { on := 17, ground := .data } = true → vs 17 = .int .i64 at_) ∧ (Region.binds .any { on := 11, ground := .chain } = true → vs 11 = .int .u64 (D : Nat)) ∧ (Region.binds .any { on := 4, ground := .guard } = true → vs 4 = .bool false) ∧ True := hd
        have h13 : vs 13 = .int .u64 (cm : Nat) := hx.1 rfl
        have h15 : vs 15 = .int .i64 who := hx.2.1 rfl
        have h17 : vs 17 = .int .i64 at_ := hx.2.2.1 rfl
        have h4 : vs 4 = .bool false := hx.2.2.2.2.1 rfl
        clear hx
        simp only [actOf, List.take_succ_cons, List.take_zero, List.drop_succ_cons, List.drop_zero, Act.put, List.setIfInBounds_toArray, List.set_cons_succ, List.set_cons_zero, Nat.reduceAdd]
        rw [show vs 13 = _ from h13, show vs 15 = _ from h15, show vs 17 = _ from h17, show vs 4 = _ from h4]
        go_wp2_with (go_at_call 21; refine (CD2.out y).mono ?_; rintro e z ⟨rfl, gz⟩)
        exact ⟨rfl, _, rfl, gz, rfl⟩
      · intro vs y hg hd
        have hx : (Region.binds .any { on := 11, ground := .data } = true → vs 11 = .int .u64 (D : Nat)) ∧ (Region.binds .any { on := 18, ground := .data } = true → vs 18 = .int .u64 (D : Nat)) ∧ (Region.binds .any { on := 4, ground := .guard } = true → vs 4 = .bool false) ∧ True := hd
        have h11 : vs 11 = .int .u64 (D : Nat) := hx.1 rfl
        have h18 : vs 18 = .int .u64 (D : Nat) := hx.2.1 rfl
        have h4 : vs 4 = .bool false := hx.2.2.1 rfl
        clear hx
        simp only [actOf, List.take_succ_cons, List.take_zero, List.drop_succ_cons, List.drop_zero, Act.put, List.setIfInBounds_toArray, List.set_cons_succ, List.set_cons_zero, Nat.reduceAdd]
        rw [show vs 11 = _ from h11, show vs 18 = _ from h18, show vs 4 = _ from h4]
        go_wp2_with fail
        exact ⟨rfl, _, rfl, grew_refl _, by simp⟩
      · intro vs y hg hd
        obtain ⟨h4, h19, _⟩ := hd
        replace h4 := h4 rfl
        replace h19 := h19 rfl
        simp only [actOf, List.take_succ_cons, List.take_zero, List.drop_succ_cons, List.drop_zero, Act.put, List.setIfInBounds_toArray, List.set_cons_succ, List.set_cons_zero, Nat.reduceAdd]
        rw [show vs 4 = _ from h4, show vs 19 = _ from h19]
        go_wp2_with fail
        exact ⟨rfl, _, rfl, grew_refl _, rfl⟩
      · intro vs y hg hd
        obtain ⟨h20, _⟩ := hd
        replace h20 := h20 rfl
        simp only [actOf, List.take_succ_cons, List.take_zero, List.drop_succ_cons, List.drop_zero, Act.put, List.setIfInBounds_toArray, List.set_cons_succ, List.set_cons_zero, Nat.reduceAdd]
        rw [show vs 20 = _ from h20]
        go_wp2_with fail
        exact ⟨rfl, _, rfl, grew_refl _, rfl⟩
      · intro vs y hg hd
        have hx : (Region.binds .any { on := 21, ground := .guard } = true → vs 21 = .bool false) ∧ True := hd
        have h21 : vs 21 = .bool false := hx.1 rfl
        clear hx
        simp only [actOf, List.take_succ_cons, List.take_zero, List.drop_succ_cons, List.drop_zero, Act.put, List.setIfInBounds_toArray, List.set_cons_succ, List.set_cons_zero, Nat.reduceAdd]
        rw [show vs 21 = _ from h21]
        go_wp2_with fail
        exact ⟨rfl, _, rfl, grew_refl _, rfl⟩
      · intro vs y hg hd
        have hx : (Region.binds .any { on := 22, ground := .data } = true → vs 22 = .pointer (some ⟨q2, 0, none⟩)) ∧ (Region.binds .any { on := 21, ground := .guard } = true → vs 21 = .bool false) ∧ True := hd
        have h22 : vs 22 = .pointer (some ⟨q2, 0, none⟩) := hx.1 rfl
        have h21 : vs 21 = .bool false := hx.2.1 rfl
        clear hx
        simp only [actOf, List.take_succ_cons, List.take_zero, List.drop_succ_cons, List.drop_zero, Act.put, List.setIfInBounds_toArray, List.set_cons_succ, List.set_cons_zero, Nat.reduceAdd]
        rw [show vs 22 = _ from h22, show vs 21 = _ from h21]
        have hc := HY0.out y hg
        go_wp2_with fail
        exact ⟨rfl, _, rfl, grew_refl _, rfl⟩
      · intro vs y hg hd
        have hx : (Region.binds .any { on := 21, ground := .guard } = true → vs 21 = .bool false) ∧ True := hd
        have h21 : vs 21 = .bool false := hx.1 rfl
        clear hx
        simp only [actOf, List.take_succ_cons, List.take_zero, List.drop_succ_cons, List.drop_zero, Act.put, List.setIfInBounds_toArray, List.set_cons_succ, List.set_cons_zero, Nat.reduceAdd]
        rw [show vs 21 = _ from h21]
        go_wp2_with fail
        exact ⟨rfl, _, rfl, grew_refl _, rfl⟩
      · intro vs y hg hd
        have hx : (Region.binds .any { on := 24, ground := .data } = true → vs 24 = .pointer (some ⟨q2, 1, none⟩)) ∧ (Region.binds .any { on := 21, ground := .guard } = true → vs 21 = .bool false) ∧ True := hd
        have h24 : vs 24 = .pointer (some ⟨q2, 1, none⟩) := hx.1 rfl
        have h21 : vs 21 = .bool false := hx.2.1 rfl
        clear hx
        simp only [actOf, List.take_succ_cons, List.take_zero, List.drop_succ_cons, List.drop_zero, Act.put, List.setIfInBounds_toArray, List.set_cons_succ, List.set_cons_zero, Nat.reduceAdd]
        rw [show vs 24 = _ from h24, show vs 21 = _ from h21]
        have hc := HY1.out y hg
        go_wp2_with fail
        exact ⟨rfl, _, rfl, grew_refl _, rfl⟩
      · intro vs y hg hd
        have hx : (Region.binds .any { on := 21, ground := .guard } = true → vs 21 = .bool false) ∧ True := hd
        have h21 : vs 21 = .bool false := hx.1 rfl
        clear hx
        simp only [actOf, List.take_succ_cons, List.take_zero, List.drop_succ_cons, List.drop_zero, Act.put, List.setIfInBounds_toArray, List.set_cons_succ, List.set_cons_zero, Nat.reduceAdd]
        rw [show vs 21 = _ from h21]
        go_wp2_with fail
        exact ⟨rfl, _, rfl, grew_refl _, rfl⟩
      · intro vs y hg hd
        have hx : (Region.binds .any { on := 26, ground := .data } = true → vs 26 = .pointer (some ⟨q2, 2, none⟩)) ∧ (Region.binds .any { on := 21, ground := .guard } = true → vs 21 = .bool false) ∧ True := hd
        have h26 : vs 26 = .pointer (some ⟨q2, 2, none⟩) := hx.1 rfl
        have h21 : vs 21 = .bool false := hx.2.1 rfl
        clear hx
        simp only [actOf, List.take_succ_cons, List.take_zero, List.drop_succ_cons, List.drop_zero, Act.put, List.setIfInBounds_toArray, List.set_cons_succ, List.set_cons_zero, Nat.reduceAdd]
        rw [show vs 26 = _ from h26, show vs 21 = _ from h21]
        have hc := HY2.out y hg
        go_wp2_with fail
        exact ⟨rfl, _, rfl, grew_refl _, rfl⟩
      · intro vs y hg hd
        have hx : (Region.binds .any { on := 23, ground := .data } = true → vs 23 = .int .u64 (cm : Nat)) ∧ (Region.binds .any { on := 25, ground := .data } = true → vs 25 = .int .i64 who) ∧ (Region.binds .any { on := 27, ground := .data } = true → vs 27 = .int .i64 at_) ∧ (Region.binds .any { on := 21, ground := .chain } = true → vs 21 = .bool false) ∧ (Region.binds .any { on := 21, ground := .guard } = true → vs 21 = .bool false) ∧ True := hd
        have h23 : vs 23 = .int .u64 (cm : Nat) := hx.1 rfl
        have h25 : vs 25 = .int .i64 who := hx.2.1 rfl
        have h27 : vs 27 = .int .i64 at_ := hx.2.2.1 rfl
        have h21 : vs 21 = .bool false := hx.2.2.2.2.1 rfl
        clear hx
        simp only [actOf, List.take_succ_cons, List.take_zero, List.drop_succ_cons, List.drop_zero, Act.put, List.setIfInBounds_toArray, List.set_cons_succ, List.set_cons_zero, Nat.reduceAdd]
        rw [show vs 23 = _ from h23, show vs 25 = _ from h25, show vs 27 = _ from h27, show vs 21 = _ from h21]
        go_wp2_with (go_at_call 22; refine (CW1.out y (HS.out.grew (grew_trans G4 hg))).mono ?_; rintro e z ⟨rfl, gz⟩)
        exact ⟨rfl, _, rfl, gz, rfl⟩
      · intro vs y hg hd
        have hx : (Region.binds .any { on := 21, ground := .guard } = true → vs 21 = .bool false) ∧ True := hd
        have h21 : vs 21 = .bool false := hx.1 rfl
        clear hx
        simp only [actOf, List.take_succ_cons, List.take_zero, List.drop_succ_cons, List.drop_zero, Act.put, List.setIfInBounds_toArray, List.set_cons_succ, List.set_cons_zero, Nat.reduceAdd]
        rw [show vs 21 = _ from h21]
        go_wp2_with fail
        exact ⟨rfl, _, rfl, grew_refl _, rfl⟩
      · intro vs y hg hd
        have hx : (Region.binds .any { on := 29, ground := .data } = true → vs 29 = .pointer (some ⟨w.heap.size + 1, 0, none⟩)) ∧ (Region.binds .any { on := 21, ground := .guard } = true → vs 21 = .bool false) ∧ True := hd
        have h29 : vs 29 = .pointer (some ⟨w.heap.size + 1, 0, none⟩) := hx.1 rfl
        have h21 : vs 21 = .bool false := hx.2.1 rfl
        clear hx
        simp only [actOf, List.take_succ_cons, List.take_zero, List.drop_succ_cons, List.drop_zero, Act.put, List.setIfInBounds_toArray, List.set_cons_succ, List.set_cons_zero, Nat.reduceAdd]
        rw [show vs 29 = _ from h29, show vs 21 = _ from h21]
        have hc := HS0.out y hg
        go_wp2_with fail
        exact ⟨rfl, _, rfl, grew_refl _, rfl⟩
      · intro vs y hg hd
        have hx : (Region.binds .any { on := 21, ground := .guard } = true → vs 21 = .bool false) ∧ True := hd
        have h21 : vs 21 = .bool false := hx.1 rfl
        clear hx
        simp only [actOf, List.take_succ_cons, List.take_zero, List.drop_succ_cons, List.drop_zero, Act.put, List.setIfInBounds_toArray, List.set_cons_succ, List.set_cons_zero, Nat.reduceAdd]
        rw [show vs 21 = _ from h21]
        go_wp2_with fail
        exact ⟨rfl, _, rfl, grew_refl _, rfl⟩
      · intro vs y hg hd
        have hx : (Region.binds .any { on := 31, ground := .data } = true → vs 31 = .pointer (some ⟨w.heap.size + 1, 1, none⟩)) ∧ (Region.binds .any { on := 21, ground := .guard } = true → vs 21 = .bool false) ∧ True := hd
        have h31 : vs 31 = .pointer (some ⟨w.heap.size + 1, 1, none⟩) := hx.1 rfl
        have h21 : vs 21 = .bool false := hx.2.1 rfl
        clear hx
        simp only [actOf, List.take_succ_cons, List.take_zero, List.drop_succ_cons, List.drop_zero, Act.put, List.setIfInBounds_toArray, List.set_cons_succ, List.set_cons_zero, Nat.reduceAdd]
        rw [show vs 31 = _ from h31, show vs 21 = _ from h21]
        have hc := HS1.out y hg
        go_wp2_with fail
        exact ⟨rfl, _, rfl, grew_refl _, rfl⟩
      · intro vs y hg hd
        have hx : (Region.binds .any { on := 21, ground := .guard } = true → vs 21 = .bool false) ∧ True := hd
        have h21 : vs 21 = .bool false := hx.1 rfl
        clear hx
        simp only [actOf, List.take_succ_cons, List.take_zero, List.drop_succ_cons, List.drop_zero, Act.put, List.setIfInBounds_toArray, List.set_cons_succ, List.set_cons_zero, Nat.reduceAdd]
        rw [show vs 21 = _ from h21]
        go_wp2_with fail
        exact ⟨rfl, _, rfl, grew_refl _, rfl⟩
      · intro vs y hg hd
        have hx : (Region.binds .any { on := 33, ground := .data } = true → vs 33 = .pointer (some ⟨w.heap.size + 1, 2, none⟩)) ∧ (Region.binds .any { on := 21, ground := .guard } = true → vs 21 = .bool false) ∧ True := hd
        have h33 : vs 33 = .pointer (some ⟨w.heap.size + 1, 2, none⟩) := hx.1 rfl
        have h21 : vs 21 = .bool false := hx.2.1 rfl
        clear hx
        simp only [actOf, List.take_succ_cons, List.take_zero, List.drop_succ_cons, List.drop_zero, Act.put, List.setIfInBounds_toArray, List.set_cons_succ, List.set_cons_zero, Nat.reduceAdd]
        rw [show vs 33 = _ from h33, show vs 21 = _ from h21]
        have hc := HS2.out y hg
        go_wp2_with fail
        exact ⟨rfl, _, rfl, grew_refl _, rfl⟩
      · intro vs y hg hd
        have hx : (Region.binds .any { on := 30, ground := .data } = true → vs 30 = .int .u64 (cm : Nat)) ∧ (Region.binds .any { on := 32, ground := .data } = true → vs 32 = .int .i64 who) ∧ (Region.binds .any { on := 34, ground := .data } = true → vs 34 = .int .i64 at_) ∧ (Region.binds .any { on := 28, ground := .chain } = true → vs 28 = .string tw) ∧ (Region.binds .any { on := 21, ground := .guard } = true → vs 21 = .bool false) ∧ True := hd
        have h30 : vs 30 = .int .u64 (cm : Nat) := hx.1 rfl
        have h32 : vs 32 = .int .i64 who := hx.2.1 rfl
        have h34 : vs 34 = .int .i64 at_ := hx.2.2.1 rfl
        have h21 : vs 21 = .bool false := hx.2.2.2.2.1 rfl
        clear hx
        simp only [actOf, List.take_succ_cons, List.take_zero, List.drop_succ_cons, List.drop_zero, Act.put, List.setIfInBounds_toArray, List.set_cons_succ, List.set_cons_zero, Nat.reduceAdd]
        rw [show vs 30 = _ from h30, show vs 32 = _ from h32, show vs 34 = _ from h34, show vs 21 = _ from h21]
        go_wp2_with (go_at_call 23; refine (CW2.out y).mono ?_; rintro e z ⟨rfl, gz⟩)
        exact ⟨rfl, _, rfl, gz, rfl⟩
      · intro vs y hg hd
        have hx : (Region.binds .any { on := 28, ground := .data } = true → vs 28 = .string tw) ∧ (Region.binds .any { on := 35, ground := .data } = true → vs 35 = .string tw) ∧ (Region.binds .any { on := 21, ground := .guard } = true → vs 21 = .bool false) ∧ True := hd
        have h28 : vs 28 = .string tw := hx.1 rfl
        have h35 : vs 35 = .string tw := hx.2.1 rfl
        have h21 : vs 21 = .bool false := hx.2.2.1 rfl
        clear hx
        simp only [actOf, List.take_succ_cons, List.take_zero, List.drop_succ_cons, List.drop_zero, Act.put, List.setIfInBounds_toArray, List.set_cons_succ, List.set_cons_zero, Nat.reduceAdd]
        rw [show vs 28 = _ from h28, show vs 35 = _ from h35, show vs 21 = _ from h21]
        go_wp2_with fail
        exact ⟨rfl, _, rfl, grew_refl _, by simp⟩
      · intro vs y hg hd
        obtain ⟨h21, h36, _⟩ := hd
        replace h21 := h21 rfl
        replace h36 := h36 rfl
        simp only [actOf, List.take_succ_cons, List.take_zero, List.drop_succ_cons, List.drop_zero, Act.put, List.setIfInBounds_toArray, List.set_cons_succ, List.set_cons_zero, Nat.reduceAdd]
        rw [show vs 21 = _ from h21, show vs 36 = _ from h36]
        go_wp2_with fail
        exact ⟨rfl, _, rfl, grew_refl _, rfl⟩
      · intro vs y hg hd
        obtain ⟨h37, _⟩ := hd
        replace h37 := h37 rfl
        simp only [actOf, List.take_succ_cons, List.take_zero, List.drop_succ_cons, List.drop_zero, Act.put, List.setIfInBounds_toArray, List.set_cons_succ, List.set_cons_zero, Nat.reduceAdd]
        rw [show vs 37 = _ from h37]
        go_wp2_with fail
        exact ⟨rfl, _, rfl, grew_refl _, rfl⟩
      · intro vs y hg hd
        have hx : (Region.binds .any { on := 38, ground := .guard } = true → vs 38 = .bool false) ∧ True := hd
        have h38 : vs 38 = .bool false := hx.1 rfl
        clear hx
        simp only [actOf, List.take_succ_cons, List.take_zero, List.drop_succ_cons, List.drop_zero, Act.put, List.setIfInBounds_toArray, List.set_cons_succ, List.set_cons_zero, Nat.reduceAdd]
        rw [show vs 38 = _ from h38]
        have hm := HMY.out y hg
        go_wp2_with (refine wpList_load_mid_want (by rfl) 44 (.tmp 6) rfl q2 0 rfl gy.toList _ hm hus rfl SLY.out ?_; simp only [Array.toArray_toList])
        exact ⟨rfl, _, rfl, grew_refl _, rfl⟩
      · intro vs y hg hd
        have hx : (Region.binds .any { on := 39, ground := .data } = true → vs 39 = .agg gy) ∧ (Region.binds .any { on := 38, ground := .chain } = true → vs 38 = .bool false) ∧ (Region.binds .any { on := 38, ground := .guard } = true → vs 38 = .bool false) ∧ True := hd
        have h39 : vs 39 = .agg gy := hx.1 rfl
        have h38 : vs 38 = .bool false := hx.2.2.1 rfl
        clear hx
        simp only [actOf, List.take_succ_cons, List.take_zero, List.drop_succ_cons, List.drop_zero, Act.put, List.setIfInBounds_toArray, List.set_cons_succ, List.set_cons_zero, Nat.reduceAdd]
        rw [show vs 39 = _ from h39, show vs 38 = _ from h38]
        go_wp2_with (go_at_call 24; refine (CX1.out y (HS.out.grew (grew_trans G4 hg)) (HRY.out y hg)).mono ?_; rintro e z ⟨rfl, gz⟩)
        exact ⟨rfl, _, rfl, gz, rfl⟩
      · intro vs y hg hd
        have hx : (Region.binds .any { on := 38, ground := .guard } = true → vs 38 = .bool false) ∧ True := hd
        have h38 : vs 38 = .bool false := hx.1 rfl
        clear hx
        simp only [actOf, List.take_succ_cons, List.take_zero, List.drop_succ_cons, List.drop_zero, Act.put, List.setIfInBounds_toArray, List.set_cons_succ, List.set_cons_zero, Nat.reduceAdd]
        rw [show vs 38 = _ from h38]
        have hm := HMS.out y hg
        go_wp2_with (refine wpList_load_mid_want (by rfl) 30 (.tmp 3) rfl (w.heap.size + 1) 0 rfl gs.toList _ hm hurs rfl SLS.out ?_; simp only [Array.toArray_toList])
        exact ⟨rfl, _, rfl, grew_refl _, rfl⟩
      · intro vs y hg hd
        have hx : (Region.binds .any { on := 41, ground := .data } = true → vs 41 = .agg gs) ∧ (Region.binds .any { on := 40, ground := .chain } = true → vs 40 = .string tt) ∧ (Region.binds .any { on := 38, ground := .guard } = true → vs 38 = .bool false) ∧ True := hd
        have h41 : vs 41 = .agg gs := hx.1 rfl
        have h38 : vs 38 = .bool false := hx.2.2.1 rfl
        clear hx
        simp only [actOf, List.take_succ_cons, List.take_zero, List.drop_succ_cons, List.drop_zero, Act.put, List.setIfInBounds_toArray, List.set_cons_succ, List.set_cons_zero, Nat.reduceAdd]
        rw [show vs 41 = _ from h41, show vs 38 = _ from h38]
        go_wp2_with (go_at_call 25; refine (CX2.out y (HRS.out y hg)).mono ?_; rintro e z ⟨rfl, gz⟩)
        exact ⟨rfl, _, rfl, gz, rfl⟩
      · intro vs y hg hd
        have hx : (Region.binds .any { on := 40, ground := .data } = true → vs 40 = .string tt) ∧ (Region.binds .any { on := 42, ground := .data } = true → vs 42 = .string tt) ∧ (Region.binds .any { on := 38, ground := .guard } = true → vs 38 = .bool false) ∧ True := hd
        have h40 : vs 40 = .string tt := hx.1 rfl
        have h42 : vs 42 = .string tt := hx.2.1 rfl
        have h38 : vs 38 = .bool false := hx.2.2.1 rfl
        clear hx
        simp only [actOf, List.take_succ_cons, List.take_zero, List.drop_succ_cons, List.drop_zero, Act.put, List.setIfInBounds_toArray, List.set_cons_succ, List.set_cons_zero, Nat.reduceAdd]
        rw [show vs 40 = _ from h40, show vs 42 = _ from h42, show vs 38 = _ from h38]
        go_wp2_with fail
        exact ⟨rfl, _, rfl, grew_refl _, by simp⟩
    · intro vs w5 hg hJ
      have j0 : vs 0 = .agg gx := hJ 0 (by decide)
      have j1 : vs 1 = .int .i64 ce := hJ 1 (by decide)
      have j2 : vs 2 = .int .i64 ce := hJ 2 (by decide)
      have j3 : vs 3 = .bool false := hJ 3 (by decide)
      have j4 : vs 4 = .bool false := hJ 4 (by decide)
      have j5 : vs 5 = .pointer (some ⟨q2, 0, none⟩) := hJ 5 (by decide)
      have j6 : vs 6 = .int .u64 (cm : Nat) := hJ 6 (by decide)
      have j7 : vs 7 = .pointer (some ⟨q2, 1, none⟩) := hJ 7 (by decide)
      have j8 : vs 8 = .int .i64 who := hJ 8 (by decide)
      have j9 : vs 9 = .pointer (some ⟨q2, 2, none⟩) := hJ 9 (by decide)
      have j10 : vs 10 = .int .i64 at_ := hJ 10 (by decide)
      have j11 : vs 11 = .int .u64 (D : Nat) := hJ 11 (by decide)
      have j12 : vs 12 = .pointer (some ⟨w.heap.size + 1, 0, none⟩) := hJ 12 (by decide)
      have j13 : vs 13 = .int .u64 (cm : Nat) := hJ 13 (by decide)
      have j14 : vs 14 = .pointer (some ⟨w.heap.size + 1, 1, none⟩) := hJ 14 (by decide)
      have j15 : vs 15 = .int .i64 who := hJ 15 (by decide)
      have j16 : vs 16 = .pointer (some ⟨w.heap.size + 1, 2, none⟩) := hJ 16 (by decide)
      have j17 : vs 17 = .int .i64 at_ := hJ 17 (by decide)
      have j18 : vs 18 = .int .u64 (D : Nat) := hJ 18 (by decide)
      have j19 : vs 19 = .bool false := hJ 19 (by decide)
      have j20 : vs 20 = .bool false := hJ 20 (by decide)
      have j21 : vs 21 = .bool false := hJ 21 (by decide)
      have j22 : vs 22 = .pointer (some ⟨q2, 0, none⟩) := hJ 22 (by decide)
      have j23 : vs 23 = .int .u64 (cm : Nat) := hJ 23 (by decide)
      have j24 : vs 24 = .pointer (some ⟨q2, 1, none⟩) := hJ 24 (by decide)
      have j25 : vs 25 = .int .i64 who := hJ 25 (by decide)
      have j26 : vs 26 = .pointer (some ⟨q2, 2, none⟩) := hJ 26 (by decide)
      have j27 : vs 27 = .int .i64 at_ := hJ 27 (by decide)
      have j28 : vs 28 = .string tw := hJ 28 (by decide)
      have j29 : vs 29 = .pointer (some ⟨w.heap.size + 1, 0, none⟩) := hJ 29 (by decide)
      have j30 : vs 30 = .int .u64 (cm : Nat) := hJ 30 (by decide)
      have j31 : vs 31 = .pointer (some ⟨w.heap.size + 1, 1, none⟩) := hJ 31 (by decide)
      have j32 : vs 32 = .int .i64 who := hJ 32 (by decide)
      have j33 : vs 33 = .pointer (some ⟨w.heap.size + 1, 2, none⟩) := hJ 33 (by decide)
      have j34 : vs 34 = .int .i64 at_ := hJ 34 (by decide)
      have j35 : vs 35 = .string tw := hJ 35 (by decide)
      have j36 : vs 36 = .bool false := hJ 36 (by decide)
      have j37 : vs 37 = .bool false := hJ 37 (by decide)
      have j38 : vs 38 = .bool false := hJ 38 (by decide)
      have j39 : vs 39 = .agg gy := hJ 39 (by decide)
      have j40 : vs 40 = .string tt := hJ 40 (by decide)
      have j41 : vs 41 = .agg gs := hJ 41 (by decide)
      have j42 : vs 42 = .string tt := hJ 42 (by decide)
      have j43 : vs 43 = .bool false := hJ 43 (by decide)
      clear hJ
      simp only [actOf, List.take_succ_cons, List.take_zero, List.drop_succ_cons, List.drop_zero, Act.put, List.setIfInBounds_toArray, List.set_cons_succ, List.set_cons_zero, Nat.reduceAdd]
      have g35 := grew_trans g34 hg
      have g15 := grew_trans g14 hg
      have G5 := grew_trans G4 hg
      clear HMK HMS HRK HRS HS0 HS1 HS2 HMX HMY HRX HRY HY0 HY1 HY2 hg G4 g34 g14 CCK CD1 CD2 CW1 CW2
      have CPA := Lib.hid (fun W hW => stparse_any tt HTS.out W hW)
      have CPB := Lib.hid (fun W => rstparse_any tt HTS.out W)
      have HIN : Hid ((stO tt.data.toList).g.2.2.length ≤ 8) := Lib.hid (stO_in tt.data.toList).len
      generalize stE tt.data.toList = ex at *
      generalize stO tt.data.toList = X at *
      obtain ⟨tcm, twho, tat, ⟨tsw, tlf⟩, ts, tl⟩ := X
      unfold StR.v at CPA CPB
      dsimp only at CPA CPB HIN
      go_upto_region 9 with fail
      clear j0 j1 j2 j3 j4 j5 j6 j7 j8 j9 j10 j11 j12 j13 j14 j15 j16 j17 j18 j19 j20 j21 j22 j23 j24 j25 j26 j27 j28 j29 j30 j31 j32 j33 j34 j35 j36 j37 j38 j39 j40 j41 j42 j43
      have HMK := Lib.hid (fun y (g : Grew w5 y) => BHMK.out y (grew_trans g15 g))
      have HMS := Lib.hid (fun y (g : Grew w5 y) => BHMS.out y (grew_trans g15 g))
      have HRK := Lib.hid (fun y (g : Grew w5 y) => BHRK.out y (grew_trans g15 g))
      have HRS := Lib.hid (fun y (g : Grew w5 y) => BHRS.out y (grew_trans g15 g))
      have HS0 := Lib.hid (fun y (g : Grew w5 y) => BHS0.out y (grew_trans g15 g))
      have HS1 := Lib.hid (fun y (g : Grew w5 y) => BHS1.out y (grew_trans g15 g))
      have HS2 := Lib.hid (fun y (g : Grew w5 y) => BHS2.out y (grew_trans g15 g))
      have HMX := Lib.hid (fun y (g : Grew w5 y) => BHMX.out y (grew_trans g35 g))
      have HMY := Lib.hid (fun y (g : Grew w5 y) => BHMY.out y (grew_trans g35 g))
      have HRX := Lib.hid (fun y (g : Grew w5 y) => BHRX.out y (grew_trans g35 g))
      have HRY := Lib.hid (fun y (g : Grew w5 y) => BHRY.out y (grew_trans g35 g))
      have HY0 := Lib.hid (fun y (g : Grew w5 y) => BHY0.out y (grew_trans g35 g))
      have HY1 := Lib.hid (fun y (g : Grew w5 y) => BHY1.out y (grew_trans g35 g))
      have HY2 := Lib.hid (fun y (g : Grew w5 y) => BHY2.out y (grew_trans g35 g))
      by_cases hce : ce = 0
      · have hf := HCE.out hce
        have CV1' := Lib.hid (CV1.out hf)
        have CV2' := Lib.hid (CV2.out hf)
        clear CV1 CV2 HCE hf
        have CV1 := CV1'
        have CV2 := CV2'
        clear CV1' CV2'
        subst hce
        refine wp_region_rel 10 (fun i => match i with
            | 0 => fun v _ => v = .int .i64 0
            | 1 => fun v _ => v = .bool true
            | 2 => fun v _ => v = .bool true
            | 3 => fun v _ => v = .agg gx
            | 4 => fun v _ => v = .agg gy
            | 5 => fun v _ => v = .int .i64 va
            | 6 => fun v _ => v = .agg gk
            | 7 => fun v _ => v = .agg gs
            | 8 => fun v _ => v = .int .i64 va
            | 9 => fun v _ => v = .bool false
            | _ => fun _ _ => True) (by kernel_rfl) (by kernel_rfl) ?_ ?_ ?_
        · intro i v x y h hg
          match i, h with
          | 0, h | 1, h | 2, h | 3, h | 4, h | 5, h | 6, h | 7, h | 8, h | 9, h => exact h
          | m + 10, _ => trivial
        · refine ⟨?_, ?_, ?_, ?_, ?_, ?_, ?_, ?_, ?_, ?_, trivial⟩
          · intro vs y hg hd
            simp only [actOf, List.take_succ_cons, List.take_zero, List.drop_succ_cons, List.drop_zero, Act.put, List.setIfInBounds_toArray, List.set_cons_succ, List.set_cons_zero, Nat.reduceAdd]
            go_wp2_with fail
            exact ⟨rfl, _, rfl, grew_refl _, rfl⟩
          · intro vs y hg hd
            obtain ⟨h0, _⟩ := hd
            replace h0 := h0 rfl
            simp only [actOf, List.take_succ_cons, List.take_zero, List.drop_succ_cons, List.drop_zero, Act.put, List.setIfInBounds_toArray, List.set_cons_succ, List.set_cons_zero, Nat.reduceAdd]
            rw [show vs 0 = _ from h0]
            go_wp2_with fail
            exact ⟨rfl, _, rfl, grew_refl _, rfl⟩
          · intro vs y hg hd
            obtain ⟨h1, _⟩ := hd
            replace h1 := h1 rfl
            simp only [actOf, List.take_succ_cons, List.take_zero, List.drop_succ_cons, List.drop_zero, Act.put, List.setIfInBounds_toArray, List.set_cons_succ, List.set_cons_zero, Nat.reduceAdd]
            rw [show vs 1 = _ from h1]
            go_wp2_with fail
            exact ⟨rfl, _, rfl, grew_refl _, rfl⟩
          · intro vs y hg hd
            have hx : (Region.binds .any { on := 2, ground := .guard } = true → vs 2 = .bool true) ∧ True := hd
            have h2 : vs 2 = .bool true := hx.1 rfl
            clear hx
            simp only [actOf, List.take_succ_cons, List.take_zero, List.drop_succ_cons, List.drop_zero, Act.put, List.setIfInBounds_toArray, List.set_cons_succ, List.set_cons_zero, Nat.reduceAdd]
            rw [show vs 2 = _ from h2]
            have hm := HMX.out y hg
            go_wp2_with (refine wpList_load_mid_want (by rfl) 36 (.tmp 5) rfl q1 0 rfl gx.toList _ hm huk rfl SLX.out ?_; simp only [Array.toArray_toList])
            exact ⟨rfl, _, rfl, grew_refl _, rfl⟩
          · intro vs y hg hd
            have hx : (Region.binds .any { on := 2, ground := .guard } = true → vs 2 = .bool true) ∧ True := hd
            have h2 : vs 2 = .bool true := hx.1 rfl
            clear hx
            simp only [actOf, List.take_succ_cons, List.take_zero, List.drop_succ_cons, List.drop_zero, Act.put, List.setIfInBounds_toArray, List.set_cons_succ, List.set_cons_zero, Nat.reduceAdd]
            rw [show vs 2 = _ from h2]
            have hm := HMY.out y hg
            go_wp2_with (refine wpList_load_mid_want (by rfl) 44 (.tmp 6) rfl q2 0 rfl gy.toList _ hm hus rfl SLY.out ?_; simp only [Array.toArray_toList])
            exact ⟨rfl, _, rfl, grew_refl _, rfl⟩
          · intro vs y hg hd
            have hx : (Region.binds .any { on := 3, ground := .data } = true → vs 3 = .agg gx) ∧ (Region.binds .any { on := 4, ground := .data } = true → vs 4 = .agg gy) ∧ (Region.binds .any { on := 2, ground := .chain } = true → vs 2 = .bool true) ∧ (Region.binds .any { on := 2, ground := .guard } = true → vs 2 = .bool true) ∧ True := hd
            have h3 : vs 3 = .agg gx := hx.1 rfl
            have h4 : vs 4 = .agg gy := hx.2.1 rfl
            have h2 : vs 2 = .bool true := hx.2.2.2.1 rfl
            clear hx
            simp only [actOf, List.take_succ_cons, List.take_zero, List.drop_succ_cons, List.drop_zero, Act.put, List.setIfInBounds_toArray, List.set_cons_succ, List.set_cons_zero, Nat.reduceAdd]
            rw [show vs 3 = _ from h3, show vs 4 = _ from h4, show vs 2 = _ from h2]
            go_wp2_with (go_at_call 26; refine (CV1.out y (HS.out.grew (grew_trans G5 hg)) (HRX.out y hg) (HRY.out y hg)).mono ?_; rintro e z ⟨rfl, gz⟩)
            exact ⟨rfl, _, rfl, gz, rfl⟩
          · intro vs y hg hd
            have hx : (Region.binds .any { on := 2, ground := .guard } = true → vs 2 = .bool true) ∧ True := hd
            have h2 : vs 2 = .bool true := hx.1 rfl
            clear hx
            simp only [actOf, List.take_succ_cons, List.take_zero, List.drop_succ_cons, List.drop_zero, Act.put, List.setIfInBounds_toArray, List.set_cons_succ, List.set_cons_zero, Nat.reduceAdd]
            rw [show vs 2 = _ from h2]
            have hm := HMK.out y hg
            go_wp2_with (refine wpList_load_mid_want (by rfl) 24 (.tmp 2) rfl w.heap.size 0 rfl gk.toList _ hm hurk rfl SLK.out ?_; simp only [Array.toArray_toList])
            exact ⟨rfl, _, rfl, grew_refl _, rfl⟩
          · intro vs y hg hd
            have hx : (Region.binds .any { on := 2, ground := .guard } = true → vs 2 = .bool true) ∧ True := hd
            have h2 : vs 2 = .bool true := hx.1 rfl
            clear hx
            simp only [actOf, List.take_succ_cons, List.take_zero, List.drop_succ_cons, List.drop_zero, Act.put, List.setIfInBounds_toArray, List.set_cons_succ, List.set_cons_zero, Nat.reduceAdd]
            rw [show vs 2 = _ from h2]
            have hm := HMS.out y hg
            go_wp2_with (refine wpList_load_mid_want (by rfl) 30 (.tmp 3) rfl (w.heap.size + 1) 0 rfl gs.toList _ hm hurs rfl SLS.out ?_; simp only [Array.toArray_toList])
            exact ⟨rfl, _, rfl, grew_refl _, rfl⟩
          · intro vs y hg hd
            have hx : (Region.binds .any { on := 6, ground := .data } = true → vs 6 = .agg gk) ∧ (Region.binds .any { on := 7, ground := .data } = true → vs 7 = .agg gs) ∧ (Region.binds .any { on := 5, ground := .chain } = true → vs 5 = .int .i64 va) ∧ (Region.binds .any { on := 2, ground := .guard } = true → vs 2 = .bool true) ∧ True := hd
            have h6 : vs 6 = .agg gk := hx.1 rfl
            have h7 : vs 7 = .agg gs := hx.2.1 rfl
            have h2 : vs 2 = .bool true := hx.2.2.2.1 rfl
            clear hx
            simp only [actOf, List.take_succ_cons, List.take_zero, List.drop_succ_cons, List.drop_zero, Act.put, List.setIfInBounds_toArray, List.set_cons_succ, List.set_cons_zero, Nat.reduceAdd]
            rw [show vs 6 = _ from h6, show vs 7 = _ from h7, show vs 2 = _ from h2]
            go_wp2_with (go_at_call 27; refine (CV2.out y (HRK.out y hg) (HRS.out y hg)).mono ?_; rintro e z ⟨rfl, gz⟩)
            exact ⟨rfl, _, rfl, gz, rfl⟩
          · intro vs y hg hd
            have hx : (Region.binds .any { on := 5, ground := .data } = true → vs 5 = .int .i64 va) ∧ (Region.binds .any { on := 8, ground := .data } = true → vs 8 = .int .i64 va) ∧ (Region.binds .any { on := 2, ground := .guard } = true → vs 2 = .bool true) ∧ True := hd
            have h5 : vs 5 = .int .i64 va := hx.1 rfl
            have h8 : vs 8 = .int .i64 va := hx.2.1 rfl
            have h2 : vs 2 = .bool true := hx.2.2.1 rfl
            clear hx
            simp only [actOf, List.take_succ_cons, List.take_zero, List.drop_succ_cons, List.drop_zero, Act.put, List.setIfInBounds_toArray, List.set_cons_succ, List.set_cons_zero, Nat.reduceAdd]
            rw [show vs 5 = _ from h5, show vs 8 = _ from h8, show vs 2 = _ from h2]
            go_wp2_with fail
            exact ⟨rfl, _, rfl, grew_refl _, by simp⟩
        · intro vs w6 hg hJ
          have j0 : vs 0 = .int .i64 0 := hJ 0 (by decide)
          have j1 : vs 1 = .bool true := hJ 1 (by decide)
          have j2 : vs 2 = .bool true := hJ 2 (by decide)
          have j3 : vs 3 = .agg gx := hJ 3 (by decide)
          have j4 : vs 4 = .agg gy := hJ 4 (by decide)
          have j5 : vs 5 = .int .i64 va := hJ 5 (by decide)
          have j6 : vs 6 = .agg gk := hJ 6 (by decide)
          have j7 : vs 7 = .agg gs := hJ 7 (by decide)
          have j8 : vs 8 = .int .i64 va := hJ 8 (by decide)
          have j9 : vs 9 = .bool false := hJ 9 (by decide)
          clear hJ
          simp only [actOf, List.take_succ_cons, List.take_zero, List.drop_succ_cons, List.drop_zero, Act.put, List.setIfInBounds_toArray, List.set_cons_succ, List.set_cons_zero, Nat.reduceAdd]
          have G6 := grew_trans G5 hg
          have g16 := grew_trans g15 hg
          have g36 := grew_trans g35 hg
          clear HMK HMS HRK HRS HS0 HS1 HS2 HMX HMY HRX HRY HY0 HY1 HY2 hg G5 g15 g35
          have hmy := BHMY.out w6 g36
          go_wp2_with (with_reducible refine wpList_load_mid rfl 44 (.tmp 6) rfl q2 0 rfl gy.toList _ hmy hus rfl SLY.out ?_; simp only [Array.toArray_toList])
          clear hmy
          refine (CX1.out w6 (HS.out.grew G6) (BHRY.out w6 g36)).mono ?_
          rintro e wa ⟨rfl, ga⟩
          have Ga := grew_trans G6 ga
          have g1a := grew_trans g16 ga
          have g3a := grew_trans g36 ga
          clear CX1 ga G6 g16 g36
          go_wp2_with fail
          refine (CPA.out wa (HS.out.grew Ga)).mono ?_
          rintro e wt ⟨⟨A5, c5, rfl, r5, -⟩, gt⟩
          obtain ⟨v7, hv7, th7, gs7, z7⟩ := put_stA wt (stC tcm twho tat tsw tlf ts (.slice A5 tl.length c5)) rfl
          have HV7 := Lib.hid hv7
          have TH7 := Lib.hid th7
          have SI7 : Hid ((Tryz.prog.info? 44).map (·.size) = some (stC tcm twho tat tsw tlf ts (.slice A5 tl.length c5)).size) := Lib.hid st_info
          have ON7 := Lib.hid (stC_one tcm twho tat tsw tlf ts A5 tl.length c5)
          have gt7 := grew_trans gt gs7
          have G7 := grew_trans Ga gt7
          have g17 := grew_trans g1a gt7
          have g37 := grew_trans g3a gt7
          have r7 := r5.gr gs7
          clear hv7 th7 gt gs7 gt7 Ga g1a g3a r5 CPA
          have hms := BHMS.out v7 g17
          go_wp2_with (first
            | (with_reducible refine wpList_store_mid rfl 44 (.tmp 8) (.tmp 91) rfl wt.heap.size 0 (stC tcm twho tat tsw tlf ts (.slice A5 tl.length c5)) rfl rfl TH7.out SI7.out ON7.out ?_; rw [HV7.out])
            | (with_reducible refine wpList_load_mid rfl 30 (.tmp 3) rfl (w.heap.size + 1) 0 rfl gs.toList _ hms hurs rfl SLS.out ?_; simp only [Array.toArray_toList]))
          clear hms HV7 TH7 SI7 ON7
          refine (CX2.out v7 (BHRS.out v7 g17)).mono ?_
          rintro e wb ⟨rfl, gb⟩
          go_wp2_with fail
          refine (CPB.out wb).mono ?_
          rintro e wu ⟨⟨A6, c6, rfl, r6, -⟩, gu⟩
          obtain ⟨v8, hv8, th8, gs8, z8⟩ := put_rstA wu (stC tcm twho tat tsw tlf ts (.slice A6 tl.length c6)) rfl
          have HV8 := Lib.hid hv8
          have TH8 := Lib.hid th8
          have SI8 : Hid ((Tryz.prog.info? 30).map (·.size) = some (stC tcm twho tat tsw tlf ts (.slice A6 tl.length c6)).size) := Lib.hid rst_info
          have ON8 := Lib.hid (stC_one tcm twho tat tsw tlf ts A6 tl.length c6)
          have g78 := grew_trans gb (grew_trans gu gs8)
          have G8 := grew_trans G7 g78
          have g18 := grew_trans g17 g78
          have g38 := grew_trans g37 g78
          have FT := Lib.hid (z7.grew g78)
          have FU := Lib.hid z8
          have FRT := Lib.hid (r7.gr g78)
          have FRU := Lib.hid (r6.gr gs8)
          clear hv8 th8 gb gu gs8 g78 G7 g17 g37 r7 r6 z7 z8 CPB CX2
          go_upto_region 13 with (with_reducible refine wpList_store_mid rfl 30 (.tmp 10) (.tmp 97) rfl wu.heap.size 0 (stC tcm twho tat tsw tlf ts (.slice A6 tl.length c6)) rfl rfl TH8.out SI8.out ON8.out ?_; rw [HV8.out])
          clear HV8 TH8 SI8 ON8
          have HMS := Lib.hid (fun y (g : Grew v8 y) => BHMS.out y (grew_trans g18 g))
          have HRS := Lib.hid (fun y (g : Grew v8 y) => BHRS.out y (grew_trans g18 g))
          have HMY := Lib.hid (fun y (g : Grew v8 y) => BHMY.out y (grew_trans g38 g))
          have HRY := Lib.hid (fun y (g : Grew v8 y) => BHRY.out y (grew_trans g38 g))
          have HMT := Lib.hid (fun y (g : Grew v8 y) => (FT.out.grew g).cell)
          have HMU := Lib.hid (fun y (g : Grew v8 y) => (FU.out.grew g).cell)
          have HRT := Lib.hid (fun y (g : Grew v8 y) => FRT.out.gr g)
          have HRU := Lib.hid (fun y (g : Grew v8 y) => FRU.out.gr g)
          have COF := Lib.hid (fun W hR => stof_ok tcm twho tat tsw tlf ts A5 c5 tl (by have := HIN.out; omega) W hR)
          have CSM := Lib.hid (fun A3 c3 W h1 h2 => rstsame_ok tcm twho tat tsw tlf ts A3 A6 c3 c6 tl (by have := HIN.out; omega) W h1 h2)
          have SLT : Hid ((Tryz.prog.info? 44).map (·.size) = some (stC tcm twho tat tsw tlf ts (.slice A5 tl.length c5)).toList.length) := Lib.hid st_info
          have SLU : Hid ((Tryz.prog.info? 30).map (·.size) = some (stC tcm twho tat tsw tlf ts (.slice A6 tl.length c6)).toList.length) := Lib.hid rst_info
          generalize stC tcm twho tat tsw tlf ts (.slice A5 tl.length c5) = gt at *
          generalize stC tcm twho tat tsw tlf ts (.slice A6 tl.length c6) = gu at *
          refine wp_region_rel 14 (fun i => match i with
              | 0 => fun v _ => v = .int .i64 ex
              | 1 => fun v _ => v = .int .i64 ex
              | 2 => fun v _ => v = .bool true
              | 3 => fun v _ => v = .bool true
              | 4 => fun v _ => v = .agg gt
              | 5 => fun v w => AgT w 0 tcm twho tat tsw tlf ts tl v
              | 6 => fun v _ => v = .agg gu
              | 7 => fun v _ => v = .bool true
              | 8 => fun v _ => v = .bool true
              | 9 => fun v _ => v = .bool true
              | 10 => fun v _ => v = .agg gy
              | 11 => fun v _ => v = .agg gy
              | 12 => fun v _ => v = .bool true
              | 13 => fun v _ => v = .bool true
              | _ => fun _ _ => True) (by kernel_rfl) (by kernel_rfl) ?_ ?_ ?_
          · intro i v x y h hg
            match i, h with
            | 0, h | 1, h | 2, h | 3, h | 4, h | 6, h | 7, h | 8, h | 9, h | 10, h | 11, h | 12, h | 13, h => exact h
            | 5, h => exact AgT.gr h hg
            | m + 14, _ => trivial
          · refine ⟨?_, ?_, ?_, ?_, ?_, ?_, ?_, ?_, ?_, ?_, ?_, ?_, ?_, ?_, trivial⟩
            · intro vs y hg hd
              simp only [actOf, List.take_succ_cons, List.take_zero, List.drop_succ_cons, List.drop_zero, Act.put, List.setIfInBounds_toArray, List.set_cons_succ, List.set_cons_zero, Nat.reduceAdd]
              go_wp2_with fail
              exact ⟨rfl, _, rfl, grew_refl _, rfl⟩
            · intro vs y hg hd
              simp only [actOf, List.take_succ_cons, List.take_zero, List.drop_succ_cons, List.drop_zero, Act.put, List.setIfInBounds_toArray, List.set_cons_succ, List.set_cons_zero, Nat.reduceAdd]
              go_wp2_with fail
              exact ⟨rfl, _, rfl, grew_refl _, rfl⟩
            · intro vs y hg hd
              obtain ⟨h0, h1, _⟩ := hd
              replace h0 := h0 rfl
              replace h1 := h1 rfl
              simp only [actOf, List.take_succ_cons, List.take_zero, List.drop_succ_cons, List.drop_zero, Act.put, List.setIfInBounds_toArray, List.set_cons_succ, List.set_cons_zero, Nat.reduceAdd]
              rw [show vs 0 = _ from h0, show vs 1 = _ from h1]
              go_wp2_with fail
              exact ⟨rfl, _, rfl, grew_refl _, by simp⟩
            · intro vs y hg hd
              obtain ⟨h2, _⟩ := hd
              replace h2 := h2 rfl
              simp only [actOf, List.take_succ_cons, List.take_zero, List.drop_succ_cons, List.drop_zero, Act.put, List.setIfInBounds_toArray, List.set_cons_succ, List.set_cons_zero, Nat.reduceAdd]
              rw [show vs 2 = _ from h2]
              go_wp2_with fail
              exact ⟨rfl, _, rfl, grew_refl _, rfl⟩
            · intro vs y hg hd
              have hx : (Region.binds .any { on := 3, ground := .guard } = true → vs 3 = .bool true) ∧ True := hd
              have h3 : vs 3 = .bool true := hx.1 rfl
              clear hx
              simp only [actOf, List.take_succ_cons, List.take_zero, List.drop_succ_cons, List.drop_zero, Act.put, List.setIfInBounds_toArray, List.set_cons_succ, List.set_cons_zero, Nat.reduceAdd]
              rw [show vs 3 = _ from h3]
              have hm := HMT.out y hg
              go_wp2_with (refine wpList_load_mid_want (by rfl) 44 (.tmp 8) rfl wt.heap.size 0 rfl gt.toList _ hm hus rfl SLT.out ?_; simp only [Array.toArray_toList])
              exact ⟨rfl, _, rfl, grew_refl _, rfl⟩
            · intro vs y hg hd
              have hx : (Region.binds .any { on := 4, ground := .data } = true → vs 4 = .agg gt) ∧ (Region.binds .any { on := 3, ground := .chain } = true → vs 3 = .bool true) ∧ (Region.binds .any { on := 3, ground := .guard } = true → vs 3 = .bool true) ∧ True := hd
              have h4 : vs 4 = .agg gt := hx.1 rfl
              have h3 : vs 3 = .bool true := hx.2.2.1 rfl
              clear hx
              simp only [actOf, List.take_succ_cons, List.take_zero, List.drop_succ_cons, List.drop_zero, Act.put, List.setIfInBounds_toArray, List.set_cons_succ, List.set_cons_zero, Nat.reduceAdd]
              rw [show vs 4 = _ from h4, show vs 3 = _ from h3]
              go_wp2_with (go_at_call 31; refine (COF.out y (HRT.out y hg)).mono ?_; rintro e z ⟨A3, c3, rfl, hr9, gz, hb9⟩)
              exact ⟨rfl, _, rfl, gz, ⟨A3, c3, rfl, hr9, fun ad h => Nat.zero_le _⟩⟩
            · intro vs y hg hd
              have hx : (Region.binds .any { on := 3, ground := .guard } = true → vs 3 = .bool true) ∧ True := hd
              have h3 : vs 3 = .bool true := hx.1 rfl
              clear hx
              simp only [actOf, List.take_succ_cons, List.take_zero, List.drop_succ_cons, List.drop_zero, Act.put, List.setIfInBounds_toArray, List.set_cons_succ, List.set_cons_zero, Nat.reduceAdd]
              rw [show vs 3 = _ from h3]
              have hm := HMU.out y hg
              go_wp2_with (refine wpList_load_mid_want (by rfl) 30 (.tmp 10) rfl wu.heap.size 0 rfl gu.toList _ hm hurs rfl SLU.out ?_; simp only [Array.toArray_toList])
              exact ⟨rfl, _, rfl, grew_refl _, rfl⟩
            · intro vs y hg hd
              have hx : (Region.binds .any { on := 5, ground := .data } = true → (fun v w => AgT w 0 tcm twho tat tsw tlf ts tl v) (vs 5) y) ∧ (Region.binds .any { on := 6, ground := .data } = true → vs 6 = .agg gu) ∧ (Region.binds .any { on := 5, ground := .chain } = true → (fun v w => AgT w 0 tcm twho tat tsw tlf ts tl v) (vs 5) y) ∧ (Region.binds .any { on := 3, ground := .guard } = true → vs 3 = .bool true) ∧ True := hd
              have h5 : (fun v w => AgT w 0 tcm twho tat tsw tlf ts tl v) (vs 5) y := hx.1 rfl
              have h6 : vs 6 = .agg gu := hx.2.1 rfl
              have h3 : vs 3 = .bool true := hx.2.2.2.1 rfl
              clear hx
              simp only [actOf, List.take_succ_cons, List.take_zero, List.drop_succ_cons, List.drop_zero, Act.put, List.setIfInBounds_toArray, List.set_cons_succ, List.set_cons_zero, Nat.reduceAdd]
              rw [show vs 6 = _ from h6, show vs 3 = _ from h3]
              obtain ⟨A3, c3, hv, hr9, hb9⟩ := AgT.out h5
              rw [hv]
              have hr2 := HRU.out y hg
              go_wp2_with (go_at_call 30; refine (CSM.out A3 c3 y hr9 hr2).mono ?_; rintro e z ⟨rfl, gz⟩)
              exact ⟨rfl, _, rfl, gz, rfl⟩
            · intro vs y hg hd
              obtain ⟨h3, h7, _⟩ := hd
              replace h3 := h3 rfl
              replace h7 := h7 rfl
              simp only [actOf, List.take_succ_cons, List.take_zero, List.drop_succ_cons, List.drop_zero, Act.put, List.setIfInBounds_toArray, List.set_cons_succ, List.set_cons_zero, Nat.reduceAdd]
              rw [show vs 3 = _ from h3, show vs 7 = _ from h7]
              go_wp2_with fail
              exact ⟨rfl, _, rfl, grew_refl _, rfl⟩
            · intro vs y hg hd
              obtain ⟨h8, _⟩ := hd
              replace h8 := h8 rfl
              simp only [actOf, List.take_succ_cons, List.take_zero, List.drop_succ_cons, List.drop_zero, Act.put, List.setIfInBounds_toArray, List.set_cons_succ, List.set_cons_zero, Nat.reduceAdd]
              rw [show vs 8 = _ from h8]
              go_wp2_with fail
              exact ⟨rfl, _, rfl, grew_refl _, rfl⟩
            · intro vs y hg hd
              have hx : (Region.binds .any { on := 9, ground := .guard } = true → vs 9 = .bool true) ∧ True := hd
              have h9 : vs 9 = .bool true := hx.1 rfl
              clear hx
              simp only [actOf, List.take_succ_cons, List.take_zero, List.drop_succ_cons, List.drop_zero, Act.put, List.setIfInBounds_toArray, List.set_cons_succ, List.set_cons_zero, Nat.reduceAdd]
              rw [show vs 9 = _ from h9]
              have hm := HMY.out y hg
              go_wp2_with (refine wpList_load_mid_want (by rfl) 44 (.tmp 6) rfl q2 0 rfl gy.toList _ hm hus rfl SLY.out ?_; simp only [Array.toArray_toList])
              exact ⟨rfl, _, rfl, grew_refl _, rfl⟩
            · intro vs y hg hd
              have hx : (Region.binds .any { on := 9, ground := .guard } = true → vs 9 = .bool true) ∧ True := hd
              have h9 : vs 9 = .bool true := hx.1 rfl
              clear hx
              simp only [actOf, List.take_succ_cons, List.take_zero, List.drop_succ_cons, List.drop_zero, Act.put, List.setIfInBounds_toArray, List.set_cons_succ, List.set_cons_zero, Nat.reduceAdd]
              rw [show vs 9 = _ from h9]
              have hm := HMY.out y hg
              go_wp2_with (refine wpList_load_mid_want (by rfl) 44 (.tmp 6) rfl q2 0 rfl gy.toList _ hm hus rfl SLY.out ?_; simp only [Array.toArray_toList])
              exact ⟨rfl, _, rfl, grew_refl _, rfl⟩
            · intro vs y hg hd
              have hx : (Region.binds .any { on := 10, ground := .data } = true → vs 10 = .agg gy) ∧ (Region.binds .any { on := 11, ground := .data } = true → vs 11 = .agg gy) ∧ (Region.binds .any { on := 9, ground := .chain } = true → vs 9 = .bool true) ∧ (Region.binds .any { on := 9, ground := .guard } = true → vs 9 = .bool true) ∧ True := hd
              have h10 : vs 10 = .agg gy := hx.1 rfl
              have h11 : vs 11 = .agg gy := hx.2.1 rfl
              have h9 : vs 9 = .bool true := hx.2.2.2.1 rfl
              clear hx
              simp only [actOf, List.take_succ_cons, List.take_zero, List.drop_succ_cons, List.drop_zero, Act.put, List.setIfInBounds_toArray, List.set_cons_succ, List.set_cons_zero, Nat.reduceAdd]
              rw [show vs 10 = _ from h10, show vs 11 = _ from h11, show vs 9 = _ from h9]
              go_wp2_with (go_at_call 32; refine (CSY.out y (HRY.out y hg)).mono ?_; rintro e z ⟨rfl, gz⟩)
              exact ⟨rfl, _, rfl, gz, rfl⟩
            · intro vs y hg hd
              obtain ⟨h9, h12, _⟩ := hd
              replace h9 := h9 rfl
              replace h12 := h12 rfl
              simp only [actOf, List.take_succ_cons, List.take_zero, List.drop_succ_cons, List.drop_zero, Act.put, List.setIfInBounds_toArray, List.set_cons_succ, List.set_cons_zero, Nat.reduceAdd]
              rw [show vs 9 = _ from h9, show vs 12 = _ from h12]
              go_wp2_with fail
              exact ⟨rfl, _, rfl, grew_refl _, rfl⟩
          · intro vs y hg hJ
            have j0 : vs 0 = .int .i64 ex := hJ 0 (by decide)
            have j1 : vs 1 = .int .i64 ex := hJ 1 (by decide)
            have j2 : vs 2 = .bool true := hJ 2 (by decide)
            have j3 : vs 3 = .bool true := hJ 3 (by decide)
            have j4 : vs 4 = .agg gt := hJ 4 (by decide)
            have j6 : vs 6 = .agg gu := hJ 6 (by decide)
            have j7 : vs 7 = .bool true := hJ 7 (by decide)
            have j8 : vs 8 = .bool true := hJ 8 (by decide)
            have j9 : vs 9 = .bool true := hJ 9 (by decide)
            have j10 : vs 10 = .agg gy := hJ 10 (by decide)
            have j11 : vs 11 = .agg gy := hJ 11 (by decide)
            have j12 : vs 12 = .bool true := hJ 12 (by decide)
            have j13 : vs 13 = .bool true := hJ 13 (by decide)
            have s104 := hJ 5 (by decide)
            clear hJ
            simp only [actOf, List.take_succ_cons, List.take_zero, List.drop_succ_cons, List.drop_zero, Act.put, List.setIfInBounds_toArray, List.set_cons_succ, List.set_cons_zero, Nat.reduceAdd]
            go_wp2_with fail
            go_ret
            exact ⟨rfl, grew_trans G8 hg⟩
      · have e1 : (ce == 0) = false := by simpa using hce
        clear hce CV1 CV2 HCE
        refine wp_region_rel 10 (fun i => match i with
            | 0 => fun v _ => v = .int .i64 ce
            | 1 => fun v _ => v = .bool false
            | 2 => fun v _ => v = .bool false
            | 3 => fun v _ => v = undef
            | 4 => fun v _ => v = undef
            | 5 => fun v _ => v = undef
            | 6 => fun v _ => v = undef
            | 7 => fun v _ => v = undef
            | 8 => fun v _ => v = undef
            | 9 => fun v _ => v = undef
            | _ => fun _ _ => True) (by kernel_rfl) (by kernel_rfl) ?_ ?_ ?_
        · intro i v x y h hg
          match i, h with
          | 0, h | 1, h | 2, h | 3, h | 4, h | 5, h | 6, h | 7, h | 8, h | 9, h => exact h
          | m + 10, _ => trivial
        · refine ⟨?_, ?_, ?_, ?_, ?_, ?_, ?_, ?_, ?_, ?_, trivial⟩
          · intro vs y hg hd
            simp only [actOf, List.take_succ_cons, List.take_zero, List.drop_succ_cons, List.drop_zero, Act.put, List.setIfInBounds_toArray, List.set_cons_succ, List.set_cons_zero, Nat.reduceAdd]
            go_wp2_with fail
            exact ⟨rfl, _, rfl, grew_refl _, rfl⟩
          · intro vs y hg hd
            obtain ⟨h0, _⟩ := hd
            replace h0 := h0 rfl
            simp only [actOf, List.take_succ_cons, List.take_zero, List.drop_succ_cons, List.drop_zero, Act.put, List.setIfInBounds_toArray, List.set_cons_succ, List.set_cons_zero, Nat.reduceAdd]
            rw [show vs 0 = _ from h0]
            go_wp2_with fail
            exact ⟨rfl, _, rfl, grew_refl _, rfl⟩
          · intro vs y hg hd
            obtain ⟨h1, _⟩ := hd
            replace h1 := h1 rfl
            simp only [actOf, List.take_succ_cons, List.take_zero, List.drop_succ_cons, List.drop_zero, Act.put, List.setIfInBounds_toArray, List.set_cons_succ, List.set_cons_zero, Nat.reduceAdd]
            rw [show vs 1 = _ from h1]
            go_wp2_with fail
            exact ⟨rfl, _, rfl, grew_refl _, rfl⟩
          · intro vs y hg hd
            have hx : (Region.binds .any { on := 2, ground := .guard } = true → vs 2 = .bool false) ∧ True := hd
            have h2 : vs 2 = .bool false := hx.1 rfl
            clear hx
            simp only [actOf, List.take_succ_cons, List.take_zero, List.drop_succ_cons, List.drop_zero, Act.put, List.setIfInBounds_toArray, List.set_cons_succ, List.set_cons_zero, Nat.reduceAdd]
            rw [show vs 2 = _ from h2]
            go_wp2_with fail
            exact ⟨rfl, _, rfl, grew_refl _, rfl⟩
          · intro vs y hg hd
            have hx : (Region.binds .any { on := 2, ground := .guard } = true → vs 2 = .bool false) ∧ True := hd
            have h2 : vs 2 = .bool false := hx.1 rfl
            clear hx
            simp only [actOf, List.take_succ_cons, List.take_zero, List.drop_succ_cons, List.drop_zero, Act.put, List.setIfInBounds_toArray, List.set_cons_succ, List.set_cons_zero, Nat.reduceAdd]
            rw [show vs 2 = _ from h2]
            go_wp2_with fail
            exact ⟨rfl, _, rfl, grew_refl _, rfl⟩
          · intro vs y hg hd
            have hx : (Region.binds .any { on := 3, ground := .data } = true → vs 3 = undef) ∧ (Region.binds .any { on := 4, ground := .data } = true → vs 4 = undef) ∧ (Region.binds .any { on := 2, ground := .chain } = true → vs 2 = .bool false) ∧ (Region.binds .any { on := 2, ground := .guard } = true → vs 2 = .bool false) ∧ True := hd
            have h3 : vs 3 = undef := hx.1 rfl
            have h4 : vs 4 = undef := hx.2.1 rfl
            have h2 : vs 2 = .bool false := hx.2.2.2.1 rfl
            clear hx
            simp only [actOf, List.take_succ_cons, List.take_zero, List.drop_succ_cons, List.drop_zero, Act.put, List.setIfInBounds_toArray, List.set_cons_succ, List.set_cons_zero, Nat.reduceAdd]
            rw [show vs 3 = _ from h3, show vs 4 = _ from h4, show vs 2 = _ from h2]
            go_wp2_with fail
            exact ⟨rfl, _, rfl, grew_refl _, rfl⟩
          · intro vs y hg hd
            have hx : (Region.binds .any { on := 2, ground := .guard } = true → vs 2 = .bool false) ∧ True := hd
            have h2 : vs 2 = .bool false := hx.1 rfl
            clear hx
            simp only [actOf, List.take_succ_cons, List.take_zero, List.drop_succ_cons, List.drop_zero, Act.put, List.setIfInBounds_toArray, List.set_cons_succ, List.set_cons_zero, Nat.reduceAdd]
            rw [show vs 2 = _ from h2]
            go_wp2_with fail
            exact ⟨rfl, _, rfl, grew_refl _, rfl⟩
          · intro vs y hg hd
            have hx : (Region.binds .any { on := 2, ground := .guard } = true → vs 2 = .bool false) ∧ True := hd
            have h2 : vs 2 = .bool false := hx.1 rfl
            clear hx
            simp only [actOf, List.take_succ_cons, List.take_zero, List.drop_succ_cons, List.drop_zero, Act.put, List.setIfInBounds_toArray, List.set_cons_succ, List.set_cons_zero, Nat.reduceAdd]
            rw [show vs 2 = _ from h2]
            go_wp2_with fail
            exact ⟨rfl, _, rfl, grew_refl _, rfl⟩
          · intro vs y hg hd
            have hx : (Region.binds .any { on := 6, ground := .data } = true → vs 6 = undef) ∧ (Region.binds .any { on := 7, ground := .data } = true → vs 7 = undef) ∧ (Region.binds .any { on := 5, ground := .chain } = true → vs 5 = undef) ∧ (Region.binds .any { on := 2, ground := .guard } = true → vs 2 = .bool false) ∧ True := hd
            have h6 : vs 6 = undef := hx.1 rfl
            have h7 : vs 7 = undef := hx.2.1 rfl
            have h2 : vs 2 = .bool false := hx.2.2.2.1 rfl
            clear hx
            simp only [actOf, List.take_succ_cons, List.take_zero, List.drop_succ_cons, List.drop_zero, Act.put, List.setIfInBounds_toArray, List.set_cons_succ, List.set_cons_zero, Nat.reduceAdd]
            rw [show vs 6 = _ from h6, show vs 7 = _ from h7, show vs 2 = _ from h2]
            go_wp2_with fail
            exact ⟨rfl, _, rfl, grew_refl _, rfl⟩
          · intro vs y hg hd
            have hx : (Region.binds .any { on := 5, ground := .data } = true → vs 5 = undef) ∧ (Region.binds .any { on := 8, ground := .data } = true → vs 8 = undef) ∧ (Region.binds .any { on := 2, ground := .guard } = true → vs 2 = .bool false) ∧ True := hd
            have h5 : vs 5 = undef := hx.1 rfl
            have h8 : vs 8 = undef := hx.2.1 rfl
            have h2 : vs 2 = .bool false := hx.2.2.1 rfl
            clear hx
            simp only [actOf, List.take_succ_cons, List.take_zero, List.drop_succ_cons, List.drop_zero, Act.put, List.setIfInBounds_toArray, List.set_cons_succ, List.set_cons_zero, Nat.reduceAdd]
            rw [show vs 5 = _ from h5, show vs 8 = _ from h8, show vs 2 = _ from h2]
            go_wp2_with fail
            exact ⟨rfl, _, rfl, grew_refl _, rfl⟩
        · intro vs w6 hg hJ
          have j0 : vs 0 = .int .i64 ce := hJ 0 (by decide)
          have j1 : vs 1 = .bool false := hJ 1 (by decide)
          have j2 : vs 2 = .bool false := hJ 2 (by decide)
          have j3 : vs 3 = undef := hJ 3 (by decide)
          have j4 : vs 4 = undef := hJ 4 (by decide)
          have j5 : vs 5 = undef := hJ 5 (by decide)
          have j6 : vs 6 = undef := hJ 6 (by decide)
          have j7 : vs 7 = undef := hJ 7 (by decide)
          have j8 : vs 8 = undef := hJ 8 (by decide)
          have j9 : vs 9 = undef := hJ 9 (by decide)
          clear hJ
          simp only [actOf, List.take_succ_cons, List.take_zero, List.drop_succ_cons, List.drop_zero, Act.put, List.setIfInBounds_toArray, List.set_cons_succ, List.set_cons_zero, Nat.reduceAdd]
          have G6 := grew_trans G5 hg
          have g16 := grew_trans g15 hg
          have g36 := grew_trans g35 hg
          clear HMK HMS HRK HRS HS0 HS1 HS2 HMX HMY HRX HRY HY0 HY1 HY2 hg G5 g15 g35
          have hmy := BHMY.out w6 g36
          go_wp2_with (with_reducible refine wpList_load_mid rfl 44 (.tmp 6) rfl q2 0 rfl gy.toList _ hmy hus rfl SLY.out ?_; simp only [Array.toArray_toList])
          clear hmy
          refine (CX1.out w6 (HS.out.grew G6) (BHRY.out w6 g36)).mono ?_
          rintro e wa ⟨rfl, ga⟩
          have Ga := grew_trans G6 ga
          have g1a := grew_trans g16 ga
          have g3a := grew_trans g36 ga
          clear CX1 ga G6 g16 g36
          go_wp2_with fail
          refine (CPA.out wa (HS.out.grew Ga)).mono ?_
          rintro e wt ⟨⟨A5, c5, rfl, r5, -⟩, gt⟩
          obtain ⟨v7, hv7, th7, gs7, z7⟩ := put_stA wt (stC tcm twho tat tsw tlf ts (.slice A5 tl.length c5)) rfl
          have HV7 := Lib.hid hv7
          have TH7 := Lib.hid th7
          have SI7 : Hid ((Tryz.prog.info? 44).map (·.size) = some (stC tcm twho tat tsw tlf ts (.slice A5 tl.length c5)).size) := Lib.hid st_info
          have ON7 := Lib.hid (stC_one tcm twho tat tsw tlf ts A5 tl.length c5)
          have gt7 := grew_trans gt gs7
          have G7 := grew_trans Ga gt7
          have g17 := grew_trans g1a gt7
          have g37 := grew_trans g3a gt7
          have r7 := r5.gr gs7
          clear hv7 th7 gt gs7 gt7 Ga g1a g3a r5 CPA
          have hms := BHMS.out v7 g17
          go_wp2_with (first
            | (with_reducible refine wpList_store_mid rfl 44 (.tmp 8) (.tmp 91) rfl wt.heap.size 0 (stC tcm twho tat tsw tlf ts (.slice A5 tl.length c5)) rfl rfl TH7.out SI7.out ON7.out ?_; rw [HV7.out])
            | (with_reducible refine wpList_load_mid rfl 30 (.tmp 3) rfl (w.heap.size + 1) 0 rfl gs.toList _ hms hurs rfl SLS.out ?_; simp only [Array.toArray_toList]))
          clear hms HV7 TH7 SI7 ON7
          refine (CX2.out v7 (BHRS.out v7 g17)).mono ?_
          rintro e wb ⟨rfl, gb⟩
          go_wp2_with fail
          refine (CPB.out wb).mono ?_
          rintro e wu ⟨⟨A6, c6, rfl, r6, -⟩, gu⟩
          obtain ⟨v8, hv8, th8, gs8, z8⟩ := put_rstA wu (stC tcm twho tat tsw tlf ts (.slice A6 tl.length c6)) rfl
          have HV8 := Lib.hid hv8
          have TH8 := Lib.hid th8
          have SI8 : Hid ((Tryz.prog.info? 30).map (·.size) = some (stC tcm twho tat tsw tlf ts (.slice A6 tl.length c6)).size) := Lib.hid rst_info
          have ON8 := Lib.hid (stC_one tcm twho tat tsw tlf ts A6 tl.length c6)
          have g78 := grew_trans gb (grew_trans gu gs8)
          have G8 := grew_trans G7 g78
          have g18 := grew_trans g17 g78
          have g38 := grew_trans g37 g78
          have FT := Lib.hid (z7.grew g78)
          have FU := Lib.hid z8
          have FRT := Lib.hid (r7.gr g78)
          have FRU := Lib.hid (r6.gr gs8)
          clear hv8 th8 gb gu gs8 g78 G7 g17 g37 r7 r6 z7 z8 CPB CX2
          go_upto_region 13 with (with_reducible refine wpList_store_mid rfl 30 (.tmp 10) (.tmp 97) rfl wu.heap.size 0 (stC tcm twho tat tsw tlf ts (.slice A6 tl.length c6)) rfl rfl TH8.out SI8.out ON8.out ?_; rw [HV8.out])
          clear HV8 TH8 SI8 ON8
          have HMS := Lib.hid (fun y (g : Grew v8 y) => BHMS.out y (grew_trans g18 g))
          have HRS := Lib.hid (fun y (g : Grew v8 y) => BHRS.out y (grew_trans g18 g))
          have HMY := Lib.hid (fun y (g : Grew v8 y) => BHMY.out y (grew_trans g38 g))
          have HRY := Lib.hid (fun y (g : Grew v8 y) => BHRY.out y (grew_trans g38 g))
          have HMT := Lib.hid (fun y (g : Grew v8 y) => (FT.out.grew g).cell)
          have HMU := Lib.hid (fun y (g : Grew v8 y) => (FU.out.grew g).cell)
          have HRT := Lib.hid (fun y (g : Grew v8 y) => FRT.out.gr g)
          have HRU := Lib.hid (fun y (g : Grew v8 y) => FRU.out.gr g)
          have COF := Lib.hid (fun W hR => stof_ok tcm twho tat tsw tlf ts A5 c5 tl (by have := HIN.out; omega) W hR)
          have CSM := Lib.hid (fun A3 c3 W h1 h2 => rstsame_ok tcm twho tat tsw tlf ts A3 A6 c3 c6 tl (by have := HIN.out; omega) W h1 h2)
          have SLT : Hid ((Tryz.prog.info? 44).map (·.size) = some (stC tcm twho tat tsw tlf ts (.slice A5 tl.length c5)).toList.length) := Lib.hid st_info
          have SLU : Hid ((Tryz.prog.info? 30).map (·.size) = some (stC tcm twho tat tsw tlf ts (.slice A6 tl.length c6)).toList.length) := Lib.hid rst_info
          generalize stC tcm twho tat tsw tlf ts (.slice A5 tl.length c5) = gt at *
          generalize stC tcm twho tat tsw tlf ts (.slice A6 tl.length c6) = gu at *
          refine wp_region_rel 14 (fun i => match i with
              | 0 => fun v _ => v = .int .i64 ex
              | 1 => fun v _ => v = .int .i64 ex
              | 2 => fun v _ => v = .bool true
              | 3 => fun v _ => v = .bool true
              | 4 => fun v _ => v = .agg gt
              | 5 => fun v w => AgT w 0 tcm twho tat tsw tlf ts tl v
              | 6 => fun v _ => v = .agg gu
              | 7 => fun v _ => v = .bool true
              | 8 => fun v _ => v = .bool true
              | 9 => fun v _ => v = .bool true
              | 10 => fun v _ => v = .agg gy
              | 11 => fun v _ => v = .agg gy
              | 12 => fun v _ => v = .bool true
              | 13 => fun v _ => v = .bool true
              | _ => fun _ _ => True) (by kernel_rfl) (by kernel_rfl) ?_ ?_ ?_
          · intro i v x y h hg
            match i, h with
            | 0, h | 1, h | 2, h | 3, h | 4, h | 6, h | 7, h | 8, h | 9, h | 10, h | 11, h | 12, h | 13, h => exact h
            | 5, h => exact AgT.gr h hg
            | m + 14, _ => trivial
          · refine ⟨?_, ?_, ?_, ?_, ?_, ?_, ?_, ?_, ?_, ?_, ?_, ?_, ?_, ?_, trivial⟩
            · intro vs y hg hd
              simp only [actOf, List.take_succ_cons, List.take_zero, List.drop_succ_cons, List.drop_zero, Act.put, List.setIfInBounds_toArray, List.set_cons_succ, List.set_cons_zero, Nat.reduceAdd]
              go_wp2_with fail
              exact ⟨rfl, _, rfl, grew_refl _, rfl⟩
            · intro vs y hg hd
              simp only [actOf, List.take_succ_cons, List.take_zero, List.drop_succ_cons, List.drop_zero, Act.put, List.setIfInBounds_toArray, List.set_cons_succ, List.set_cons_zero, Nat.reduceAdd]
              go_wp2_with fail
              exact ⟨rfl, _, rfl, grew_refl _, rfl⟩
            · intro vs y hg hd
              obtain ⟨h0, h1, _⟩ := hd
              replace h0 := h0 rfl
              replace h1 := h1 rfl
              simp only [actOf, List.take_succ_cons, List.take_zero, List.drop_succ_cons, List.drop_zero, Act.put, List.setIfInBounds_toArray, List.set_cons_succ, List.set_cons_zero, Nat.reduceAdd]
              rw [show vs 0 = _ from h0, show vs 1 = _ from h1]
              go_wp2_with fail
              exact ⟨rfl, _, rfl, grew_refl _, by simp⟩
            · intro vs y hg hd
              obtain ⟨h2, _⟩ := hd
              replace h2 := h2 rfl
              simp only [actOf, List.take_succ_cons, List.take_zero, List.drop_succ_cons, List.drop_zero, Act.put, List.setIfInBounds_toArray, List.set_cons_succ, List.set_cons_zero, Nat.reduceAdd]
              rw [show vs 2 = _ from h2]
              go_wp2_with fail
              exact ⟨rfl, _, rfl, grew_refl _, rfl⟩
            · intro vs y hg hd
              have hx : (Region.binds .any { on := 3, ground := .guard } = true → vs 3 = .bool true) ∧ True := hd
              have h3 : vs 3 = .bool true := hx.1 rfl
              clear hx
              simp only [actOf, List.take_succ_cons, List.take_zero, List.drop_succ_cons, List.drop_zero, Act.put, List.setIfInBounds_toArray, List.set_cons_succ, List.set_cons_zero, Nat.reduceAdd]
              rw [show vs 3 = _ from h3]
              have hm := HMT.out y hg
              go_wp2_with (refine wpList_load_mid_want (by rfl) 44 (.tmp 8) rfl wt.heap.size 0 rfl gt.toList _ hm hus rfl SLT.out ?_; simp only [Array.toArray_toList])
              exact ⟨rfl, _, rfl, grew_refl _, rfl⟩
            · intro vs y hg hd
              have hx : (Region.binds .any { on := 4, ground := .data } = true → vs 4 = .agg gt) ∧ (Region.binds .any { on := 3, ground := .chain } = true → vs 3 = .bool true) ∧ (Region.binds .any { on := 3, ground := .guard } = true → vs 3 = .bool true) ∧ True := hd
              have h4 : vs 4 = .agg gt := hx.1 rfl
              have h3 : vs 3 = .bool true := hx.2.2.1 rfl
              clear hx
              simp only [actOf, List.take_succ_cons, List.take_zero, List.drop_succ_cons, List.drop_zero, Act.put, List.setIfInBounds_toArray, List.set_cons_succ, List.set_cons_zero, Nat.reduceAdd]
              rw [show vs 4 = _ from h4, show vs 3 = _ from h3]
              go_wp2_with (go_at_call 31; refine (COF.out y (HRT.out y hg)).mono ?_; rintro e z ⟨A3, c3, rfl, hr9, gz, hb9⟩)
              exact ⟨rfl, _, rfl, gz, ⟨A3, c3, rfl, hr9, fun ad h => Nat.zero_le _⟩⟩
            · intro vs y hg hd
              have hx : (Region.binds .any { on := 3, ground := .guard } = true → vs 3 = .bool true) ∧ True := hd
              have h3 : vs 3 = .bool true := hx.1 rfl
              clear hx
              simp only [actOf, List.take_succ_cons, List.take_zero, List.drop_succ_cons, List.drop_zero, Act.put, List.setIfInBounds_toArray, List.set_cons_succ, List.set_cons_zero, Nat.reduceAdd]
              rw [show vs 3 = _ from h3]
              have hm := HMU.out y hg
              go_wp2_with (refine wpList_load_mid_want (by rfl) 30 (.tmp 10) rfl wu.heap.size 0 rfl gu.toList _ hm hurs rfl SLU.out ?_; simp only [Array.toArray_toList])
              exact ⟨rfl, _, rfl, grew_refl _, rfl⟩
            · intro vs y hg hd
              have hx : (Region.binds .any { on := 5, ground := .data } = true → (fun v w => AgT w 0 tcm twho tat tsw tlf ts tl v) (vs 5) y) ∧ (Region.binds .any { on := 6, ground := .data } = true → vs 6 = .agg gu) ∧ (Region.binds .any { on := 5, ground := .chain } = true → (fun v w => AgT w 0 tcm twho tat tsw tlf ts tl v) (vs 5) y) ∧ (Region.binds .any { on := 3, ground := .guard } = true → vs 3 = .bool true) ∧ True := hd
              have h5 : (fun v w => AgT w 0 tcm twho tat tsw tlf ts tl v) (vs 5) y := hx.1 rfl
              have h6 : vs 6 = .agg gu := hx.2.1 rfl
              have h3 : vs 3 = .bool true := hx.2.2.2.1 rfl
              clear hx
              simp only [actOf, List.take_succ_cons, List.take_zero, List.drop_succ_cons, List.drop_zero, Act.put, List.setIfInBounds_toArray, List.set_cons_succ, List.set_cons_zero, Nat.reduceAdd]
              rw [show vs 6 = _ from h6, show vs 3 = _ from h3]
              obtain ⟨A3, c3, hv, hr9, hb9⟩ := AgT.out h5
              rw [hv]
              have hr2 := HRU.out y hg
              go_wp2_with (go_at_call 30; refine (CSM.out A3 c3 y hr9 hr2).mono ?_; rintro e z ⟨rfl, gz⟩)
              exact ⟨rfl, _, rfl, gz, rfl⟩
            · intro vs y hg hd
              obtain ⟨h3, h7, _⟩ := hd
              replace h3 := h3 rfl
              replace h7 := h7 rfl
              simp only [actOf, List.take_succ_cons, List.take_zero, List.drop_succ_cons, List.drop_zero, Act.put, List.setIfInBounds_toArray, List.set_cons_succ, List.set_cons_zero, Nat.reduceAdd]
              rw [show vs 3 = _ from h3, show vs 7 = _ from h7]
              go_wp2_with fail
              exact ⟨rfl, _, rfl, grew_refl _, rfl⟩
            · intro vs y hg hd
              obtain ⟨h8, _⟩ := hd
              replace h8 := h8 rfl
              simp only [actOf, List.take_succ_cons, List.take_zero, List.drop_succ_cons, List.drop_zero, Act.put, List.setIfInBounds_toArray, List.set_cons_succ, List.set_cons_zero, Nat.reduceAdd]
              rw [show vs 8 = _ from h8]
              go_wp2_with fail
              exact ⟨rfl, _, rfl, grew_refl _, rfl⟩
            · intro vs y hg hd
              have hx : (Region.binds .any { on := 9, ground := .guard } = true → vs 9 = .bool true) ∧ True := hd
              have h9 : vs 9 = .bool true := hx.1 rfl
              clear hx
              simp only [actOf, List.take_succ_cons, List.take_zero, List.drop_succ_cons, List.drop_zero, Act.put, List.setIfInBounds_toArray, List.set_cons_succ, List.set_cons_zero, Nat.reduceAdd]
              rw [show vs 9 = _ from h9]
              have hm := HMY.out y hg
              go_wp2_with (refine wpList_load_mid_want (by rfl) 44 (.tmp 6) rfl q2 0 rfl gy.toList _ hm hus rfl SLY.out ?_; simp only [Array.toArray_toList])
              exact ⟨rfl, _, rfl, grew_refl _, rfl⟩
            · intro vs y hg hd
              have hx : (Region.binds .any { on := 9, ground := .guard } = true → vs 9 = .bool true) ∧ True := hd
              have h9 : vs 9 = .bool true := hx.1 rfl
              clear hx
              simp only [actOf, List.take_succ_cons, List.take_zero, List.drop_succ_cons, List.drop_zero, Act.put, List.setIfInBounds_toArray, List.set_cons_succ, List.set_cons_zero, Nat.reduceAdd]
              rw [show vs 9 = _ from h9]
              have hm := HMY.out y hg
              go_wp2_with (refine wpList_load_mid_want (by rfl) 44 (.tmp 6) rfl q2 0 rfl gy.toList _ hm hus rfl SLY.out ?_; simp only [Array.toArray_toList])
              exact ⟨rfl, _, rfl, grew_refl _, rfl⟩
            · intro vs y hg hd
              have hx : (Region.binds .any { on := 10, ground := .data } = true → vs 10 = .agg gy) ∧ (Region.binds .any { on := 11, ground := .data } = true → vs 11 = .agg gy) ∧ (Region.binds .any { on := 9, ground := .chain } = true → vs 9 = .bool true) ∧ (Region.binds .any { on := 9, ground := .guard } = true → vs 9 = .bool true) ∧ True := hd
              have h10 : vs 10 = .agg gy := hx.1 rfl
              have h11 : vs 11 = .agg gy := hx.2.1 rfl
              have h9 : vs 9 = .bool true := hx.2.2.2.1 rfl
              clear hx
              simp only [actOf, List.take_succ_cons, List.take_zero, List.drop_succ_cons, List.drop_zero, Act.put, List.setIfInBounds_toArray, List.set_cons_succ, List.set_cons_zero, Nat.reduceAdd]
              rw [show vs 10 = _ from h10, show vs 11 = _ from h11, show vs 9 = _ from h9]
              go_wp2_with (go_at_call 32; refine (CSY.out y (HRY.out y hg)).mono ?_; rintro e z ⟨rfl, gz⟩)
              exact ⟨rfl, _, rfl, gz, rfl⟩
            · intro vs y hg hd
              obtain ⟨h9, h12, _⟩ := hd
              replace h9 := h9 rfl
              replace h12 := h12 rfl
              simp only [actOf, List.take_succ_cons, List.take_zero, List.drop_succ_cons, List.drop_zero, Act.put, List.setIfInBounds_toArray, List.set_cons_succ, List.set_cons_zero, Nat.reduceAdd]
              rw [show vs 9 = _ from h9, show vs 12 = _ from h12]
              go_wp2_with fail
              exact ⟨rfl, _, rfl, grew_refl _, rfl⟩
          · intro vs y hg hJ
            have j0 : vs 0 = .int .i64 ex := hJ 0 (by decide)
            have j1 : vs 1 = .int .i64 ex := hJ 1 (by decide)
            have j2 : vs 2 = .bool true := hJ 2 (by decide)
            have j3 : vs 3 = .bool true := hJ 3 (by decide)
            have j4 : vs 4 = .agg gt := hJ 4 (by decide)
            have j6 : vs 6 = .agg gu := hJ 6 (by decide)
            have j7 : vs 7 = .bool true := hJ 7 (by decide)
            have j8 : vs 8 = .bool true := hJ 8 (by decide)
            have j9 : vs 9 = .bool true := hJ 9 (by decide)
            have j10 : vs 10 = .agg gy := hJ 10 (by decide)
            have j11 : vs 11 = .agg gy := hJ 11 (by decide)
            have j12 : vs 12 = .bool true := hJ 12 (by decide)
            have j13 : vs 13 = .bool true := hJ 13 (by decide)
            have s104 := hJ 5 (by decide)
            clear hJ
            simp only [actOf, List.take_succ_cons, List.take_zero, List.drop_succ_cons, List.drop_zero, Act.put, List.setIfInBounds_toArray, List.set_cons_succ, List.set_cons_zero, Nat.reduceAdd]
            go_wp2_with fail
            go_ret
            exact ⟨rfl, grew_trans G8 hg⟩
end Go.Proofs.YtaeopobofmpioaaGreatDoor
